import Derived.Test.YtbgilndohccicaaGreatDoorBz34
import Derived.Test.YtbgilndohccicaaGreatDoorBz37
namespace Go.Proofs.YtbgilndohccicaaGreatDoor
open Go.RowKit
set_option maxHeartbeats 4000000 in
set_option maxRecDepth 100000 in
theorem judge_f2 (x:KX) (os:Sch) (c:HC) (fa:Option Addr) (m fc base:Nat) (at_:Int) (w:World) (K:KC w x os) (hU:Uq os) (hV:UV w base (.slice fa m fc) c.l) (hq1:(c.s != 0)=true) (hq2:(c.sa==at_)=false) (hat:0≤at_) (hat':at_≤1000) (hF:∀ f∈c.l,0≤f.sa∧f.sa≤1004∧f.su.size≤400) (hl:c.l.length≤6) :
  Calls Tryz.prog 103 #[.agg #[.int .u8 c.n,.int .u8 c.s,.int .i64 c.p,.int .i64 c.sa,.slice fa m fc],.slice (some ⟨x.g,0,none⟩) os.length x.cap,.int .i64 at_] w fun e w'=>e=.returned (.int .i64 (jFs (fof os (srcI (vsO os) c.n c.s)) at_ c.l))∧Below w.heap.size w w':=by
 obtain ⟨hmn,hcx⟩:=hV.cellsX
 have HM:Hid (m=c.l.length):=hmn
 have hm6:m≤6:=by omega
 have HC:Hid (∀ i,i < m→∃ g,fa=some ⟨g,0,none⟩∧g < w.heap.size∧UCell w g i (c.l[i]?.getD noGU)):=hcx
 have HF:Hid (∀ f∈c.l,0≤f.sa∧f.sa≤1004∧f.su.size≤400):=hF
 have HK:Hid (KC w x os):=K
 have HU:Hid (Uq os):=hU
 obtain ⟨src,hsrc⟩:∃ src,src=srcI (vsO os) c.n c.s:=⟨_,rfl⟩
 rw [← hsrc]
 obtain ⟨W,hW⟩:∃ W,W=w.alloc (.cells #[.int .u8 c.n,.int .u8 c.s,.int .i64 c.p,.int .i64 c.sa,.slice fa m fc] 140):=⟨_,rfl⟩
 have B0:Below w.heap.size w W:=by rw [hW]; exact (Below.refl _ _).alloc (Nat.le_refl _) _
 have z0:w.heap.size < W.heap.size:=by rw [hW]; simp
 have C1:=umade_of c.n c.s c.p c.sa fa m fc x.g x.cap os.length _ W ((K.below B0).oldN hU.s) src (by rw [madeI_src,hsrc])
 obtain ⟨fs,hfs⟩:∃ fs,fs=fof os src:=⟨_,rfl⟩
 rw [← hfs]
 have HFS:Hid (fs=fof os src):=hfs
 obtain ⟨R,hR⟩:∃ R,R=jFs fs at_ c.l:=⟨_,rfl⟩
 rw [← hR]
 have HR:Hid (R=jFs fs at_ c.l):=hR
 have y0:W.cell? ⟨w.heap.size,1,none⟩=some (.int .u8 c.s):=by rw [hW]; go_simp
 have y1:W.cell? ⟨w.heap.size,3,none⟩=some (.int .i64 c.sa):=by rw [hW]; go_simp
 have y2:W.cell? ⟨w.heap.size,4,none⟩=some (.slice fa m fc):=by rw [hW]; go_simp
 obtain ⟨ol,hol⟩:∃ ol,ol=os.length:=⟨_,rfl⟩
 rw [← hol] at C1 ⊢
 have HOL:Hid (ol=os.length):=hol
 have hol6:ol≤6:=by rw [hol]; exact hU.s
 clear hmn hcx hF K hU hsrc hfs hR hV hl hol
 go_enter Tryz.func103,Tryz.ntmps103
 go_wp2_with fail
 rw [← hW]
 clear hW
 refine C1.mono ?_
 rintro e w1 ⟨rfl,B1⟩
 have BW1:Below w.heap.size w w1:=B0.trans (B1.mono B0.size)
 have x0:w1.cell? ⟨w.heap.size,1,none⟩=some (.int .u8 c.s):=(B1.cell (p:=⟨w.heap.size,1,none⟩) z0).trans y0
 have x1:w1.cell? ⟨w.heap.size,3,none⟩=some (.int .i64 c.sa):=(B1.cell (p:=⟨w.heap.size,3,none⟩) z0).trans y1
 have x2:w1.cell? ⟨w.heap.size,4,none⟩=some (.slice fa m fc):=(B1.cell (p:=⟨w.heap.size,4,none⟩) z0).trans y2
 have z1:w.heap.size < w1.heap.size:=Nat.lt_of_lt_of_le z0 B1.size
 clear C1 B1 y0 y1 y2
 go_wp2
 go_loopw [9] (fun i wr=>∃ j:Nat,j≤m∧i=.int .i64 j∧Hid (R=jFs fs at_ (c.l.drop j))∧Below w1.heap.size w1 wr) (fun i _=>m - (intOf i).toNat)
 case atStart=>exact ⟨0,Nat.zero_le _,rfl,HR.out,Below.refl _ _⟩
 case round =>
  obtain ⟨j,hj,rfl,HT,hb⟩:=hrel
  have hsz:=hb.size
  have p2:wr.cell? ⟨w.heap.size,4,none⟩=some (.slice fa m fc):=(hb.cell (p:=⟨w.heap.size,4,none⟩) z1).trans x2
  have zr:w.heap.size < wr.heap.size:=by omega
  have BW:Below w.heap.size w wr:=BW1.trans (hb.mono BW1.size)
  by_cases hjl:j < m
  ·obtain ⟨g,hga,hgs,hgc⟩:=HC.out j hjl
   subst hga
   obtain ⟨f,hf⟩:∃ f,f=c.l[j]?.getD noGU:=⟨_,rfl⟩
   have hfk:c.l[j]?=some f:=by rw [hf]; exact getD_of (by rw [← HM.out]; exact hjl) noGU
   obtain ⟨f0,f1,f2,f3,f4,f5,f6⟩:=hgc.below BW hgs
   rw [← hf] at f0 f1 f2 f3 f4 f5 f6
   obtain ⟨hs0,hs1,hs2⟩:=HF.out f (List.mem_of_getElem? hfk)
   have hgr:g < wr.heap.size:=by omega
   have hst:=HT.out
   rw [drop_cons hfk,jFs] at hst
   obtain ⟨fn,fk,fp,sa,sm,bg,su⟩:=f
   simp only [] at f0 f1 f2 f3 f4 f5 f6 hs0 hs1 hs2
   have BA:Below w1.heap.size w1 (wr.alloc (.cells #[.int .u8 fn,.int .u8 fk,.int .i64 fp,.int .i64 sa,.bool sm,.bool bg,.string su] 124)):=hb.alloc hsz _
   have BAW:Below w.heap.size w (wr.alloc (.cells #[.int .u8 fn,.int .u8 fk,.int .i64 fp,.int .i64 sa,.bool sm,.bool bg,.string su] 124)):=BW.alloc (by omega) _
   clear hf hfk hgc HT
   by_cases hsk:sm=false∨at_ < sa∨sa+su.size≤at_
   ·have HN:Hid (R=jFs fs at_ (c.l.drop (j+1))):=by
     show R=_
     rw [hst,jF1,if_pos hsk,if_neg (by simp)]
    clear hst
    cases sm with
    | false =>
     clear hsk
     go_wp2
     exact ⟨⟨j+1,by omega,rfl,HN,BA⟩,by simp [intOf]; omega⟩
    | true =>
     by_cases h1:at_ < sa
     ·clear hsk
      go_wp2
      exact ⟨⟨j+1,by omega,rfl,HN,BA⟩,by simp [intOf]; omega⟩
     ·have h2:sa+su.size≤at_:=by simpa [h1] using hsk
      clear hsk
      go_wp2
      exact ⟨⟨j+1,by omega,rfl,HN,BA⟩,by simp [intOf]; omega⟩
   ·have hsm:sm=true:=by cases sm with
     | true=>rfl
     | false=>exact absurd (.inl rfl) hsk
    subst hsm
    have h1:¬ at_ < sa:=fun h=>hsk (.inr (.inl h))
    have h2:¬ sa+su.size≤at_:=fun h=>hsk (.inr (.inr h))
    obtain ⟨k,hk⟩:∃ k:Nat,at_ - sa=k:=⟨(at_ - sa).toNat,by omega⟩
    have hkl:k < su.size:=by omega
    have hbk:(su[k].toNat:Int)=nextB su k:=(nextB_in hkl).symm
    rw [jF1] at hst
    simp only [] at hst
    rw [if_neg hsk,hk,Int.toNat_natCast] at hst
    obtain ⟨b,hbb⟩:∃ b,b=nextB su k:=⟨_,rfl⟩
    rw [← hbb] at hbk hst
    clear hbb hsk
    go_wp2_with fail
    cases hlw:isLw b with
    | true =>
     refine (among_any b 97 122 _ true hlw).mono ?_
     rintro e w2 ⟨rfl,rfl⟩
     obtain ⟨kd,hkd⟩:∃ kd,kd=(kdF fs b).1:=⟨_,rfl⟩
     have ekd:jKd fs b=kd:=by unfold jKd; rw [if_pos hlw,hkd]
     rw [ekd] at hst
     have C2:=kindOf_kc (HK.out.below BAW) HU.out src b kd (by rw [← HFS.out,hkd])
     rw [← HOL.out] at C2
     have HJ:Hid (R=jsel (isLw b) kd fk at_ sa bg su (jFs fs at_ (c.l.drop (j+1)))):=hst
     rw [hlw] at HJ
     clear hkd ekd hst hlw
     go_wp2_with fail
     refine C2.mono ?_
     rintro e w3 ⟨rfl,B3⟩
     have BB:Below w1.heap.size w1 w3:=BA.trans (B3.mono BA.size)
     have BW3:Below w.heap.size w w3:=BAW.trans (B3.mono BAW.size)
     have g1:w3.cell? ⟨wr.heap.size,1,none⟩=some (.int .u8 fk):=(B3.cell (p:=⟨wr.heap.size,1,none⟩) (by simp)).trans (by go_simp)
     have g3:w3.cell? ⟨wr.heap.size,3,none⟩=some (.int .i64 sa):=(B3.cell (p:=⟨wr.heap.size,3,none⟩) (by simp)).trans (by go_simp)
     have g5:w3.cell? ⟨wr.heap.size,5,none⟩=some (.bool bg):=(B3.cell (p:=⟨wr.heap.size,5,none⟩) (by simp)).trans (by go_simp)
     have g6:w3.cell? ⟨wr.heap.size,6,none⟩=some (.string su):=(B3.cell (p:=⟨wr.heap.size,6,none⟩) (by simp)).trans (by go_simp)
     have gz:wr.heap.size < w3.heap.size:=by have:=B3.size; simp at this; omega
     clear C2 B3 f0 f1 f2 f3 f4 f5 f6 p2 BA BAW hb BW
     by_cases h0:kd=0
     ·have e0:(kd==0)=true:=by simp [h0]
      have HN:Hid (R=5):=by show R=_; rw [HJ.out]; exact jsel5 h0
      clear h0 HJ
      go_wp2
      go_ret
      rw [HN.out]
      exact ⟨rfl,BW3⟩
     have e0:(kd==0)=false:=by simp [h0]
     by_cases h3:fk=114
     ·have e3:(fk != 114)=false:=by simp [h3]
      have e3':(fk==114)=true:=by simp [h3]
      by_cases h4:at_=sa
      ·have e4:(at_==sa)=true:=by simp [h4]
       cases bg with
       | true =>
        have HN:Hid (R=6):=by show R=_; rw [HJ.out]; exact jsel6 (.inr ⟨h3,h4,.inl rfl⟩) (.inr h0)
        clear h3 h4 HJ
        go_wp2
        go_ret
        rw [HN.out]
        exact ⟨rfl,BW3⟩
       | false =>
        by_cases h5:su=⟨#[48]⟩
        ·have e5':su.toList=[48]:=su48.2 h5
         have e5:(su.toList==[48])=true:=by simp [e5']
         have HN:Hid (R=jFs fs at_ (c.l.drop (j+1))):=by show R=_; rw [HJ.out]; exact jsel0 (.inr h0) (fun h=>h.1 h3) (fun h=>by rcases h.2.2 with h | h; cases h; exact h.1 h5)
         clear h3 h4 h5 HJ
         go_wp2
         exact ⟨⟨j+1,by omega,rfl,HN,BB⟩,by simp [intOf]; omega⟩
        ·have e5':¬ su.toList=[48]:=fun h=>h5 (su48.1 h)
         have e5:(su.toList==[48])=false:=by simpa using e5'
         by_cases h6:su.size=1
         ·have e6':(su.size:Int)=1:=by omega
          have e6:((su.size:Int) != 1)=false:=by simp [h6]
          by_cases h7:kd=114
          ·have e7:(kd != 114)=false:=by simp [h7]
           have HN:Hid (R=jFs fs at_ (c.l.drop (j+1))):=by show R=_; rw [HJ.out]; exact jsel0 (.inr h0) (fun h=>h.1 h3) (fun h=>by rcases h.2.2 with h | h; cases h; rcases h.2 with h | h; exact h h6; exact h h7)
           clear h3 h4 h5 h6 h7 HJ
           go_wp2
           exact ⟨⟨j+1,by omega,rfl,HN,BB⟩,by simp [intOf]; omega⟩
          ·have e7:(kd != 114)=true:=by simp [h7]
           have HN:Hid (R=6):=by show R=_; rw [HJ.out]; exact jsel6 (.inr ⟨h3,h4,.inr ⟨h5,.inr h7⟩⟩) (.inr h0)
           clear h3 h4 h5 h6 h7 HJ
           go_wp2
           go_ret
           rw [HN.out]
           exact ⟨rfl,BW3⟩
         ·have e6':¬ (su.size:Int)=1:=by omega
          have e6:((su.size:Int) != 1)=true:=by simp; omega
          have HN:Hid (R=6):=by show R=_; rw [HJ.out]; exact jsel6 (.inr ⟨h3,h4,.inr ⟨h5,.inl h6⟩⟩) (.inr h0)
          clear h3 h4 h5 h6 HJ
          go_wp2
          go_ret
          rw [HN.out]
          exact ⟨rfl,BW3⟩
      ·have e4:(at_==sa)=false:=by simp [h4]
       have HN:Hid (R=jFs fs at_ (c.l.drop (j+1))):=by show R=_; rw [HJ.out]; exact jsel0 (.inr h0) (fun h=>h.1 h3) (fun h=>h4 h.2.1)
       clear h3 h4 HJ
       go_wp2
       exact ⟨⟨j+1,by omega,rfl,HN,BB⟩,by simp [intOf]; omega⟩
     ·have e3:(fk != 114)=true:=by simp [h3]
      have e3':(fk==114)=false:=by simp [h3]
      by_cases h7:kd=114
      ·have e7:(kd==114)=true:=by simp [h7]
       have HN:Hid (R=6):=by show R=_; rw [HJ.out]; exact jsel6 (.inl ⟨h3,h7⟩) (.inr h0)
       clear h3 h7 HJ
       go_wp2
       go_ret
       rw [HN.out]
       exact ⟨rfl,BW3⟩
      ·have e7:(kd==114)=false:=by simp [h7]
       have HN:Hid (R=jFs fs at_ (c.l.drop (j+1))):=by show R=_; rw [HJ.out]; exact jsel0 (.inr h0) (fun h=>h7 h.2) (fun h=>h3 h.1)
       clear h3 h7 HJ
       go_wp2
       exact ⟨⟨j+1,by omega,rfl,HN,BB⟩,by simp [intOf]; omega⟩
    | false =>
     refine (among_any b 97 122 _ false hlw).mono ?_
     rintro e w3 ⟨rfl,rfl⟩
     obtain ⟨kd,hkd⟩:∃ kd:Int,kd=0:=⟨_,rfl⟩
     have ekd:jKd fs b=kd:=by unfold jKd; rw [hlw,hkd]; rfl
     rw [ekd] at hst
     have HJ:Hid (R=jsel (isLw b) kd fk at_ sa bg su (jFs fs at_ (c.l.drop (j+1)))):=hst
     rw [hlw] at HJ
     subst hkd
     have h0:False=True→True:=fun _=>trivial
     clear ekd hst hlw h0
     have BB:=BA
     have BW3:=BAW
     clear BA BAW hb BW
     by_cases h3:fk=114
     ·have e3:(fk != 114)=false:=by simp [h3]
      have e3':(fk==114)=true:=by simp [h3]
      by_cases h4:at_=sa
      ·have e4:(at_==sa)=true:=by simp [h4]
       cases bg with
       | true =>
        have HN:Hid (R=6):=by show R=_; rw [HJ.out]; exact jsel6 (.inr ⟨h3,h4,.inl rfl⟩) (.inl rfl)
        clear h3 h4 HJ
        go_wp2
        go_ret
        rw [HN.out]
        exact ⟨rfl,BW3⟩
       | false =>
        by_cases h5:su=⟨#[48]⟩
        ·have e5':su.toList=[48]:=su48.2 h5
         have e5:(su.toList==[48])=true:=by simp [e5']
         have HN:Hid (R=jFs fs at_ (c.l.drop (j+1))):=by show R=_; rw [HJ.out]; exact jsel0 (.inl rfl) (fun h=>h.1 h3) (fun h=>by rcases h.2.2 with h | h; cases h; exact h.1 h5)
         clear h3 h4 h5 HJ
         go_wp2
         exact ⟨⟨j+1,by omega,rfl,HN,BB⟩,by simp [intOf]; omega⟩
        ·have e5':¬ su.toList=[48]:=fun h=>h5 (su48.1 h)
         have e5:(su.toList==[48])=false:=by simpa using e5'
         by_cases h6:su.size=1
         ·have e6':(su.size:Int)=1:=by omega
          have e6:((su.size:Int) != 1)=false:=by simp [h6]
          by_cases h7:(0:Int)=114
          ·exact absurd h7 (by decide)
          ·have e7:((0:Int) != 114)=true:=by decide
           have HN:Hid (R=6):=by show R=_; rw [HJ.out]; exact jsel6 (.inr ⟨h3,h4,.inr ⟨h5,.inr h7⟩⟩) (.inl rfl)
           clear h3 h4 h5 h6 h7 HJ
           go_wp2
           go_ret
           rw [HN.out]
           exact ⟨rfl,BW3⟩
         ·have e6':¬ (su.size:Int)=1:=by omega
          have e6:((su.size:Int) != 1)=true:=by simp; omega
          have HN:Hid (R=6):=by show R=_; rw [HJ.out]; exact jsel6 (.inr ⟨h3,h4,.inr ⟨h5,.inl h6⟩⟩) (.inl rfl)
          clear h3 h4 h5 h6 HJ
          go_wp2
          go_ret
          rw [HN.out]
          exact ⟨rfl,BW3⟩
      ·have e4:(at_==sa)=false:=by simp [h4]
       have HN:Hid (R=jFs fs at_ (c.l.drop (j+1))):=by show R=_; rw [HJ.out]; exact jsel0 (.inl rfl) (fun h=>h.1 h3) (fun h=>h4 h.2.1)
       clear h3 h4 HJ
       go_wp2
       exact ⟨⟨j+1,by omega,rfl,HN,BB⟩,by simp [intOf]; omega⟩
     ·have e3:(fk != 114)=true:=by simp [h3]
      have e3':(fk==114)=false:=by simp [h3]
      by_cases h7:(0:Int)=114
      ·exact absurd h7 (by decide)
      ·have e7:((0:Int)==114)=false:=by decide
       have HN:Hid (R=jFs fs at_ (c.l.drop (j+1))):=by show R=_; rw [HJ.out]; exact jsel0 (.inl rfl) (fun h=>h7 h.2) (fun h=>h3 h.1)
       clear h3 h7 HJ
       go_wp2
       exact ⟨⟨j+1,by omega,rfl,HN,BB⟩,by simp [intOf]; omega⟩
  ·have HN:Hid (R=0):=by show R=_; rw [HT.out,List.drop_eq_nil_of_le (by rw [← HM.out]; omega)]; rfl
   go_wp2
   go_ret
   rw [HN.out]
   exact ⟨rfl,BW⟩
end Go.Proofs.YtbgilndohccicaaGreatDoor
namespace Go.Proofs.YtbgilndohccicaaGreatDoor
open Go.RowKit
theorem hasO_hit {os:Sch} {x:Int} {i:Nat} (hi:i < os.length) (h:(cat os i).1=x):hasC (vsO os) x=true:=by
 unfold hasC vsO
 rw [List.any_map,List.any_eq_true]
 exact ⟨os[i],List.getElem_mem hi,by simpa [cat,List.getElem?_eq_getElem hi] using h⟩
theorem hasO_none {os:Sch} {x:Int} (h:∀ i,i < os.length→(cat os i).1≠x):hasC (vsO os) x=false:=by
 unfold hasC vsO
 rw [List.any_map,List.any_eq_false]
 intro p hp
 obtain ⟨i,hi,rfl⟩:=List.getElem_of_mem hp
 have:=h i hi
 simpa [cat,List.getElem?_eq_getElem hi] using this
set_option maxHeartbeats 1000000 in
set_option maxRecDepth 100000 in
theorem judge_src (x:KX) (os:Sch) (c:HC) (fa:Option Addr) (m fc:Nat) (at_:Int) (w:World) (K:KC w x os) (hU:Uq os) (h0:c.s≠0) (h1:c.sa=at_) :
  Calls Tryz.prog 103 #[.agg #[.int .u8 c.n,.int .u8 c.s,.int .i64 c.p,.int .i64 c.sa,.slice fa m fc],.slice (some ⟨x.g,0,none⟩) os.length x.cap,.int .i64 at_] w fun e w'=>e=.returned (.int .i64 (if hasC (vsO os) c.s=true then 0 else 4))∧Below w.heap.size w w':=by
 have HK:Hid (KC w x os):=K
 obtain ⟨src,hsrc⟩:∃ src,src=srcI (vsO os) c.n c.s:=⟨_,rfl⟩
 obtain ⟨W,hW⟩:∃ W,W=w.alloc (.cells #[.int .u8 c.n,.int .u8 c.s,.int .i64 c.p,.int .i64 c.sa,.slice fa m fc] 140):=⟨_,rfl⟩
 have B0:Below w.heap.size w W:=by rw [hW]; exact (Below.refl _ _).alloc (Nat.le_refl _) _
 have z0:w.heap.size < W.heap.size:=by rw [hW]; simp
 have C1:=umade_of c.n c.s c.p c.sa fa m fc x.g x.cap os.length _ W ((K.below B0).oldN hU.s) src (by rw [madeI_src,hsrc])
 have y0:W.cell? ⟨w.heap.size,1,none⟩=some (.int .u8 c.s):=by rw [hW]; go_simp
 have y1:W.cell? ⟨w.heap.size,3,none⟩=some (.int .i64 c.sa):=by rw [hW]; go_simp
 have q1:(c.s != 0)=true:=by simp [h0]
 have q2:(c.sa==at_)=true:=by simp [h1]
 obtain ⟨R,hR⟩:∃ R:Int,R=if hasC (vsO os) c.s=true then 0 else 4:=⟨_,rfl⟩
 rw [← hR]
 have HR:Hid (R=if hasC (vsO os) c.s=true then 0 else 4):=hR
 obtain ⟨ol,hol⟩:∃ ol,ol=os.length:=⟨_,rfl⟩
 rw [← hol] at C1 ⊢
 have HOL:Hid (ol=os.length):=hol
 have hol6:ol≤6:=by rw [hol]; exact hU.s
 clear K hU hsrc hR h0 h1 hol
 go_enter Tryz.func103,Tryz.ntmps103
 go_wp2_with fail
 rw [← hW]
 clear hW
 refine C1.mono ?_
 rintro e w1 ⟨rfl,B1⟩
 have BW1:Below w.heap.size w w1:=B0.trans (B1.mono B0.size)
 have x0:w1.cell? ⟨w.heap.size,1,none⟩=some (.int .u8 c.s):=(B1.cell (p:=⟨w.heap.size,1,none⟩) z0).trans y0
 have x1:w1.cell? ⟨w.heap.size,3,none⟩=some (.int .i64 c.sa):=(B1.cell (p:=⟨w.heap.size,3,none⟩) z0).trans y1
 have z1:w.heap.size < w1.heap.size:=Nat.lt_of_lt_of_le z0 B1.size
 clear C1 B1 y0 y1
 go_wp2
 go_loopw [8] (fun i wr=>∃ j:Nat,j≤ol∧i=.int .i64 j∧Hid (∀ i',i' < j→(cat os i').1≠c.s)∧Below w1.heap.size w1 wr) (fun i _=>ol - (intOf i).toNat)
 case atStart=>exact ⟨0,Nat.zero_le _,rfl,fun i' h=>by omega,Below.refl _ _⟩
 case round =>
  obtain ⟨j,hj,rfl,HT,hb⟩:=hrel
  have hsz:=hb.size
  have p0:wr.cell? ⟨w.heap.size,1,none⟩=some (.int .u8 c.s):=(hb.cell (p:=⟨w.heap.size,1,none⟩) z1).trans x0
  have zr:w.heap.size < wr.heap.size:=by omega
  have BW:Below w.heap.size w wr:=BW1.trans (hb.mono BW1.size)
  by_cases hjl:j < ol
  ·have hk:wr.cell? ⟨x.g,j * 5,none⟩=some (.int .u8 (cat os j).1):=((HK.out.below BW).row j (by rw [← HOL.out]; exact hjl)).c0
   have hg:x.g < wr.heap.size:=(HK.out.below BW).lt
   obtain ⟨nm,hnm⟩:∃ nm,nm=(cat os j).1:=⟨_,rfl⟩
   rw [← hnm] at hk
   have HNM:Hid (nm=(cat os j).1):=hnm
   clear hnm
   by_cases he:nm=c.s
   ·have e1:(nm==c.s)=true:=by simp [he]
    have HN:Hid (R=0):=by show R=_; rw [HR.out,if_pos (hasO_hit (i:=j) (by rw [← HOL.out]; exact hjl) (by rw [← HNM.out,he]))]
    clear he
    go_wp2
    go_quiet (fail)
    go_wp2
    go_ret
    rw [HN.out]
    exact ⟨rfl,BW.trans ((gb_below_drew _ _).mono BW.size)⟩
   ·have e1:(nm==c.s)=false:=by simp [he]
    have HN:Hid (∀ i',i' < j+1→(cat os i').1≠c.s):=by
     intro i' hi'
     rcases Nat.lt_succ_iff_lt_or_eq.1 hi' with h | rfl
     ·exact HT.out i' h
     ·rw [← HNM.out]; exact he
    clear he HT
    go_wp2
    go_quiet (fail)
    go_wp2
    exact ⟨⟨j+1,by omega,rfl,HN,hb.trans ((gb_below_drew _ _).mono hsz)⟩,by simp [intOf]; omega⟩
  ·have HN:Hid (R=4):=by show R=_; rw [HR.out,hasO_none fun i hi=>HT.out i (by rw [← HOL.out] at hi; omega),if_neg (by decide)]
   go_wp2
   go_ret
   rw [HN.out]
   exact ⟨rfl,BW⟩
theorem judge_any {x:KX} {os:Sch} {c:HC} {fa:Option Addr} {m fc base:Nat} {at_:Int} {w:World} (K:KC w x os) (hU:Uq os) (hV:UV w base (.slice fa m fc) c.l) (hat:0≤at_) (hat':at_≤1000) (hF:∀ f∈c.l,0≤f.sa∧f.sa≤1004∧f.su.size≤400) (hl:c.l.length≤6) :
  Calls Tryz.prog 103 #[.agg #[.int .u8 c.n,.int .u8 c.s,.int .i64 c.p,.int .i64 c.sa,.slice fa m fc],.slice (some ⟨x.g,0,none⟩) os.length x.cap,.int .i64 at_] w fun e w'=>e=.returned (.int .i64 (jC os c at_))∧Below w.heap.size w w':=by
 unfold jC
 by_cases h:c.s≠0∧c.sa=at_
 ·rw [if_pos h]
  exact judge_src x os c fa m fc at_ w K hU h.1 h.2
 ·rw [if_neg h]
  by_cases h0:c.s=0
  ·exact judge_f1 x os c fa m fc base at_ w K hU hV (by simp [h0]) hat hat' hF hl
  ·exact judge_f2 x os c fa m fc base at_ w K hU hV (by simp [h0]) (by simp only [beq_eq_false_iff_ne]; exact fun h'=>h ⟨h0,h'⟩) hat hat' hF hl
end Go.Proofs.YtbgilndohccicaaGreatDoor
namespace Go.Proofs.YtbgilndohccicaaGreatDoor
open Go.RowKit
def nO (os:Sch) (i:Nat):Int:=(cat os i).1
def FirstF (os:Sch) (cs:List HC) (n:Nat) (E P:Int):Prop :=
 (E≠0∧∃ (i k:Nat) (c:HC),i < n∧P=i∧cs[k]?=some c∧jC os c i=E∧(∀ (k':Nat) c',k' < k→cs[k']?=some c'→jC os c' (i:Nat)=0)∧(∀ i',i' < i→∀ c'∈cs,jC os c' (i':Nat)=0)) ∨
 (E=0∧P=0∧∀ i,i < n→∀ c∈cs,jC os c (i:Nat)=0)
def UpRef (os:Sch) (s:ByteArray) (E P:Int):Prop :=
 (200 < s.size∧E=1∧P=0)∨(s.size≤200∧((haAll s=none∧E=2∧P=(uwrongN s s.size 0:Nat)) ∨
  ∃ cs,haAll s=some cs∧((0≤P∧E=3∧Least (URepN (nO os) os.length cs) P)∨(Least (URepN (nO os) os.length cs) (-1)∧FirstF os cs s.size E P))))
def UUPost (os:Sch) (s:ByteArray) (w:World) (e:Ending) (w':World):Prop:=∃ (a:Option Addr) (n c:Nat) (E P:Int),
 e=.returned (.tuple #[.slice a n c,.int .i64 E,.int .i64 P])∧UpRef os s E P∧(E=0→∃ cs vs,haAll s=some cs∧UCls w' w.heap.size (.slice a n c) vs cs)∧Below w.heap.size w w'
theorem uwrong_rs {s:ByteArray} {w:World} (hm:s.size≤300) (hE:Ends w) (y:Int) (hy:((uwrongN s s.size 0:Nat):Int)=y) :
  Calls Tryz.prog 56 #[.string s,.bool true] w fun e w'=>e=.returned (.int .i64 y)∧Below w.heap.size w w':=by
 subst hy; exact uwrong_any s w hm hE
set_option maxHeartbeats 400000 in
theorem update_long (x:KX) (os:Sch) (s:ByteArray) (w:World) (h:200 < s.size) (hm:s.size≤9223372036854775807) :
  Calls Tryz.prog 81 #[.slice (some ⟨x.g,0,none⟩) os.length x.cap,.string s] w (UUPost os s w):=by
 have HP:Hid (UpRef os s 1 0):=.inl ⟨h,rfl,rfl⟩
 go_enter Tryz.func81,Tryz.ntmps81
 go_wp2
 refine bodyPost_ret (v:=.tuple #[.slice none 0 0,.int .i64 1,.int .i64 0]) (by simp [results,Tryz.results81,go_sem]) rfl ⟨_,_,_,_,_,rfl,HP.out,(fun h=>by cases h),Below.refl _ _⟩
set_option maxHeartbeats 400000 in
theorem update_none (x:KX) (os:Sch) (s:ByteArray) (w:World) (h:s.size≤200) (hE:Ends w) (hn:haAll s=none) :
  Calls Tryz.prog 81 #[.slice (some ⟨x.g,0,none⟩) os.length x.cap,.string s] w (UUPost os s w):=by
 obtain ⟨y,hy⟩:∃ y:Int,((uwrongN s s.size 0:Nat):Int)=y:=⟨_,rfl⟩
 have HP:Hid (UpRef os s 2 y):=.inr ⟨h,.inl ⟨hn,rfl,hy.symm⟩⟩
 have C1:=uall_rs (u:=s) (w:=w) (by omega) false (by rw [hn]; rfl)
 have HW:Hid (∀ W,Below w.heap.size w W→Calls Tryz.prog 56 #[.string s,.bool true] W fun e w'=>e=.returned (.int .i64 y)∧Below W.heap.size W w'):=fun W hb=>uwrong_rs (by omega) (hE.below hb) y hy
 clear hn hy hE
 go_enter Tryz.func81,Tryz.ntmps81
 go_wp2_with fail
 refine C1.mono ?_
 rintro e w1 ⟨a,n,c,rfl,B1⟩
 have D:=HW.out w1 B1
 clear C1
 go_wp2_with fail
 refine D.mono ?_
 rintro e w2 ⟨rfl,B2⟩
 clear D
 go_wp2
 refine bodyPost_ret (v:=.tuple #[.slice none 0 0,.int .i64 2,.int .i64 y]) (by simp [results,Tryz.results81,go_sem]) rfl ⟨_,_,_,_,_,rfl,HP.out,(fun h=>by cases h),B1.trans (B2.mono B1.size)⟩
set_option maxHeartbeats 2000000 in
set_option maxRecDepth 100000 in
theorem update_some (x:KX) (os:Sch) (s:ByteArray) (cs:List HC) (w:World) (h:s.size≤200) (K:KC w x os) (hU:Uq os) (hs:haAll s=some cs) :
  Calls Tryz.prog 81 #[.slice (some ⟨x.g,0,none⟩) os.length x.cap,.string s] w (UUPost os s w):=by
 obtain ⟨hok,hne⟩:=haAll_ok s (by omega) cs hs
 have C1:=uall_any s w (by omega)
 unfold UAllPost at C1
 rw [hs] at C1
 simp only [Option.isSome_some] at C1
 have HS:Hid (haAll s=some cs):=hs
 have HK:Hid (KC w x os):=K
 have HU:Hid (Uq os):=hU
 have HO:Hid ((cs.length≤6∧∀ c∈cs,CO c)∧cs≠[]):=⟨hok,hne⟩
 obtain ⟨ol,hol⟩:∃ ol,ol=os.length:=⟨_,rfl⟩
 rw [← hol]
 have HOL:Hid (ol=os.length):=hol
 have hol6:ol≤6:=by rw [hol]; exact hU.s
 unfold UUPost
 clear hs K hU hok hne hol
 go_enter Tryz.func81,Tryz.ntmps81
 go_wp2_with fail
 refine C1.mono ?_
 rintro e w1 ⟨va,vn,vc,rfl,hV,B1⟩
 obtain ⟨vs,V1⟩:=hV cs rfl
 obtain ⟨g,cap,hgv,hg,_,hc⟩:=V1.cells HO.out.2
 have C2:=utwice_any x.g x.cap os.length (nO os) cs vs _ _ w1 ((HK.out.below B1).oldN HU.out.s) V1 (UFine_of HO.out.1) HO.out.2
 obtain ⟨m,hm⟩:∃ m,m=cs.length:=⟨_,rfl⟩
 cases hgv
 rw [← hm] at C2 hc V1 ⊢
 rw [← HOL.out] at C2
 have hm6:m≤6:=by rw [hm]; exact HO.out.1.1
 have HM:Hid (m=cs.length):=hm
 have HV1:Hid (UCls w1 w.heap.size (.slice (some ⟨g,0,none⟩) m vc) vs cs):=V1
 have HC:Hid (∀ i,i < m→HCell w1 g i (vs[i]?.getD noHV)):=hc
 clear C1 hV V1 hm hc
 go_wp2_with fail
 refine C2.mono ?_
 rintro e w2 ⟨b,rfl,hL,B2⟩
 have BW2:Below w.heap.size w w2:=B1.trans (B2.mono B1.size)
 have HLb:Hid (Least (URepN (nO os) ol cs) b):=hL
 clear C2 hL
 by_cases hb0:0≤b
 ·have HP:Hid (UpRef os s 3 b):=.inr ⟨h,.inr ⟨cs,HS.out,.inl ⟨hb0,rfl,by rw [← HOL.out]; exact HLb.out⟩⟩⟩
  go_wp2
  refine bodyPost_ret (v:=.tuple #[.slice none 0 0,.int .i64 3,.int .i64 b]) (by simp [results,Tryz.results81,go_sem]) rfl ⟨_,_,_,_,_,rfl,HP.out,(fun h=>by cases h),BW2⟩
 ·have HL1:Hid (Least (URepN (nO os) os.length cs) (-1)):=by
   have:=HLb.out
   rw [HOL.out] at this
   rcases this with ⟨rfl,h'⟩ | ⟨h',_⟩
   ·exact .inl ⟨rfl,h'⟩
   ·exact absurd h' hb0
  go_wp2
  go_loopw [11] (fun iv wi=>∃ i:Nat,i≤s.size∧iv=.int .i64 i∧Hid (∀ i',i' < i→∀ c'∈cs,jC os c' (i':Nat)=0)∧Below w2.heap.size w2 wi) (fun iv _=>s.size - (intOf iv).toNat)
  case atStart=>exact ⟨0,Nat.zero_le _,rfl,fun i' h=>by omega,Below.refl _ _⟩
  case round =>
   obtain ⟨i,hi,rfl,HJ,hbi⟩:=hrel
   have HJ0:Hid (∀ i',i' < i→∀ c'∈cs,jC os c' (i':Nat)=0):=HJ
   by_cases hil:i < s.size
   ·go_wp2
    go_loopw [12] (fun kv wk=>∃ k:Nat,k≤m∧kv=.int .i64 k∧Hid (∀ (k':Nat) c',k' < k→cs[k']?=some c'→jC os c' (i:Nat)=0)∧Below w2.heap.size w2 wk) (fun kv _=>m - (intOf kv).toNat)
    case atStart=>exact ⟨0,Nat.zero_le _,rfl,fun k' c' h=>by omega,hbi⟩
    case round =>
     clear hbi HJ
     obtain ⟨k,hk,rfl,HKk,hb⟩:=hrel
     have BW:Below w.heap.size w wr:=BW2.trans (hb.mono BW2.size)
     have BW1:Below w1.heap.size w1 wr:=B2.trans (hb.mono B2.size)
     by_cases hkl:k < m
     ·have hvk:vs[k]?=some (vs[k]?.getD noHV):=getD_of (by rw [HV1.out.len,← HM.out]; exact hkl) noHV
      obtain ⟨v,hv⟩:∃ v,v=vs[k]?.getD noHV:=⟨_,rfl⟩
      rw [← hv] at hvk
      obtain ⟨c,hck⟩:∃ c,cs[k]?=some c:=⟨_,List.getElem?_eq_getElem (by rw [← HM.out]; exact hkl)⟩
      obtain ⟨⟨r1,r2,r3⟩,r4,r5⟩:=HV1.out.fld k v c hvk hck
      have hcc:=HC.out k hkl
      rw [← hv] at hcc
      have i0:wr.cell? ⟨g,k * 5,none⟩=some (.int .u8 c.n):=(BW1.cell (p:=⟨g,_,none⟩) hg).trans (by rw [← r1]; exact hcc.c0)
      have i1:wr.cell? ⟨g,k * 5+1,none⟩=some (.int .u8 c.s):=(BW1.cell (p:=⟨g,_,none⟩) hg).trans (by rw [← r2]; exact hcc.c1)
      have i2:wr.cell? ⟨g,k * 5+2,none⟩=some (.int .i64 c.p):=(BW1.cell (p:=⟨g,_,none⟩) hg).trans (by rw [← r4]; exact hcc.c2)
      have i3:wr.cell? ⟨g,k * 5+3,none⟩=some (.int .i64 c.sa):=(BW1.cell (p:=⟨g,_,none⟩) hg).trans (by rw [← r3]; exact hcc.c3)
      have i4:wr.cell? ⟨g,k * 5+4,none⟩=some (.slice v.v.a v.v.n v.v.c):=(BW1.cell (p:=⟨g,_,none⟩) hg).trans hcc.c4
      have hgr:g < wr.heap.size:=Nat.lt_of_lt_of_le hg BW1.size
      have hco:=HO.out.1.2 c (List.mem_of_getElem? hck)
      have UVk:UV wr w.heap.size (.slice v.v.a v.v.n v.v.c) c.l:=r5.below BW1
      have C3:=judge_any (at_:=(i:Int)) (HK.out.below BW) HU.out UVk (by omega) (by omega) (fun f hf=>⟨(hco.1.2 f hf).2.2.1,(hco.1.2 f hf).2.2.2.1,(hco.1.2 f hf).2.2.2.2⟩) hco.1.1
      obtain ⟨E,hE⟩:∃ E,jC os c i=E:=⟨_,rfl⟩
      rw [hE,← HOL.out] at C3
      have HE:Hid (cs[k]?=some c∧jC os c i=E):=⟨hck,hE⟩
      clear r5 UVk
      generalize v.v=q at i4 C3
      obtain ⟨sa,sn,sc⟩:=q
      simp only [] at i4 C3
      obtain ⟨p,hp⟩:∃ p:Int,p=(c.p:Int):=⟨_,rfl⟩
      rw [← hp] at i2 C3
      clear hv hvk hck r1 r2 r3 r4 hcc hco hE hp
      go_wp2_with fail
      refine C3.mono ?_
      rintro e w3 ⟨rfl,B3⟩
      have BB:Below w2.heap.size w2 w3:=hb.trans (B3.mono hb.size)
      have BW3:Below w.heap.size w w3:=BW.trans (B3.mono BW.size)
      clear C3 B3 hb BW BW1 i0 i1 i2 i3 i4
      by_cases he:E=0
      ·have e1:(E != 0)=false:=by simp [he]
       have HN:Hid (∀ (k':Nat) c',k' < k+1→cs[k']?=some c'→jC os c' (i:Nat)=0):=by
        intro k' c' hk' hc'
        rcases Nat.lt_succ_iff_lt_or_eq.1 hk' with h' | rfl
        ·exact HKk.out k' c' h' hc'
        ·rw [HE.out.1] at hc'; injection hc' with hc'; rw [← hc',HE.out.2]; exact he
       clear he
       go_wp2
       exact ⟨⟨k+1,by omega,rfl,HN,BB⟩,by simp [intOf]; omega⟩
      ·have e1:(E != 0)=true:=by simp [he]
       have HP:Hid (UpRef os s E i):=.inr ⟨h,.inr ⟨cs,HS.out,.inr ⟨HL1.out,.inl ⟨he,i,k,c,hil,rfl,HE.out.1,HE.out.2,HKk.out,HJ0.out⟩⟩⟩⟩
       have HE0:Hid (E≠0):=he
       clear he
       go_wp2
       refine bodyPost_ret (v:=.tuple #[.slice none 0 0,.int .i64 E,.int .i64 i]) (by simp [results,Tryz.results81,go_sem]) rfl ⟨_,_,_,_,_,rfl,HP.out,fun h=>absurd h HE0.out,BW3⟩
     ·have HN:Hid (∀ i',i' < i+1→∀ c'∈cs,jC os c' (i':Nat)=0):=by
       intro i' hi' c' hc'
       rcases Nat.lt_succ_iff_lt_or_eq.1 hi' with h' | rfl
       ·exact HJ0.out i' h' c' hc'
       ·obtain ⟨k',hk',rfl⟩:=List.getElem_of_mem hc'
        exact HKk.out k' _ (by rw [← HM.out] at hk'; omega) (List.getElem?_eq_getElem hk')
      go_wp2
      exact ⟨⟨i+1,by omega,rfl,HN,hb⟩,by simp [intOf]; omega⟩
   ·have HP:Hid (UpRef os s 0 0):=.inr ⟨h,.inr ⟨cs,HS.out,.inr ⟨HL1.out,.inr ⟨rfl,rfl,fun i' hi'=>HJ0.out i' (by omega)⟩⟩⟩⟩
    have BW:Below w.heap.size w wr:=BW2.trans (hbi.mono BW2.size)
    have HF:Hid (UCls wr w.heap.size (.slice (some ⟨g,0,none⟩) m vc) vs cs):=HV1.out.below (B2.trans (hbi.mono B2.size))
    go_wp2
    refine bodyPost_ret (v:=.tuple #[.slice (some ⟨g,0,none⟩) m vc,.int .i64 0,.int .i64 0]) (by simp [results,Tryz.results81,go_sem]) rfl ⟨_,_,_,_,_,rfl,HP.out,fun _=>⟨cs,vs,HS.out,HF.out⟩,BW⟩
theorem update_any {x:KX} {os:Sch} {w:World} (s:ByteArray) (K:KC w x os) (hU:Uq os) (hE:Ends w) (hm:s.size≤9223372036854775807) :
  Calls Tryz.prog 81 #[.slice (some ⟨x.g,0,none⟩) os.length x.cap,.string s] w (UUPost os s w):=by
 by_cases h:200 < s.size
 ·exact update_long x os s w h hm
 ·cases hs:haAll s with
  | none=>exact update_none x os s w (by omega) hE hs
  | some cs=>exact update_some x os s cs w (by omega) K hU hs
end Go.Proofs.YtbgilndohccicaaGreatDoor
