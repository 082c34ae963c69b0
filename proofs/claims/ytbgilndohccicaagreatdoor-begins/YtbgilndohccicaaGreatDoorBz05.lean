import Derived.Test.YtbgilndohccicaaGreatDoorBz04
import Derived.Deep.OwnRows
import Derived.Deep.RegionLaw
namespace Go.Proofs.YtbgilndohccicaaGreatDoor
open Go.RowKit
structure TB (w:World) (ib n:Nat) (T:Nat→Bool):Prop where
 lt:ib < w.heap.size
 c:∀ o,o < n→w.cell? ⟨ib,o,none⟩=some (.bool (T o))
 f:∀ o,w.frozen? ⟨ib,o,none⟩=false
theorem TB.new (w:World) (n:Nat) (e:TypeId):TB (w.alloc (.cells (madeCells #[.bool false] n) e)) w.heap.size n (fun _=>false):=by
 have hg:=heap_alloc_new w (.cells (madeCells #[.bool false] n) e)
 refine ⟨by simp,fun o ho=>?_,fun o=>frozen_of_row _ _ _ _ _ hg⟩
 rw [cell_of_row _ _ o _ e _ hg]
 simp [madeCells,ho,Nat.mod_one]
theorem TB.set {w:World} {ib n:Nat} {T:Nat→Bool} (h:TB w ib n T) (y:Nat):TB (w.setCell ⟨ib,y,none⟩ (.bool true)) ib n (set1 T y true):=by
 refine ⟨by simpa [World.setCell] using h.lt,fun o ho=>?_,fun o=>by rw [sc_frz]; exact h.f o⟩
 by_cases e:o=y
 ·subst e
  have:=h.c o ho
  rw [set1_self]
  go_simp
 ·rw [set1_ne _ _ e,sc_off w _ e]; exact h.c o ho
theorem TB.drewN {w:World} {ib n:Nat} {T:Nat→Bool} (h:TB w ib n T) (k:Nat):TB (w.drewN k) ib n T:=⟨h.lt,h.c,h.f⟩
theorem Tryz.infoBool:(Tryz.prog.info? 4).map (fun i=>(i.zero,i.size,i.bytes))=some (some (.bool false),1,1):=by kernel_rfl
def ThPost (cs:Sch) (r:DH) (w:World) (e:Ending) (w':World):Prop:=∃ T,e=.returned (.slice (some ⟨w.heap.size,0,none⟩) r.n r.n)∧TB w' w.heap.size r.n T∧(∀ o,o < r.n→(T o=true↔r.in cs (o+1)))∧Below w.heap.size w w'
set_option maxRecDepth 20000 in
set_option maxHeartbeats 2000000 in
theorem there_any (rb:Nat) (x:RX) (cs:Sch) (sz:Int) (r:DH) (w:World) (h:RP w rb x cs sz r) (hW:Wf cs r) (hcs:cs.length≤1000) (h6:∀ c∈cs,c.2.length≤6) (hn:r.n≤4398046511104) :
  Calls Tryz.prog 79 #[.pointer (some ⟨rb,0,none⟩)] w (ThPost cs r w):=by
 have hmk:=run_make_row' (P:=Tryz.prog) 127 4 (.bool false) 1 Tryz.underlying127 Tryz.infoBool rfl .i64 .i64 r.n (by omega) (by omega)
 have hrb:=h.lt
 have HH:Hid (RP w rb x cs sz r):=h
 have HW:Hid (Wf cs r):=hW
 have H6:Hid (∀ c∈cs,c.2.length≤6):=h6
 have c2:=h.c2
 obtain ⟨n,hnn⟩:∃ n,n=r.n:=⟨_,rfl⟩
 have HN:Hid (n=r.n):=hnn
 rw [← hnn] at hmk hn c2
 have B0:Below w.heap.size w (w.alloc (.cells (madeCells #[.bool false] n) 4)):=(Below.refl _ _).alloc (Nat.le_refl _) _
 have TB0:=TB.new w n 4
 clear h hW h6 hnn
 go_enter Tryz.func79,Tryz.ntmps79
 go_wp2
 go_loopw [4] (fun iv wr=>∃ (i:Nat) (T:Nat→Bool),i≤8∧iv=.int .i64 i∧TB wr w.heap.size n T∧Hid (RI cs r T i)∧Below w.heap.size w wr) (fun iv _=>8 - (intOf iv).toNat)
 case atStart=>exact ⟨0,_,by omega,rfl,TB0,RI.start cs r,B0⟩
 case round =>
  clear TB0 B0
  obtain ⟨i,T,hi,rfl,tb,HR,hb⟩:=hrel
  by_cases hlt:i < 8
  ·have cr:wr.cell? ⟨rb,3+i,none⟩=some (.int .i64 (r.R i)):=(hb.cell (by exact hrb)).trans (HH.out.root i hlt)
   have hib:(0:Int)≤(i:Int)∧(i:Int) < 8:=by omega
   have hrb1:rb < wr.heap.size:=Nat.lt_of_lt_of_le hrb hb.size
   by_cases h0:r.R i=0
   ·rw [h0] at cr
    have HR2:Hid (RI cs r T (i+1)):=HR.out.skip h0
    clear h0
    go_wp2
    go_roundw
    case rel=>exact ⟨i+1,T,by omega,by go_num,tb,HR2,hb⟩
    case measure=>simp [intOf]; omega
   ·have hle:=HW.out.root i hlt
    rw [← HN.out] at hle
    obtain ⟨y,hy⟩:∃ y,r.R i=y+1:=⟨r.R i - 1,by omega⟩
    have HR2:Hid (RI cs r (set1 T y true) (i+1)):=by
     show RI cs r (set1 T y true) (i+1)
     have:=HR.out.mark hlt h0
     rw [hy,Nat.add_sub_cancel] at this
     exact this
    rw [hy] at cr hle
    have cr':wr.cell? ⟨rb,3+i,none⟩=some (.int .i64 ((y:Int)+1)):=by rw [cr]; simp
    have hyb:(0:Int)≤(y:Int)∧(y:Int) < (n:Int):=by omega
    have hpos:(0:Int) < (y:Int)+1:=by omega
    have ty:=tb.c y (by omega)
    have tf:=tb.f y
    have tl:=tb.lt
    have tb2:=tb.set y
    clear h0 hy cr
    go_wp2
    go_roundw
    case rel=>exact ⟨i+1,_,by omega,by go_num,tb2,HR2,hb.setCell (Nat.le_refl _) _⟩
    case measure=>simp [intOf]; omega
  ·have HO:Hid (OI cs r T 0):=by
    show OI cs r T 0
    have e8:i=8:=by omega
    have:=HR.out
    rw [e8] at this
    exact this.oi
   have hge8:8≤i:=by omega
   clear HR hlt
   go_wp2
   go_loopw [5] (fun iv wr=>∃ (m:Nat) (T:Nat→Bool),m≤n∧iv=.int .i64 m∧TB wr w.heap.size n T∧Hid (OI cs r T m)∧Below w.heap.size w wr) (fun iv _=>n - (intOf iv).toNat)
   case atStart=>exact ⟨0,T,by omega,rfl,tb,HO,hb⟩
   case round =>
    clear tb HO hb T
    obtain ⟨m,T0,hm,rfl,tb,HO,hb⟩:=hrel
    by_cases hlt:m < n
    ·have HO0:Hid (OI cs r T0 m):=HO
     have HT:Hid (TI cs r T0 T0 0 0):=HO.out.ti
     go_wp2
     go_loopw [6] (fun iv wr=>∃ (o:Nat) (T:Nat→Bool),o≤n∧iv=.int .i64 o∧TB wr w.heap.size n T∧Hid (TI cs r T0 T o 0)∧Below w.heap.size w wr) (fun iv _=>n - (intOf iv).toNat)
     case atStart=>exact ⟨0,T0,by omega,rfl,tb,HT,hb⟩
     case round =>
      clear tb HO hb HT
      obtain ⟨o,T,ho,rfl,tb,HT,hb⟩:=hrel
      by_cases hol:o < n
      ·have ho':o < r.n:=by rw [← HN.out]; exact hol
       have HP:=HH.out.below hb
       have HKC:Hid (KC wr x.kx cs):=HP.kc
       obtain ⟨g,hga,hg,hrow⟩:=HP.row (by omega)
       have HGA:Hid (x.ov.a=some ⟨g,0,none⟩):=hga
       obtain ⟨o0,o1⟩:=hrow o ho'
       have d0:=HP.c0
       have d2:=HP.c2
       rw [hga,← HN.out] at d2
       have hrb1:=HP.lt
       have hob:(0:Int)≤(o:Int)∧(o:Int) < (n:Int):=by omega
       have FK:∀ W:World,KC W x.kx cs→Calls Tryz.prog 72 #[.slice (some ⟨x.kx.g,0,none⟩) cs.length x.kx.cap,.int .u8 (r.K (o+1))] W fun e w'=>e=.returned (.tuple #[.slice (knA x.kx cs (r.K (o+1))) (fof cs (r.K (o+1))).length (knC x.kx cs (r.K (o+1))),.bool (cs.any fun y=>y.1==r.K (o+1))])∧w'=W :=
        fun W hW=>known_any x.kx cs (r.K (o+1)) W hW hcs
       have KF0:=(HH.out.kc.kf (r.K (o+1))).1
       have hob2:=HP.ob o ho'
       have hf6:=fof_le H6.out (r.K (o+1))
       have HWR:Hid (∀ j f,(fof cs (r.K (o+1)))[j]?=some f→f.2=114→0≤r.C (o+1) j∧r.C (o+1) j≤r.n):=HW.out.ref (o+1) (by omega) (by omega)
       obtain ⟨fs,hfs⟩:∃ fs,fs=fof cs (r.K (o+1)):=⟨_,rfl⟩
       have HFS:Hid (fs=fof cs (r.K (o+1))):=hfs
       have hcl:=hob2.cell
       rw [← hfs] at KF0 hf6 FK o1 hcl
       obtain ⟨fl,hfl⟩:∃ fl,fl=fs.length:=⟨_,rfl⟩
       have HFL:Hid (fl=fs.length):=hfl
       rw [← hfl] at hf6 FK o1 hcl
       have HCL:Hid (∀ k,k < fl→wr.cell? ⟨x.G o,k,none⟩=some (.int .i64 (r.C (o+1) k))):=hcl
       have hGl:=hob2.lt
       generalize knA x.kx cs (r.K (o+1))=fa at FK KF0
       generalize knC x.kx cs (r.K (o+1))=fcap at FK
       generalize x.kx.FG (kidx cs (r.K (o+1)))=fg at KF0
       have HKF:Hid (KF w fa fg fs):=KF0
       have HW0:Hid (Below w.heap.size w wr):=hb
       clear HP hrow hob2 hcl hfs hfl KF0 hga
       rename World=>wo
       go_wp2
       go_quiet ((go_at_call 72; exact Calls.quiet_of_same (FK _ (HKC.out.drewN _))))
       clear FK HKC
       go_wp2
       go_loopw [9] (fun kv wr=>∃ (k:Nat) (T:Nat→Bool),k≤fl∧kv=.int .i64 k∧TB wr w.heap.size n T∧Hid (TI cs r T0 T o k)∧Below w.heap.size w wr) (fun kv _=>fl - (intOf kv).toNat)
       case atStart=>exact ⟨0,T,by omega,rfl,tb.drewN nq,HT,hb.trans ((gb_bdN wo nq).mono hb.size)⟩
       case round =>
        clear tb HT hb T d0 d2 o0 o1 hg hrb1 hGl HCL HW0
        rename World=>w9
        obtain ⟨k,T,hk,rfl,tb,HT,hb⟩:=hrel
        have cin:=tb.c o hol
        have tl:=tb.lt
        by_cases hkl:k < fl
        ·cases hto:T o with
         | true =>
          rw [hto] at cin
          have HP:=HH.out.below hb
          obtain ⟨g',hga',hg,hrow⟩:=HP.row (by omega)
          have eg:g'=g:=by rw [HGA.out] at hga'; injection hga' with e; injection e with e; exact e.symm
          rw [eg] at hg hrow
          clear eg hga'
          obtain ⟨o0,o1⟩:=hrow o ho'
          rw [← HFS.out,← HFL.out] at o1
          have d2:=HP.c2
          rw [HGA.out,← HN.out] at d2
          have hrb1:=HP.lt
          have hob2:=HP.ob o ho'
          have hkf:k < fs.length:=by rw [← HFL.out]; exact hkl
          have ck:=hob2.cell k (by rw [← HFS.out]; exact hkf)
          have hGl:=hob2.lt
          have KF1:=HKF.out.below (w':=w9) (by exact hb)
          obtain ⟨ea,hfg⟩:=KF1.a (by omega)
          have k1:=(KF1.row k hkf).c1
          rw [ea]
          have HTO:Hid (T o=true):=hto
          obtain ⟨kd,hkd⟩:∃ kd,kd=(fs[k]?.getD (0,0)).2:=⟨_,rfl⟩
          have HKD:Hid (fs[k]?=some (fs[k]?.getD (0,0))∧(fs[k]?.getD (0,0)).2=kd):=⟨by rw [List.getElem?_eq_getElem hkf]; rfl,hkd.symm⟩
          rw [← hkd] at k1
          obtain ⟨c,hc⟩:∃ c,c=r.C (o+1) k:=⟨_,rfl⟩
          have HC:Hid (c=r.C (o+1) k):=hc
          rw [← hc] at ck
          have hkb:(0:Int)≤(k:Int)∧(k:Int) < (fl:Int):=by omega
          clear HP hrow hob2 KF1 hto hkd hc ea
          by_cases h114:kd=114
          ·have hr:=HWR.out k _ (by rw [← HFS.out]; exact HKD.out.1) (by rw [HKD.out.2]; exact h114)
           rw [← HC.out,← HN.out] at hr
           subst h114
           by_cases h0:c=0
           ·have HT2:Hid (TI cs r T0 T o (k+1)):=HT.out.skip (fun f hf hk2 y hy hy0=>by rw [← HC.out,h0] at hy; omega)
            subst h0
            go_wp2
            go_roundw
            case rel=>exact ⟨k+1,T,by omega,by go_num,tb,HT2,hb⟩
            case measure=>simp [intOf]; omega
           ·obtain ⟨y,hy⟩:∃ y:Nat,c=(y:Int)+1:=⟨(c - 1).toNat,by omega⟩
            have HT2:Hid (TI cs r T0 (set1 T y true) o (k+1)):=by
             show TI cs r T0 (set1 T y true) o (k+1)
             have:=HT.out.mark ho' HTO.out _ (by rw [← HFS.out]; exact HKD.out.1) HKD.out.2 (y+1) (by rw [← HC.out,hy]; simp) (by omega) (by rw [← HN.out]; omega)
             rw [Nat.add_sub_cancel] at this
             exact this
            have hyb:(0:Int)≤(y:Int)∧(y:Int) < (n:Int):=by omega
            have hpos:(0:Int) < (y:Int)+1:=by omega
            have ty:=tb.c y (by omega)
            have tf:=tb.f y
            have tb2:=tb.set y
            rw [hy] at ck
            clear h0 hr
            go_wp2
            go_roundw
            case rel=>exact ⟨k+1,_,by omega,by go_num,tb2,HT2,hb.setCell (Nat.le_refl _) _⟩
            case measure=>simp [intOf]; omega
          ·have HT2:Hid (TI cs r T0 T o (k+1)):=HT.out.skip (fun f hf hk2 y hy hy0=>by
            rw [← HFS.out,HKD.out.1] at hf
            have:=Option.some.inj hf
            rw [← this,HKD.out.2] at hk2
            exact absurd hk2 h114)
           have h114':(kd==114)=false:=by simpa using h114
           go_wp2
           go_roundw
           case rel=>exact ⟨k+1,T,by omega,by go_num,tb,HT2,hb⟩
           case measure=>simp [intOf]; omega
         | false =>
          rw [hto] at cin
          have HT2:Hid (TI cs r T0 T (o+1) 0):=HT.out.next (fun h=>by rw [hto] at h; cases h)
          clear hto
          go_wp2
          go_roundw
          case rel=>exact ⟨o+1,T,by omega,by go_num,tb,HT2,hb⟩
          case measure=>simp [intOf]; omega
        ·have HT2:Hid (TI cs r T0 T (o+1) 0):=HT.out.next (fun _=>by rw [← HFS.out,← HFL.out]; omega)
         have hge:fl≤k:=by omega
         clear hkl
         go_wp2
         go_roundw
         case rel=>exact ⟨o+1,T,by omega,by go_num,tb,HT2,hb⟩
         case measure=>simp [intOf]; omega
      ·have eo:o=n:=by omega
       have HO2:Hid (OI cs r T (m+1)):=by
        show OI cs r T (m+1)
        have:=HT.out
        rw [eo,HN.out] at this
        exact this.done HO0.out
       have hge:n≤o:=by omega
       clear hol eo
       go_wp2
       go_roundw
       case rel=>exact ⟨m+1,T,by omega,by go_num,tb,HO2,hb⟩
       case measure=>simp [intOf]; omega
    ·have em:m=n:=by omega
     subst em
     have HF:Hid (∀ o,o < r.n→(T0 o=true↔r.in cs (o+1))):=by
      show ∀ o,o < r.n→(T0 o=true↔r.in cs (o+1))
      have:=HO.out
      rw [HN.out] at this
      exact this.fin HW.out
     clear hlt
     go_wp2
     go_ret
     refine ⟨T0,?_,?_,HF.out,hb⟩
     ·rw [HN.out]; rfl
     ·rw [← HN.out]; exact tb
end Go.Proofs.YtbgilndohccicaaGreatDoor
namespace Go.Proofs.YtbgilndohccicaaGreatDoor
open Go.RowKit
def RWPost (cs:Sch) (r:DH) (w:World) (e:Ending) (w':World):Prop:=∃ T,e=.returned (.int .i64 (wsum cs r.K T r.n))∧(∀ o,o < r.n→(T o=true↔r.in cs (o+1)))∧Below w.heap.size w w'
set_option maxRecDepth 20000 in
set_option maxHeartbeats 2000000 in
theorem rwords_any (rb:Nat) (x:RX) (cs:Sch) (sz:Int) (r:DH) (w:World) (h:RP w rb x cs sz r) (hW:Wf cs r) (hcs:cs.length≤1000) (h6:∀ c∈cs,c.2.length≤6) (hn:r.n≤4398046511104) :
  Calls Tryz.prog 41 #[.pointer (some ⟨rb,0,none⟩)] w (RWPost cs r w):=by
 have C:=there_any rb x cs sz r w h hW hcs h6 hn
 have hrb:=h.lt
 have HH:Hid (RP w rb x cs sz r):=h
 have H6:Hid (∀ c∈cs,c.2.length≤6):=h6
 unfold ThPost at C
 obtain ⟨n,hnn⟩:∃ n,n=r.n:=⟨_,rfl⟩
 have HN:Hid (n=r.n):=hnn
 rw [← hnn] at C hn
 unfold RWPost
 rw [← hnn]
 clear h hW h6 hnn
 go_enter Tryz.func41,Tryz.ntmps41
 go_wp2_with fail
 refine C.mono ?_
 rintro e w1 ⟨T,rfl,tb,hT,B1⟩
 have HT:Hid (∀ o,o < n→(T o=true↔r.in cs (o+1))):=hT
 have HB1:Hid (Below w.heap.size w w1):=B1
 clear C hT B1
 go_wp2
 go_loopw [4,5] (fun sv iv wr=>∃ o:Nat,o≤n∧iv=.int .i64 o∧sv=.int .i64 (wsum cs r.K T o)∧∃ nd,wr=w1.drewN nd) (fun _ iv _=>n - (intOf iv).toNat)
 case atStart=>exact ⟨0,by omega,rfl,by simp [wsum,lst],0,rfl⟩
 case round =>
  obtain ⟨o,ho,rfl,rfl,nd,rfl⟩:=hrel
  by_cases hol:o < n
  ·have ho':o < r.n:=by rw [← HN.out]; exact hol
   have HP:=HH.out.below HB1.out
   have HKC:Hid (KC w1 x.kx cs):=HP.kc
   obtain ⟨g,hga,hg,hrow⟩:=HP.row (by omega)
   obtain ⟨o0,o1⟩:=hrow o ho'
   have d0:=HP.c0
   have d2:=HP.c2
   rw [hga,← HN.out] at d2
   have hrb1:=HP.lt
   have hob:(0:Int)≤(o:Int)∧(o:Int) < (n:Int):=by omega
   have FK:∀ W:World,KC W x.kx cs→Calls Tryz.prog 72 #[.slice (some ⟨x.kx.g,0,none⟩) cs.length x.kx.cap,.int .u8 (r.K (o+1))] W fun e w'=>e=.returned (.tuple #[.slice (knA x.kx cs (r.K (o+1))) (fof cs (r.K (o+1))).length (knC x.kx cs (r.K (o+1))),.bool (cs.any fun y=>y.1==r.K (o+1))])∧w'=W :=
    fun W hW=>known_any x.kx cs (r.K (o+1)) W hW hcs
   have hf6:=fof_le H6.out (r.K (o+1))
   have hsl:=wsum_le H6.out r.K T o
   have hs1:=wsum_succ cs r.K T o
   obtain ⟨s0,hs0⟩:∃ s0,s0=wsum cs r.K T o:=⟨_,rfl⟩
   obtain ⟨fl,hfl⟩:∃ fl,fl=(fof cs (r.K (o+1))).length:=⟨_,rfl⟩
   rw [← hs0] at hsl hs1 ⊢
   rw [← hfl] at hf6 FK
   have tc:=tb.c o hol
   have tl:=tb.lt
   cases hto:T o with
   | true =>
    rw [hto] at tc
    have HS:Hid (wsum cs r.K T (o+1)=s0+fl+1):=by
     show _=_
     rw [hs1,if_pos hto,wof,← hfl]; omega
    clear HP hrow hfl hs0 hs1 hto o1
    go_wp2
    go_quiet ((go_at_call 72; exact (FK _ (HKC.out.drewN _)).mono fun _ _ h=>⟨h.1,_,h.2⟩))
    clear FK HKC
    go_wp2
    go_roundw
    case rel=>exact ⟨o+1,by omega,by go_num,by rw [HS.out]; go_num,_,rfl⟩
    case measure=>simp [intOf]; omega
   | false =>
    rw [hto] at tc
    have HS:Hid (wsum cs r.K T (o+1)=s0):=by
     show _=_
     rw [hs1,if_neg (by rw [hto]; decide)]; omega
    clear HP hrow hfl hs0 hs1 hto o1
    go_wp2
    go_quiet ((go_at_call 72; exact (FK _ (HKC.out.drewN _)).mono fun _ _ h=>⟨h.1,_,h.2⟩))
    clear FK HKC
    go_wp2
    go_roundw
    case rel=>exact ⟨o+1,by omega,by go_num,by rw [HS.out],_,rfl⟩
    case measure=>simp [intOf]; omega
  ·have eo:o=n:=by omega
   have hge:n≤o:=by omega
   have HEO:Hid (o=n):=eo
   clear hol eo
   go_wp2
   go_ret
   exact ⟨T,by have:=HEO.out; subst this; rfl,HT.out,HB1.out.trans ((gb_bdN w1 nd).mono HB1.out.size)⟩
end Go.Proofs.YtbgilndohccicaaGreatDoor
namespace Go.Proofs.YtbgilndohccicaaGreatDoor
open Go.RowKit
theorem app_run {P:Program} (w:World) (t ty e:TypeId) (i:TypeInfo) (z:Value) (size bytes:Nat) (ht:P.underlying t=some (.slice e)) (hi:P.info? e=some i) (hz:i.zero=some z)
  (hsize:i.size=size) (hby:i.bytes=bytes) (hzs:z.cells.size=size) (hsz:0 < size)
  (v:Value) (n:Nat) (xs:List Value) (hown:w.ownsRow 0 e size v n xs)
  (a:Addr) (m c:Nat) (news:List Value) (hl:news.length=m * size) (hnews:∀ j u,news[j]?=some u→w.cell? (a.add j)=some u) (h1:∀ u∈news,u.oneCell'=true)
  (h63:n+m≤maxLen) (hbytes:(n+m) * bytes≤140737488355328) :
  ∃ v' w',(Builtin.append_ #[t,t] ty #[v,.slice (some a) m c]).run P w=.ok v' w'∧w'.ownsRow 0 e size v' (n+m) (xs++news)∧w.grownBy w' v.ownBlock∧(∀ g,v'.ownBlock=some g→v.ownBlock=some g∨w.heap.size≤g):=by
 obtain ⟨v',w',hr,ho,hg,_⟩:=run_append_own (P:=P) w 0 t ty e i z size bytes ht hi hz hsize hby hzs hsz v n xs hown a m c news hl hnews h1 h63 hbytes (Nat.zero_le _)
 refine ⟨v',w',hr,ho,hg,?_⟩
 rcases hown.2 with ⟨rfl,rfl⟩ | ⟨g,cap,cur,rfl,_,hgg,hnc,hcm,hcs,htk⟩
 ·obtain ⟨v2,w2,hr2,ho2,_,_⟩:=run_append_own (P:=P) w w.heap.size t ty e i z size bytes ht hi hz hsize hby hzs hsz (.slice none 0 0) 0 xs (by
   have:xs=[]:=by have:=hown.1; simpa using this
   rw [this]; exact World.ownsRow_nil _ _ _ _) a m c news hl hnews h1 h63 hbytes (Nat.le_refl _)
  rw [hr] at hr2
  cases hr2
  intro g hg'
  exact .inr (World.ownsRow.lt ho2 g hg').1
 ·by_cases hroom:n+m≤cap
  ·have hr2:=run_append_room_cells (P:=P) w t ty e i ht hi g 0 n cap a m c news (by rw [hsize]; exact hl) hnews h1 hroom
    (fun j hj=>by
     rw [cell_of_row w g _ cur e _ hgg]
     have:0+n * i.size+j < cur.size:=by
      rw [hcs,hsize]
      have h2:(n+m) * size≤cap * size:=Nat.mul_le_mul_right _ hroom
      rw [Nat.add_mul] at h2
      omega
     rw [Array.getElem?_eq_getElem this]; rfl) (fun j _=>frozen_of_row w g _ cur e hgg)
   rw [hr] at hr2
   cases hr2
   intro g' hg'
   exact .inl hg'
  ·obtain ⟨v2,w2,hr2,ho2,_⟩:=run_append_arg_grows (P:=P) w t ty e i z size bytes ht hi hz hsize hby hzs hsz ⟨g,0,none⟩ n cap xs hown.1 (World.ownsRow.cells hown rfl) a m c news hl hnews (by omega) h63 hbytes
   rw [hr] at hr2
   cases hr2
   intro g' hg'
   exact .inr (World.ownsRow.lt ho2 g' hg').1
theorem step_append_run {P:Program} {ops:Array Oper} {o:Oper} {a:Act} {w:World} {K:Act→World→Prop} {Q:Exit→Act→World→Prop} {E:Prop}
  (hg:o.guard=none) (s x:Operand) (t:TypeId) (hop:o.op=Op.call { callee:=Callee.builtin Builtin.append,args:=#[s,x],argTypes:=#[t,t] })
  (v u v':Value) (w':World) (hs:a.eval s=v) (hx:a.eval x=u) (hrun:(Builtin.append_ #[t,t] o.type #[v,u]).run P w=.ok v' w') (hK:K (a.put o.dst v') w') :
  if Region.wanted o (yielded ops a.tmps)=true then Oper.wp P o a w K Q else E:=by
 have hw:Region.wanted o (yielded ops a.tmps)=true:=by simp [Region.wanted,hg]
 rw [if_pos hw]
 unfold Oper.wp
 simp [execOp,hop,resolve,invoke,builtin,hs,hx,hrun,Result.andThen]
 exact hK
def mkX (x:RX) (n gA fl:Nat) (v:SV):RX:={ x with ov:=v,G:=set1 x.G n gA,Q:=set1 x.Q n fl }
def mkD (r:DH) (c:Int):DH:={ r with K:=set1 r.K (r.n+1) c,C:=fun b j=>if b=r.n+1 then 0 else r.C b j,n:=r.n+1 }
theorem objs_make (cs:Sch) (x:RX) (r:DH) (c:Int) (gA:Nat) (v:SV):objs cs (mkX x r.n gA (fof cs c).length v) (mkD r c)=objs cs x r++[(c,⟨some ⟨gA,0,none⟩,(fof cs c).length,(fof cs c).length⟩)]:=by
 unfold objs
 rw [show (mkD r c).n=r.n+1 from rfl,List.range_succ,List.map_append]
 congr 1
 ·refine List.map_congr_left fun o ho=>?_
  have ho':=List.mem_range.1 ho
  simp only [mkX,mkD]
  rw [set1_ne r.K c (show o+1≠r.n+1 by omega),set1_ne x.G gA (show o≠r.n by omega),set1_ne x.Q _ (show o≠r.n by omega)]
 ·simp only [mkX,mkD,List.map_cons,List.map_nil]
  rw [set1_self,set1_self,set1_self]
theorem RP.made {w w3:World} {rb:Nat} {x:RX} {cs:Sch} {sz:Int} {r:DH} (h:RP w rb x cs sz r) (c:Int) (gA:Nat) (a':Option Addr) (c':Nat)
  (hgA:w.heap.size≤gA) (hgA3:gA < w3.heap.size) (hsz:w.heap.size≤w3.heap.size)
  (hc0:∀ k,k < (fof cs c).length→w3.cell? ⟨gA,k,none⟩=some (.int .i64 0)) (hf0:∀ k,w3.frozen? ⟨gA,k,none⟩=false)
  (hown:w3.ownsRow 0 113 2 (.slice a' (r.n+1) c') (r.n+1) (flatC (objs cs x r)++[.int .u8 c,.slice (some ⟨gA,0,none⟩) (fof cs c).length (fof cs c).length]))
  (hk:∀ b,b < w.heap.size→x.ov.a≠some ⟨b,0,none⟩→w3.heap[b]?=w.heap[b]?)
  (hnew:∀ g,a'=some ⟨g,0,none⟩→x.ov.a=some ⟨g,0,none⟩∨(w.heap.size≤g∧g≠gA)) :
  RP (w3.setCell ⟨rb,2,none⟩ (.slice a' (r.n+1) c')) rb (mkX x r.n gA (fof cs c).length ⟨a',r.n+1,c'⟩) cs sz (mkD r c)∧(∀ b,(mkX x r.n gA (fof cs c).length ⟨a',r.n+1,c'⟩).has cs (mkD r c).n rb b→x.has cs r.n rb b∨w.heap.size≤b):=by
 have hrb:=h.lt
 have erb:w3.heap[rb]?=w.heap[rb]?:=hk rb hrb (fun e=>(h.rov rb e).1 rfl)
 have ec:∀ o,o≠2→(w3.setCell ⟨rb,2,none⟩ (.slice a' (r.n+1) c')).cell? ⟨rb,o,none⟩=w.cell? ⟨rb,o,none⟩:=fun o ho=>(sc_off w3 _ ho).trans (World.cell?_of_block (a:=⟨rb,o,none⟩) erb)
 have c2':w3.cell? ⟨rb,2,none⟩=some (.slice x.ov.a r.n x.ov.c):=(World.cell?_of_block (a:=⟨rb,2,none⟩) erb).trans h.c2
 have hGo:∀ o,o < r.n→w3.heap[x.G o]?=w.heap[x.G o]?:=fun o ho=>hk _ (h.ob o ho).lt (fun e=>h.nov o ho _ e rfl)
 have hss:(w3.setCell ⟨rb,2,none⟩ (.slice a' (r.n+1) c')).heap.size=w3.heap.size:=by simp [World.setCell]
 have hgo:∀ g,a'=some ⟨g,0,none⟩→g≠rb∧¬ x.kx.has cs g∧g≠gA∧∀ o,o < r.n→x.G o≠g:=by
  intro g hg
  rcases hnew g hg with e | ⟨e1,e2⟩
  ·obtain ⟨e1,e2⟩:=h.rov g e
   refine ⟨Ne.symm e1,e2,?_,fun o ho=>h.nov o ho g e⟩
   have:=h.has_lt (b:=g) (.inr (.inr (.inl ⟨g,e,rfl⟩)))
   omega
  ·refine ⟨by omega,fun hh=>?_,e2,fun o ho=>?_⟩
   ·have:=h.kc.has_lt hh; omega
   ·have:=(h.ob o ho).lt; omega
 refine ⟨⟨by rw [ec _ (by omega)]; exact h.c0,by rw [ec _ (by omega)]; exact h.c1,?_,fun i hi=>by rw [ec _ (by omega)]; exact h.root i hi,by rw [ec _ (by omega)]; exact h.c11,by rw [ec _ (by omega)]; exact h.c12,by rw [ec _ (by omega)]; exact h.c13,by rw [ec _ (by omega)]; exact h.c14,fun o=>?_,
  ?_,?_,fun o ho=>?_,fun o o' ho ho' e=>?_,fun o ho=>?_,fun o ho g hg=>?_,fun o ho=>?_,h.rkx,fun g hg=>⟨Ne.symm (hgo g hg).1,(hgo g hg).2.1⟩⟩,?_⟩
 ·show _=some (Value.slice a' (r.n+1) c')
  go_simp
 ·rw [sc_frz]; exact (World.frozen?_of_block (a:=⟨rb,o,none⟩) erb).trans (h.frz o)
 ·refine h.kc.keep (by rw [hss]; exact hsz) fun b hb=>?_
  rw [sc_blk w3 _ (show b≠rb from fun e=>h.rkx (by rw [← e]; exact hb))]
  exact hk b (h.kc.has_lt hb) (fun e=>(h.rov b e).2 hb)
 ·rw [objs_make,flatC_app]
  refine row_keep hown fun g hg=>sc_blk w3 _ ?_
  have hg2:Value.ownBlock (.slice a' (r.n+1) c')=some g:=hg
  clear hg
  rcases hown.2 with ⟨e,hn⟩ | ⟨g',cap,cur,e,_⟩
  ·rw [e] at hg2; cases hg2
  ·have ea:a'=some ⟨g',0,none⟩:=by injection e
   rw [ea] at hg2
   have:g'=g:=by simpa [Value.ownBlock] using hg2
   subst this
   exact (hgo g' ea).1
 ·by_cases e:o=r.n
  ·subst e
   have eG:(mkX x r.n gA (fof cs c).length ⟨a',r.n+1,c'⟩).G r.n=gA:=set1_self _ _ _
   have eK:(mkD r c).K (r.n+1)=c:=set1_self _ _ _
   refine ⟨by rw [eG,hss]; exact hgA3,fun k hk'=>?_,fun k=>?_⟩
   ·rw [eG,sc_other w3 _ (by omega)]
    rw [eK] at hk'
    rw [hc0 k hk']
    simp [mkD]
   ·rw [eG,sc_frz]; exact hf0 k
  ·have ho':o < r.n:=by have:o < r.n+1:=ho; omega
   have eG:(mkX x r.n gA (fof cs c).length ⟨a',r.n+1,c'⟩).G o=x.G o:=set1_ne _ _ e
   have eK:(mkD r c).K (o+1)=r.K (o+1):=set1_ne _ _ (by omega)
   have hb:=h.ob o ho'
   refine ⟨by rw [eG,hss]; exact Nat.lt_of_lt_of_le hb.lt hsz,fun k hk'=>?_,fun k=>?_⟩
   ·rw [eK] at hk'
    rw [eG,sc_other w3 _ (h.nrb o ho'),World.cell?_of_block (a:=⟨x.G o,k,none⟩) (hGo o ho'),hb.cell k hk']
    simp only [mkD]
    rw [if_neg (by omega)]
   ·rw [eG,sc_frz]; exact (World.frozen?_of_block (a:=⟨x.G o,k,none⟩) (hGo o ho')).trans (hb.frz k)
 ·have h1:o < r.n+1:=ho
  have h2:o' < r.n+1:=ho'
  simp only [mkX] at e
  by_cases e1:o=r.n
  ·by_cases e2:o'=r.n
   ·omega
   ·rw [e1,set1_self,set1_ne _ _ e2] at e
    have:=(h.ob o' (by omega)).lt; omega
  ·by_cases e2:o'=r.n
   ·rw [e2,set1_self,set1_ne _ _ e1] at e
    have:=(h.ob o (by omega)).lt; omega
   ·rw [set1_ne _ _ e1,set1_ne _ _ e2] at e
    exact h.apart o o' (by omega) (by omega) e
 ·have h1:o < r.n+1:=ho
  simp only [mkX]
  by_cases e1:o=r.n
  ·rw [e1,set1_self]; omega
  ·rw [set1_ne _ _ e1]; exact h.nrb o (by omega)
 ·have h1:o < r.n+1:=ho
  simp only [mkX] at hg ⊢
  by_cases e1:o=r.n
  ·rw [e1,set1_self]; exact Ne.symm (hgo g hg).2.2.1
  ·rw [set1_ne _ _ e1]; exact (hgo g hg).2.2.2 o (by omega)
 ·have h1:o < r.n+1:=ho
  simp only [mkX]
  by_cases e1:o=r.n
  ·rw [e1,set1_self]; intro hh; have:=h.kc.has_lt hh; omega
  ·rw [set1_ne _ _ e1]; exact h.nkx o (by omega)
 ·rintro b (rfl | hb | ⟨g,hg,rfl⟩ | ⟨o,ho,rfl⟩)
  ·exact .inl (.inl rfl)
  ·exact .inl (.inr (.inl hb))
  ·rcases hnew b hg with e | ⟨e1,_⟩
   ·exact .inl (.inr (.inr (.inl ⟨b,e,rfl⟩)))
   ·exact .inr e1
  ·have h1:o < r.n+1:=ho
   simp only [mkX]
   by_cases e1:o=r.n
   ·rw [e1,set1_self]; exact .inr hgA
   ·rw [set1_ne _ _ e1]; exact .inl (.inr (.inr (.inr ⟨o,by omega,rfl⟩)))
end Go.Proofs.YtbgilndohccicaaGreatDoor
