import Derived.Test.YtbgilndohccicaaGreatDoorBz34
import Derived.Test.YtbgilndohccicaaGreatDoorBz39
import Derived.Test.YtbgilndohccicaaGreatDoorBz20
import Derived.Test.YtbgilndohccicaaGreatDoorBz33
import Derived.Test.YtbgilndohccicaaGreatDoorBz19
namespace Go.Proofs.YtbgilndohccicaaGreatDoor
open Go.RowKit
theorem RP.setN {w:World} {rb:Nat} {x:RX} {cs:Sch} {sz:Int} {r:DH} (h:RP w rb x cs sz r) (x':RX) (hk:x'.kx=x.kx∧x'.ov=x.ov∧x'.G=x.G∧x'.Q=x.Q) {w':World} (hs:w.heap.size≤w'.heap.size) (e:∀ b,b≠rb→w'.heap[b]?=w.heap[b]?) (ec:∀ o,o < 11→w'.cell? ⟨rb,o,none⟩=w.cell? ⟨rb,o,none⟩) (ef:∀ o,w'.frozen? ⟨rb,o,none⟩=w.frozen? ⟨rb,o,none⟩)
  (c11:w'.cell? ⟨rb,11,none⟩=some (.slice x'.nx.a x'.nx.n x'.nx.c)) (c12:w'.cell? ⟨rb,12,none⟩=some (.bool x'.pd)) (c13:w'.cell? ⟨rb,13,none⟩=some (.bool x'.rd)) (c14:w'.cell? ⟨rb,14,none⟩=some (.int .i64 x'.sp)):RP w' rb x' cs sz r:=by
 obtain ⟨kx,ov,G,Q,nx,pd,rd,sp⟩:=x
 obtain ⟨kx',ov',G',Q',nx',pd',rd',sp'⟩:=x'
 simp only [] at hk
 obtain ⟨rfl,rfl,rfl,rfl⟩:=hk
 simp only [] at c11 c12 c13 c14
 refine ⟨by rw [ec 0 (by omega)]; exact h.c0,by rw [ec 1 (by omega)]; exact h.c1,by rw [ec 2 (by omega)]; exact h.c2,fun i hi=>by rw [ec _ (by omega)]; exact h.root i hi,c11,c12,c13,c14,fun o=>by rw [ef]; exact h.frz o,
  h.kc.keep hs fun b hb=>e b (fun e'=>h.rkx (by rw [← e']; exact hb)),row_keep h.own fun g hg=>e g ?_,fun o ho=>?_,h.apart,h.nrb,h.nov,h.nkx,h.rkx,h.rov⟩
 ·rcases h.own.2 with ⟨e1,hn⟩ | ⟨g',cap,cur,e1,_,hg',_⟩
  ·rw [e1] at hg; cases hg
  ·have ea:ov'.a=some ⟨g',0,none⟩:=by injection e1
   have:=(h.rov g' ea).1
   have hgg:Value.ownBlock (.slice ov'.a r.n ov'.c)=some g:=hg
   rw [ea] at hgg
   have:g'=g:=by simpa [Value.ownBlock] using hgg
   omega
 ·have eo:=e (G' o) (h.nrb o ho)
  exact ⟨Nat.lt_of_lt_of_le (h.ob o ho).lt hs,fun k hk=>(World.cell?_of_block (a:=⟨G' o,k,none⟩) eo).trans ((h.ob o ho).cell k hk),fun k=>(World.frozen?_of_block (a:=⟨G' o,k,none⟩) eo).trans ((h.ob o ho).frz k)⟩
theorem heap_other (w:World) (b o:Nat) (v:Value) {k:Nat} (h:k≠b):(w.setCell ⟨b,o,none⟩ v).heap[k]?=w.heap[k]?:=heap_setCell_other _ _ _ _ h
theorem UCls.keep {w w':World} {lo:Nat} {v:Value} {vs:List HV} {cs:List HC} (h:UCls w lo v vs cs) (e:∀ b,lo≤b→b < w.heap.size→w'.heap[b]?=w.heap[b]?):UCls w' lo v vs cs:=by
 refine ⟨row_keep h.row fun g hg=>e g (World.ownsRow.lt h.row g hg).1 (World.ownsRow.lt h.row g hg).2,h.len,fun i p c h1 h2=>?_⟩
 obtain ⟨a,b,c'⟩:=h.fld i p c h1 h2
 exact ⟨a,b,row_keep c' fun g hg=>e g (World.ownsRow.lt c' g hg).1 (World.ownsRow.lt c' g hg).2⟩
def bgR (x:RX) (cs:Sch) (s:ByteArray):Int×Int:=if x.pd=true then (11,0) else (uE cs s,uP cs s)
def BrPost (rb:Nat) (x:RX) (cs:Sch) (sz:Int) (r:DH) (s:ByteArray) (w:World) (e:Ending) (w':World):Prop :=
 e=.returned (.tuple #[.int .i64 (bgR x cs s).1,.int .i64 (bgR x cs s).2])∧w.grownBy w' (some rb)∧((bgR x cs s).1≠0→RP w' rb x cs sz r) ∧
 ((bgR x cs s).1=0→∃ nx hv hs,RP w' rb { x with nx:=nx,pd:=true,rd:=false,sp:=0 } cs sz r∧haAll s=some hs∧UCls w' w.heap.size (.slice nx.a nx.n nx.c) hv hs)
theorem uE0_P {cs:Sch} {s:ByteArray} (he:uE cs s=0):uP cs s=0:=by
 unfold uE at he
 unfold uP
 split at he
 ·rename_i h1; exact absurd he h1
 ·rename_i h1
  rw [if_neg h1]
  split at he
  ·omega
  ·rename_i h2; rw [if_neg h2,if_neg (by simpa using he)]
set_option maxRecDepth 20000 in
set_option maxHeartbeats 1000000 in
theorem begin_r (rb:Nat) (x:RX) (cs:Sch) (sz:Int) (r:DH) (w:World) (h:RP w rb x cs sz r) (hU:Uq cs) (hE:Ends w) (s:ByteArray) (hm:s.size≤9223372036854775807) :
  Calls Tryz.prog 43 #[.pointer (some ⟨rb,0,none⟩),.string s] w (BrPost rb x cs sz r s w):=by
 have hrb:=h.lt
 have c0:=h.c0
 have c12:=h.c12
 obtain ⟨A,hA⟩:∃ A,bgR x cs s=A:=⟨_,rfl⟩
 unfold BrPost
 rw [hA]
 unfold bgR at hA
 have HR:Hid (RP w rb x cs sz r):=h
 cases hpd:x.pd with
 | true =>
  rw [hpd] at c12 hA
  rw [if_pos rfl] at hA
  have HA:Hid (A=(11,0)):=hA.symm
  clear hA h
  go_enter Tryz.func43,Tryz.ntmps43
  go_wp2
  go_ret2
  rw [HA.out]
  exact ⟨rfl,World.grownBy.refl _ _,fun _=>HR.out,fun h=>by simp at h⟩
 | false =>
  rw [hpd] at c12 hA
  rw [if_neg (by simp)] at hA
  have C:=update_any s h.kc hU hE hm
  unfold UUPost at C
  have HUa:Hid (∀ E P,UpRef cs s E P→E=uE cs s∧P=uP cs s):=fun E P hp=>uagree hU hp
  have HA:Hid (A=(uE cs s,uP cs s)):=hA.symm
  have HP0:Hid (uE cs s=0→uP cs s=0):=uE0_P
  obtain ⟨om,hom⟩:∃ om,om=cs.length:=⟨_,rfl⟩
  rw [← hom] at c0 C
  clear hA h hom
  go_enter Tryz.func43,Tryz.ntmps43
  go_wp2_with fail
  refine C.mono ?_
  rintro e w1 ⟨a,n,c,E,P,rfl,hUp,hUc,B1⟩
  obtain ⟨e1,e2⟩:=HUa.out E P hUp
  have HA2:Hid (A=(E,P)):=by show A=_; rw [HA.out,e1,e2]
  have HP2:Hid (E=0→P=0):=by rw [e1,e2]; exact HP0
  have H1:RP w1 rb x cs sz r:=HR.out.below B1
  have HUC:Hid (E=0→∃ cs vs,haAll s=some cs∧UCls w1 w.heap.size (.slice a n c) vs cs):=hUc
  clear C hUp hUc e1 e2
  by_cases he:E=0
  ·have q0:(E != 0)=false:=by simp [he]
   have HE:Hid (E=0):=he
   have HH1:Hid (RP w1 rb x cs sz r):=H1
   have hrb1:=H1.lt
   have d11:=H1.c11
   have d12:=H1.c12
   have d13:=H1.c13
   have d14:=H1.c14
   have f11:=H1.frz 11
   have f12:=H1.frz 12
   have f13:=H1.frz 13
   have f14:=H1.frz 14
   clear he H1
   go_wp2
   go_ret2
   obtain ⟨hs,hv,hha,hUC⟩:=HUC.out HE.out
   refine ⟨by rw [HA2.out,HE.out,HP2.out HE.out]; rfl,?_,fun hne=>absurd (by rw [HA2.out]; exact HE.out) hne,fun _=>⟨⟨a,n,c⟩,hv,hs,?_,hha,?_⟩⟩
   ·exact gb_trans (gb_trans (gb_trans (gb_trans (gb_below B1 _) (gb_set _ _ _ _)) (gb_set _ _ _ _)) (gb_set _ _ _ _)) (gb_set _ _ _ _)
   ·refine RP.setN HH1.out _ ?_ ?_ (fun b hb=>?_) (fun o ho=>?_) (fun o=>?_) ?_ ?_ ?_ ?_
    ·exact ⟨rfl,rfl,rfl,rfl⟩
    ·exact Nat.le_trans (gb_set w1 rb 11 _).size (Nat.le_trans (gb_set _ rb 12 _).size (Nat.le_trans (gb_set _ rb 13 _).size (gb_set _ rb 14 _).size))
    ·rw [heap_other _ _ _ _ hb,heap_other _ _ _ _ hb,heap_other _ _ _ _ hb,heap_other _ _ _ _ hb]
    ·rw [World.cell?_setCell_other _ _ _ _ (by intro e; injection e with _ e2 _; omega),World.cell?_setCell_other _ _ _ _ (by intro e; injection e with _ e2 _; omega),World.cell?_setCell_other _ _ _ _ (by intro e; injection e with _ e2 _; omega),World.cell?_setCell_other _ _ _ _ (by intro e; injection e with _ e2 _; omega)]
    ·have:=HH1.out.frz o; go_simp
    ·go_simp
    ·go_simp
    ·go_simp
    ·go_simp
   ·refine hUC.keep fun b h1 h2=>?_
    have hb:b≠rb:=by omega
    rw [heap_other _ _ _ _ hb,heap_other _ _ _ _ hb,heap_other _ _ _ _ hb,heap_other _ _ _ _ hb]
  ·have q0:(E != 0)=true:=by simp [he]
   have HE:Hid (E≠0):=he
   have HH1:Hid (RP w1 rb x cs sz r):=H1
   clear he H1
   go_wp2
   go_ret2
   exact ⟨by rw [HA2.out]; rfl,gb_below B1 _,fun _=>HH1.out,fun h0=>absurd (by rw [HA2.out] at h0; exact h0) HE.out⟩
set_option maxHeartbeats 400000 in
theorem abort_r (rb:Nat) (x:RX) (cs:Sch) (sz:Int) (r:DH) (w:World) (h:RP w rb x cs sz r) :
  Calls Tryz.prog 51 #[.pointer (some ⟨rb,0,none⟩)] w fun e w'=>e=.returned (.int .i64 (if x.pd=true then 0 else 12))∧w.grownBy w' (some rb)∧RP w' rb { x with pd:=false } cs sz r:=by
 have hrb:=h.lt
 have c12:=h.c12
 have c11:=h.c11
 have c13:=h.c13
 have c14:=h.c14
 have f12:=h.frz 12
 have HR:Hid (RP w rb x cs sz r):=h
 cases hpd:x.pd with
 | true =>
  rw [hpd] at c12
  rw [if_pos rfl]
  clear h
  go_enter Tryz.func51,Tryz.ntmps51
  go_wp2
  go_ret
  refine ⟨rfl,gb_set _ _ _ _,?_⟩
  refine RP.setN HR.out _ ?_ ?_ (fun b hb=>?_) (fun o ho=>?_) (fun o=>?_) ?_ ?_ ?_ ?_
  ·exact ⟨rfl,rfl,rfl,rfl⟩
  ·exact (gb_set w rb 12 _).size
  ·exact heap_other _ _ _ _ hb
  ·rw [World.cell?_setCell_other _ _ _ _ (by intro e; injection e with _ e2 _; omega)]
  ·have:=HR.out.frz o; go_simp
  ·go_simp
  ·go_simp
  ·go_simp
  ·go_simp
 | false =>
  have hx:({ x with pd:=false }:RX)=x:=by rw [← hpd]
  rw [hpd] at c12
  rw [if_neg (by simp),hx]
  clear h hx
  go_enter Tryz.func51,Tryz.ntmps51
  go_wp2
  go_ret
  exact ⟨rfl,World.grownBy.refl _ _,HR.out⟩
def stE (pd:Bool) (bud:Int):Int:=if pd=false then 12 else if bud < 1 then 13 else 0
def stS (pd:Bool) (bud:Int):Bool:=pd && decide (1≤bud)
def stX (x:RX) (bud:Int):RX:=if stS x.pd bud=true then { x with rd:=true,sp:=if 200 < x.sp+(if 200 < bud then 200 else bud) then 200 else x.sp+(if 200 < bud then 200 else bud) } else x
set_option maxRecDepth 20000 in
set_option maxHeartbeats 1000000 in
theorem step_r (rb:Nat) (x:RX) (cs:Sch) (sz:Int) (r:DH) (w:World) (h:RP w rb x cs sz r) (hsp:x.pd=true→0≤x.sp∧x.sp≤200) (bud:Int) :
  Calls Tryz.prog 45 #[.pointer (some ⟨rb,0,none⟩),.int .i64 bud,.bool (stS x.pd bud),.int .i64 (stE x.pd bud)] w fun e w'=>e=.returned (.bool true)∧w.grownBy w' (some rb)∧RP w' rb (stX x bud) cs sz r:=by
 have hrb:=h.lt
 have c12:=h.c12
 have c11:=h.c11
 have c13:=h.c13
 have c14:=h.c14
 have f13:=h.frz 13
 have f14:=h.frz 14
 have HR:Hid (RP w rb x cs sz r):=h
 cases hpd:x.pd with
 | false =>
  have e1:stS false bud=false:=rfl
  have e2:stE false bud=12:=rfl
  have e3:stX x bud=x:=by unfold stX; rw [hpd,e1,if_neg (by decide)]
  rw [hpd] at c12
  rw [e1,e2,e3]
  clear h e1 e2 e3
  go_enter Tryz.func45,Tryz.ntmps45
  go_wp2
  go_ret
  exact ⟨rfl,World.grownBy.refl _ _,HR.out⟩
 | true =>
  obtain ⟨h0,h1⟩:=hsp hpd
  rw [hpd] at c12
  by_cases hb:bud < 1
  ·have e1:stS true bud=false:=by unfold stS; simp; omega
   have e2:stE true bud=13:=by unfold stE; rw [if_neg (by decide),if_pos hb]
   have e3:stX x bud=x:=by unfold stX; rw [hpd,e1,if_neg (by decide)]
   rw [e1,e2,e3]
   clear h e1 e2 e3
   go_enter Tryz.func45,Tryz.ntmps45
   go_wp2
   go_ret
   exact ⟨rfl,World.grownBy.refl _ _,HR.out⟩
  ·have e1:stS true bud=true:=by unfold stS; simp; omega
   have e2:stE true bud=0:=by unfold stE; rw [if_neg (by decide),if_neg hb]
   have e3:stX x bud={ x with rd:=true,sp:=if 200 < x.sp+(if 200 < bud then 200 else bud) then 200 else x.sp+(if 200 < bud then 200 else bud) }:=by unfold stX; rw [hpd,e1,if_pos rfl]
   rw [e1,e2,e3]
   have hb1:1≤bud:=by omega
   clear h e1 e2 e3 hb
   obtain ⟨B,hB⟩:∃ B,B=(if 200 < bud then 200 else bud):=⟨_,rfl⟩
   rw [← hB]
   have fin:∀ (w':World) (y:Int),(w'=((w.setCell ⟨rb,14,none⟩ (.int .i64 y)).setCell ⟨rb,13,none⟩ (.bool true))∨∃ z,w'=(((w.setCell ⟨rb,14,none⟩ (.int .i64 z)).setCell ⟨rb,14,none⟩ (.int .i64 y)).setCell ⟨rb,13,none⟩ (.bool true)))→w.grownBy w' (some rb)∧RP w' rb { x with rd:=true,sp:=y } cs sz r:=by
    intro w' y hw
    rcases hw with rfl | ⟨z,rfl⟩
    ·refine ⟨gb_trans (gb_set _ _ _ _) (gb_set _ _ _ _),?_⟩
     refine RP.setN HR.out _ ?_ ?_ (fun b hb=>?_) (fun o ho=>?_) (fun o=>?_) ?_ ?_ ?_ ?_
     ·exact ⟨rfl,rfl,rfl,rfl⟩
     ·exact Nat.le_trans (gb_set w rb 14 _).size (gb_set _ rb 13 _).size
     ·rw [heap_other _ _ _ _ hb,heap_other _ _ _ _ hb]
     ·rw [World.cell?_setCell_other _ _ _ _ (by intro e; injection e with _ e2 _; omega),World.cell?_setCell_other _ _ _ _ (by intro e; injection e with _ e2 _; omega)]
     ·have:=HR.out.frz o; go_simp
     ·go_simp
     ·rw [hpd]; go_simp
     ·go_simp
     ·go_simp
    ·refine ⟨gb_trans (gb_trans (gb_set _ _ _ _) (gb_set _ _ _ _)) (gb_set _ _ _ _),?_⟩
     refine RP.setN HR.out _ ?_ ?_ (fun b hb=>?_) (fun o ho=>?_) (fun o=>?_) ?_ ?_ ?_ ?_
     ·exact ⟨rfl,rfl,rfl,rfl⟩
     ·exact Nat.le_trans (gb_set w rb 14 _).size (Nat.le_trans (gb_set _ rb 14 _).size (gb_set _ rb 13 _).size)
     ·rw [heap_other _ _ _ _ hb,heap_other _ _ _ _ hb,heap_other _ _ _ _ hb]
     ·rw [World.cell?_setCell_other _ _ _ _ (by intro e; injection e with _ e2 _; omega),World.cell?_setCell_other _ _ _ _ (by intro e; injection e with _ e2 _; omega),World.cell?_setCell_other _ _ _ _ (by intro e; injection e with _ e2 _; omega)]
     ·have:=HR.out.frz o; go_simp
     ·go_simp
     ·rw [hpd]; go_simp
     ·go_simp
     ·go_simp
   have FIN:Hid (∀ (w':World) (y:Int),(w'=((w.setCell ⟨rb,14,none⟩ (.int .i64 y)).setCell ⟨rb,13,none⟩ (.bool true))∨∃ z,w'=(((w.setCell ⟨rb,14,none⟩ (.int .i64 z)).setCell ⟨rb,14,none⟩ (.int .i64 y)).setCell ⟨rb,13,none⟩ (.bool true)))→w.grownBy w' (some rb)∧RP w' rb { x with rd:=true,sp:=y } cs sz r):=fin
   clear fin
   have HB:Hid (B=(if 200 < bud then 200 else bud)):=hB
   generalize x.sp=sp at c14 h0 h1 ⊢
   clear hB
   by_cases q1:200 < bud
   ·rw [HB.out,if_pos q1]
    by_cases q2:200 < sp+200
    ·rw [if_pos q2]
     go_enter Tryz.func45,Tryz.ntmps45
     go_wp2
     go_ret
     have F:=FIN.out _ 200 (.inr ⟨sp+200,rfl⟩)
     first | exact ⟨rfl,F⟩ | (rw [hpd] at F; exact ⟨rfl,F⟩)
    ·rw [if_neg q2]
     go_enter Tryz.func45,Tryz.ntmps45
     go_wp2
     go_ret
     have F:=FIN.out _ (sp+200) (.inl rfl)
     first | exact ⟨rfl,F⟩ | (rw [hpd] at F; exact ⟨rfl,F⟩)
   ·rw [HB.out,if_neg q1]
    by_cases q2:200 < sp+bud
    ·rw [if_pos q2]
     go_enter Tryz.func45,Tryz.ntmps45
     go_wp2
     go_ret
     have F:=FIN.out _ 200 (.inr ⟨sp+bud,rfl⟩)
     first | exact ⟨rfl,F⟩ | (rw [hpd] at F; exact ⟨rfl,F⟩)
    ·rw [if_neg q2]
     go_enter Tryz.func45,Tryz.ntmps45
     go_wp2
     go_ret
     have F:=FIN.out _ (sp+bud) (.inl rfl)
     first | exact ⟨rfl,F⟩ | (rw [hpd] at F; exact ⟨rfl,F⟩)
end Go.Proofs.YtbgilndohccicaaGreatDoor
namespace Go.Proofs.YtbgilndohccicaaGreatDoor
open Go.RowKit
def fdG (l:List GU) (name:Int):Option GU:=l.find? (fun g=>g.n==name)
def rpk1 (cs:Sch) (r:DH) (hs:List HC) (sv:Int) (o:Nat) (name:Int):Int×Int :=
 if tgI cs hs (r.K (o+1)) < 0 then (0,4)
 else match fdG (hs[(tgI cs hs (r.K (o+1))).toNat]?.getD noHC).l name with
  | none=>(0,5)
  | some g=>if g.k=114 then (0,6) else if (bcI cs r o sv g).2=false then (0,15) else ((bcI cs r o sv g).1,0)
def rpkI (x:RX) (cs:Sch) (r:DH) (hs:List HC) (sv:Int) (root name:Int):Int×Int :=
 if x.pd=false then (0,12) else if rtB root=false then (0,8) else if r.R root.toNat=0 then (0,9) else rpk1 cs r hs sv (r.R root.toNat - 1) name
theorem fdG_hit {l:List GU} {name:Int} {k:Nat} (hk:k < l.length) (hno:∀ j,j < k→¬ (l[j]?.getD noGU).n=name) (h:(l[k]?.getD noGU).n=name):fdG l name=some (l[k]?.getD noGU):=by
 unfold fdG
 have:l.find? (fun g=>g.n==name)=some l[k]:=by
  rw [List.find?_eq_some_iff_getElem]
  refine ⟨by simpa [List.getElem?_eq_getElem hk] using h,k,hk,rfl,fun j hj=>?_⟩
  have:=hno j hj
  have hj':j < l.length:=by omega
  simpa [List.getElem?_eq_getElem hj'] using this
 rw [this,List.getElem?_eq_getElem hk]; rfl
theorem fdG_none {l:List GU} {name:Int} (hno:∀ j,j < l.length→¬ (l[j]?.getD noGU).n=name):fdG l name=none:=by
 unfold fdG
 rw [List.find?_eq_none]
 intro p hp
 obtain ⟨j,hj,rfl⟩:=List.getElem_of_mem hp
 have:=hno j hj
 simpa [List.getElem?_eq_getElem hj] using this
theorem tgI_lt {cs:Sch} {hs:List HC} {K:Int} (h:¬ tgI cs hs K < 0):∃ t:Nat,tgI cs hs K=t∧t < hs.length:=by
 unfold tgI at h ⊢
 cases hf:hs.findIdx? (fun h=>srcI (vsO cs) h.n h.s==K) with
 | none=>rw [hf] at h; simp at h
 | some i=>exact ⟨i,rfl,(List.findIdx?_eq_some_iff_getElem.1 hf).1⟩
set_option maxRecDepth 20000 in
set_option maxHeartbeats 2000000 in
theorem peek_r (rb:Nat) (x:RX) (cs:Sch) (sz:Int) (r:DH) (w:World) (h:RP w rb x cs sz r) (hW:Wf cs r) (hU:Uq cs) (hcs:cs.length≤6) (h6:∀ c∈cs,c.2.length≤6) (hn:r.n≤4398046511104) (base:Nat) (hv:List HV) (hs:List HC) (sv:Int) (hsv1:-9223372036854775808≤sv) (hsv2:sv≤9223372036854775807) (root name:Int)
  (hN:x.pd=true→UCls w base (.slice x.nx.a x.nx.n x.nx.c) hv hs∧hs≠[]∧hs.length≤6∧(∀ c∈hs,c.l.length≤6)∧∀ o,rtB root=true→r.R root.toNat=o+1→∀ t:Nat,tgI cs hs (r.K (o+1))=t→∀ g,fdG (hs[t]?.getD noHC).l name=some g→g.k≠114→g.sm=true→CSu rb x cs sz r o 106 g.su sv) :
  Calls Tryz.prog 47 #[.pointer (some ⟨rb,0,none⟩),.int .i64 root,.int .u8 name] w fun e w'=>e=.returned (.tuple #[.int .i64 (rpkI x cs r hs sv root name).1,.int .i64 (rpkI x cs r hs sv root name).2])∧Below w.heap.size w w':=by
 have hrb:=h.lt
 have c12:=h.c12
 obtain ⟨A,hA⟩:∃ A,rpkI x cs r hs sv root name=A:=⟨_,rfl⟩
 rw [hA]
 unfold rpkI at hA
 obtain ⟨y,hy⟩:∃ y,rtB root=y:=⟨_,rfl⟩
 have CR:=fun W:World=>rroot_rs (w:=W) y hy
 cases hpd:x.pd with
 | false =>
  rw [hpd] at c12 hA
  rw [if_pos rfl] at hA
  have HA:Hid (A=(0,12)):=hA.symm
  clear hA h hN
  go_enter Tryz.func47,Tryz.ntmps47
  go_wp2_with fail
  refine (CR _).mono ?_
  rintro e w' ⟨rfl,rfl⟩
  clear CR
  go_wp2
  go_ret2
  rw [HA.out]
  exact ⟨rfl,Below.refl _ _⟩
 | true =>
  rw [hpd] at c12 hA
  rw [if_neg (by simp),hy] at hA
  cases y with
  | false =>
   rw [if_pos rfl] at hA
   have HA:Hid (A=(0,8)):=hA.symm
   clear hA h hN
   go_enter Tryz.func47,Tryz.ntmps47
   go_wp2_with fail
   refine (CR _).mono ?_
   rintro e w' ⟨rfl,rfl⟩
   clear CR
   go_wp2
   go_ret2
   rw [HA.out]
   exact ⟨rfl,Below.refl _ _⟩
  | true =>
   rw [if_neg (by simp)] at hA
   obtain ⟨q,rfl,hq8⟩:=rtB_nat hy
   rw [Int.toNat_natCast] at hA
   have cr:=h.root q hq8
   have hi:(0:Int)≤(q:Int)∧(q:Int) < 8:=by omega
   by_cases h0:r.R q=0
   ·rw [if_pos h0] at hA
    have HA:Hid (A=(0,9)):=hA.symm
    rw [h0] at cr
    clear hA h hN
    go_enter Tryz.func47,Tryz.ntmps47
    go_wp2_with fail
    refine (CR _).mono ?_
    rintro e w' ⟨rfl,rfl⟩
    clear CR
    go_wp2
    go_ret2
    rw [HA.out]
    exact ⟨rfl,Below.refl _ _⟩
   ·rw [if_neg h0] at hA
    have hRq:=hW.root q hq8
    obtain ⟨o,ho⟩:∃ o,r.R q=o+1:=⟨r.R q - 1,by omega⟩
    have ho':o < r.n:=by omega
    rw [ho,Nat.add_sub_cancel] at hA
    rw [ho] at cr
    have cr':w.cell? ⟨rb,3+q,none⟩=some (.int .i64 ((o:Int)+1)):=by rw [cr]; simp
    obtain ⟨hUc,hne,hl6,hlf,hsv⟩:=hN hpd
    have CT:=target_r rb x cs sz r w h hcs hn o ho' base hv hs hUc hne hl6
    unfold rpk1 at hA
    have hsb:((o:Int)+1) - 1=o:=by omega
    have hsq:(((o:Int)+1)==0)=false:=by simp; omega
    obtain ⟨t,ht⟩:∃ t,tgI cs hs (r.K (o+1))=t:=⟨_,rfl⟩
    rw [ht] at hA CT
    by_cases ht0:t < 0
    ·rw [if_pos ht0] at hA
     have HA:Hid (A=(0,4)):=hA.symm
     clear hA h hN cr hsv hUc
     go_enter Tryz.func47,Tryz.ntmps47
     go_wp2_with fail
     refine (CR _).mono ?_
     rintro e w' ⟨rfl,rfl⟩
     clear CR
     go_wp2_with fail
     refine CT.mono ?_
     rintro e w1 ⟨rfl,B1⟩
     clear CT
     go_wp2
     go_ret2
     rw [HA.out]
     exact ⟨rfl,B1⟩
    ·rw [if_neg ht0] at hA
     obtain ⟨j,hj,hjl⟩:=tgI_lt (cs:=cs) (hs:=hs) (K:=r.K (o+1)) (by rw [ht]; exact ht0)
     obtain rfl:t=j:=ht.symm.trans hj
     rw [Int.toNat_natCast] at hA
     have hsv':=hsv o hy (by rw [Int.toNat_natCast]; exact ho) j hj
     obtain ⟨gx,capx,ex,NX⟩:=hUc.nxc hne
     have c11:=h.c11
     rw [ex] at c11
     have hvl:=hUc.len
     have v1:hv[j]?=some (hv[j]'(by omega)):=List.getElem?_eq_getElem _
     have v2:hs[j]?=some (hs[j]'hjl):=List.getElem?_eq_getElem _
     have UVj:=(hUc.fld j _ _ v1 v2).2.2
     have n4:=(NX.row j hjl).c4
     rw [v1] at n4
     rw [v2] at hA hsv'
     simp only [Option.getD_some] at n4 hA hsv'
     have hlj:=hlf _ (List.mem_of_getElem? v2)
     generalize hs[j]=hc at UVj hA hsv' hlj
     generalize (hv[j]'(by omega)).v=sl at UVj n4
     obtain ⟨la,ln,lc⟩:=sl
     obtain ⟨hln,hcell⟩:=UV.cellsX (a:=la) (n:=ln) (k:=lc) UVj
     obtain ⟨l,hl⟩:∃ l,l=hc.l:=⟨_,rfl⟩
     rw [← hl] at hln hcell hA hsv' hlj
     simp only [] at n4
     have hgx:=NX.lt
     obtain ⟨m,hm⟩:∃ m,m=hs.length:=⟨_,rfl⟩
     rw [← hm] at c11 hjl hl6
     have HLN:Hid (ln=l.length):=hln
     have HCL:Hid (∀ i,i < ln→∃ g,la=some ⟨g,0,none⟩∧g < w.heap.size∧UCell w g i (l[i]?.getD noGU)):=hcell
     have HA:Hid ((match fdG l name with | none=>(0,5) | some g=>if g.k=114 then (0,6) else if (bcI cs r o sv g).2=false then (0,15) else ((bcI cs r o sv g).1,0))=A):=hA
     have hl6':ln≤6:=by omega
     have hji:(0:Int)≤(j:Int)∧(j:Int) < (m:Int):=by omega
     have CB:=fun (W:World) (hB:Below w.heap.size w W) (g:GU) (hg:fdG l name=some g) (hk:g.k≠114)=>becomes_r rb x cs sz r W (h.below hB) hU (by omega) h6 hn o ho' g hk sv hsv1 hsv2 (fun k=>hW.rng (o+1) k (by omega) (by omega)) (hsv' g hg hk)
     unfold guV at CB
     have HCB:=CB
     clear hA h hN cr hsv hUc UVj v1 v2 hl hm hsv' hln hcell NX hvl hlf hlj ht hj ht0 hne ex CB
     go_enter Tryz.func47,Tryz.ntmps47
     go_wp2_with fail
     refine (CR _).mono ?_
     rintro e wz ⟨rfl,rfl⟩
     clear CR
     go_wp2_with fail
     refine CT.mono ?_
     rintro e w1 ⟨rfl,B1⟩
     have HB1:Hid (Below wz.heap.size wz w1):=B1
     clear CT
     go_wp2
     go_loopw [11] (fun iv wr=>∃ k:Nat,k≤ln∧iv=.int .i64 k∧Hid (∀ i,i < k→¬ (l[i]?.getD noGU).n=name)∧Below wz.heap.size wz wr) (fun iv _=>ln - (intOf iv).toNat)
     case atStart=>exact ⟨0,Nat.zero_le _,rfl,fun i hi=>by omega,B1⟩
     case round =>
      clear B1
      obtain ⟨k,hk,rfl,HN,hb⟩:=hrel
      have d11:=(hb.cell (p:=⟨rb,11,none⟩) hrb).trans c11
      have e4:=(hb.cell (p:=⟨gx,j * 5+4,none⟩) hgx).trans n4
      have hrbr:rb < wr.heap.size:=Nat.lt_of_lt_of_le hrb hb.size
      have hgxr:gx < wr.heap.size:=Nat.lt_of_lt_of_le hgx hb.size
      by_cases hlt:k < ln
      ·obtain ⟨gg,hga,hgg,hcc⟩:=HCL.out k hlt
       have hcr:=hcc.below hb hgg
       have hggr:gg < wr.heap.size:=Nat.lt_of_lt_of_le hgg hb.size
       have hlt':k < l.length:=by rw [← HLN.out]; exact hlt
       obtain ⟨g,hg⟩:∃ g,l[k]?.getD noGU=g:=⟨_,rfl⟩
       rw [hg] at hcr
       subst hga
       obtain ⟨a0,a1,a2,a3,a4,a5,a6⟩:=hcr
       by_cases hnm:g.n=name
       ·have HF:Hid (fdG l name=some g):=by
         show _=_; rw [← hg]; exact fdG_hit hlt' HN.out (by rw [hg]; exact hnm)
        have HA2:Hid ((if g.k=114 then (0,6) else if (bcI cs r o sv g).2=false then (0,15) else ((bcI cs r o sv g).1,0))=A):=by have:=HA.out; rw [HF.out] at this; exact this
        have e1:(g.n != name)=false:=by simp [hnm]
        by_cases hk114:g.k=114
        ·have HA3:Hid (A=(0,6)):=by show A=_; rw [← HA2.out,if_pos hk114]
         have e2:(g.k==114)=true:=by simp [hk114]
         clear hcc hnm hk114 HCB hg
         generalize g.n=gn at a0 e1
         generalize g.k=gk at a1 e2
         generalize g.p=gp at a2
         generalize g.sa=gsa at a3
         generalize g.sm=gsm at a4
         generalize g.bg=gbg at a5
         generalize g.su=gsu at a6
         go_wp2
         go_ret2
         rw [HA3.out]
         exact ⟨rfl,hb.alloc hb.size _⟩
        ·have HA3:Hid ((if (bcI cs r o sv g).2=false then (0,15) else ((bcI cs r o sv g).1,0))=A):=by have:=HA2.out; rw [if_neg hk114] at this; exact this
         have e2:(g.k==114)=false:=by simp [hk114]
         have C:=HCB (wr.alloc (.cells #[.int .u8 g.n,.int .u8 g.k,.int .i64 g.p,.int .i64 g.sa,.bool g.sm,.bool g.bg,.string g.su] 124)) (hb.alloc hb.size _) g HF.out hk114
         generalize bcI cs r o sv g=bc at C HA3
         obtain ⟨b1,b2⟩:=bc
         simp only [] at C HA3
         clear hcc hnm hk114 HCB hg HA2 HF
         generalize g.n=gn at a0 e1 C
         generalize g.k=gk at a1 e2 C
         generalize g.p=gp at a2 C
         generalize g.sa=gsa at a3 C
         generalize g.sm=gsm at a4 C
         generalize g.bg=gbg at a5 C
         generalize g.su=gsu at a6 C
         go_wp2_with fail
         refine C.mono ?_
         rintro e w2 ⟨rfl,B2⟩
         have B3:Below wz.heap.size wz w2:=(hb.alloc hb.size _).trans (B2.mono (by have:=hb.size; simp; omega))
         clear C B2
         cases b2 with
         | true =>
          have HA4:Hid (A=(b1,0)):=by show A=_; rw [← HA3.out,if_neg (by simp)]
          go_wp2
          go_ret2
          rw [HA4.out]
          exact ⟨rfl,B3⟩
         | false =>
          have HA4:Hid (A=(0,15)):=by show A=_; rw [← HA3.out,if_pos rfl]
          go_wp2
          go_ret2
          rw [HA4.out]
          exact ⟨rfl,B3⟩
       ·have e1:(g.n != name)=true:=by simp [hnm]
        have HN2:Hid (∀ i,i < k+1→¬ (l[i]?.getD noGU).n=name):=by
         intro i hi
         rcases Nat.lt_succ_iff_lt_or_eq.1 hi with h' | rfl
         ·exact HN.out i h'
         ·rw [hg]; exact hnm
        clear hcc hnm HCB hg
        generalize g.n=gn at a0 e1
        generalize g.k=gk at a1
        generalize g.p=gp at a2
        generalize g.sa=gsa at a3
        generalize g.sm=gsm at a4
        generalize g.bg=gbg at a5
        generalize g.su=gsu at a6
        go_wp2
        go_roundw
        case rel=>exact ⟨k+1,by omega,by go_num,HN2,hb.alloc hb.size _⟩
        case measure=>simp [intOf]; omega
      ·have HF:Hid (fdG l name=none):=fdG_none fun i hi=>HN.out i (by rw [← HLN.out] at hi; omega)
       have HA3:Hid (A=(0,5)):=by have:=HA.out; rw [HF.out] at this; exact this.symm
       clear HCB
       go_wp2
       go_ret2
       rw [HA3.out]
       exact ⟨rfl,hb⟩
end Go.Proofs.YtbgilndohccicaaGreatDoor
namespace Go.Proofs.YtbgilndohccicaaGreatDoor
open Go.RowKit
theorem addOffQ (g j:Nat):(⟨g,0,none⟩:Addr).add j=⟨g,j,none⟩:=by unfold Addr.add; split <;> simp_all
theorem Tryz.infoI64Q:(Tryz.prog.info? 2).map (fun i=>(i.zero,i.size,i.bytes))=some (some (.int .i64 0),1,8):=by kernel_rfl
def SKq (w:World) (base:Nat) (v:Value) (l:List Int):Prop:=w.ownsRow base 2 1 v l.length (l.map fun x=>Value.int .i64 x)
theorem SKq.shape {w:World} {base:Nat} {v:Value} {l:List Int} (h:SKq w base v l):(v=.slice none 0 0∧l=[])∨∃ g cap,v=.slice (some ⟨g,0,none⟩) l.length cap∧base≤g∧g < w.heap.size∧l.length≤cap∧cap≤maxLen∧∀ i x,l[i]?=some x→w.cell? ⟨g,i,none⟩=some (.int .i64 x):=by
 rcases h.2 with ⟨rfl,hn⟩ | ⟨g,cap,cur,rfl,hbg,hg,h1,h2,_⟩
 ·exact .inl ⟨rfl,List.length_eq_zero_iff.1 hn⟩
 ·refine .inr ⟨g,cap,rfl,hbg,(Array.getElem?_eq_some_iff.1 hg).1,h1,h2,fun i x hx=>?_⟩
  have c:=World.ownsRow.cells h (g:=g) rfl i (.int .i64 x) (by rw [List.getElem?_map,hx]; rfl)
  rw [addOffQ] at c; exact c
theorem SKq.pop {w:World} {base g cap:Nat} {l:List Int} {x:Int} (h:SKq w base (.slice (some ⟨g,0,none⟩) (l.length+1) cap) (l++[x])):SKq w base (.slice (some ⟨g,0,none⟩) l.length cap) l:=by
 rcases h.2 with ⟨e,_⟩ | ⟨g',cap',cur,e,hbg,hg,h1,h2,h3,h4⟩
 ·cases e
 ·simp only [Value.slice.injEq,Option.some.injEq,Addr.mk.injEq,and_true,List.length_append,List.length_cons,List.length_nil,Nat.zero_add,true_and] at e
  obtain ⟨rfl,rfl⟩:=e
  simp only [List.length_append,List.length_cons,List.length_nil] at h1
  refine ⟨by simp,.inr ⟨g,cap,cur,rfl,hbg,hg,by omega,h2,h3,?_⟩⟩
  have e1:cur.toList.take (l.length * 1)=(cur.toList.take ((l++[x]).length * 1)).take (l.length * 1):=by
   rw [List.take_take]; congr 1; simp
  rw [e1,h4,List.map_append,List.take_append_of_le_length (by simp)]
  exact List.take_of_length_le (by simp)
theorem SKq.keep {w w':World} {base:Nat} {v:Value} {l:List Int} (h:SKq w base v l) (e:∀ g,v.ownBlock=some g→w'.heap[g]?=w.heap[g]?):SKq w' base v l:=row_keepH h e
structure PL (w:World) (b base:Nat) (v:Value) (l:List Int):Prop where
 c:w.cell? ⟨b,0,none⟩=some v
 f:w.frozen? ⟨b,0,none⟩=false
 r:SKq w base v l
 lt:b < base
 le:base≤w.heap.size
theorem PL.below {w w':World} {b base:Nat} {v:Value} {l:List Int} (h:PL w b base v l) (B:Below w.heap.size w w'):PL w' b base v l:=by
 have hb:b < w.heap.size:=Nat.lt_of_lt_of_le h.lt h.le
 exact ⟨(B.cell (p:=⟨b,0,none⟩) hb).trans h.c,(B.frozen (p:=⟨b,0,none⟩) hb).trans h.f,h.r.keep fun g hg=>B.block g (World.ownsRow.lt h.r g hg).2,h.lt,Nat.le_trans h.le B.size⟩
theorem PL.set {w:World} {b base:Nat} {v v':Value} {l l':List Int} (h:PL w b base v l) (r:SKq w base v' l'):PL (w.setCell ⟨b,0,none⟩ v') b base v' l':=by
 have hb:b < w.heap.size:=Nat.lt_of_lt_of_le h.lt h.le
 have hc:=h.c
 have hf:=h.f
 refine ⟨by go_simp,by go_simp,r.keep fun g hg=>heap_setCell_other _ _ _ _ ?_,h.lt,by simpa [World.setCell] using h.le⟩
 show g≠b
 have:=(World.ownsRow.lt r g hg).1
 have:=h.lt
 omega
structure PF (b:Nat) (v:Value) (w w':World):Prop where
 os:w'.os=w.os
 tape:w'.tape=w.tape
 output:w'.output=w.output
 size:w.heap.size≤w'.heap.size
 blk:∀ k,k < w.heap.size→k≠b→v.ownBlock≠some k→w'.heap[k]?=w.heap[k]?
theorem PF.below {B b base:Nat} {v:Value} {l:List Int} {w0 w w':World} (h:PF b v w w') (hP:PL w b base v l) (hB:B≤b) (B0:Below B w0 w):Below B w0 w':=by
 refine B0.trans ⟨h.os,h.tape,h.output,h.size,fun k hk=>h.blk k (by have:=hP.lt; have:=hP.le; omega) (by omega) (fun e=>?_)⟩
 have:=(World.ownsRow.lt hP.r k e).1
 have:=hP.lt
 omega
set_option maxRecDepth 20000 in
set_option maxHeartbeats 1000000 in
theorem ppush_any {w:World} {b base:Nat} {v:Value} {l:List Int} (h:PL w b base v l) (hl:l.length≤1000) (x:Int) :
  Calls Tryz.prog 120 #[.pointer (some ⟨b,0,none⟩),.int .i64 x] w fun e w'=>e=.returned (.tuple #[])∧∃ v',PL w' b base v' (l++[x])∧PF b v w w':=by
 obtain ⟨iI,hiI,hzI0,hzI1,hzI2⟩:=infoPartsH Tryz.infoI64Q
 have HH:Hid (PL w b base v l):=h
 have hb:b < w.heap.size:=Nat.lt_of_lt_of_le h.lt h.le
 have hc:=h.c
 have hf:=h.f
 have hle:=h.le
 have hlt:=h.lt
 have hr:=h.r
 unfold SKq at hr
 obtain ⟨n,hn⟩:∃ n,n=l.length:=⟨_,rfl⟩
 have HN:Hid (n=l.length):=hn
 rw [← hn] at hr hl
 obtain ⟨va,vc,hv⟩:∃ a c,v=.slice a n c:=by
  rcases hr.2 with ⟨e,e0⟩ | ⟨g',cap',cur,e,_⟩
  ·exact ⟨none,0,by rw [e,e0]⟩
  ·exact ⟨_,_,e⟩
 subst hv
 clear h hn
 go_enter Tryz.func120,Tryz.ntmps120
 go_wp2_with (at_builtin; refine wpList_append_own _ rfl _ _ 111 rfl base 2 iI (.int .i64 0) 1 8 Tryz.underlying111 hiI hzI0 hzI1 hzI2 rfl (by decide) _ n (l.map fun x=>Value.int .i64 x) rfl (hr.alloc _) ⟨w.heap.size,0,none⟩ 1 1 [.int .i64 x] rfl rfl ?c1 ?c2 ?c3 ?c4 ?c5 ?_)
 case c1 =>
  intro j u hj
  match j,hj with
  | 0,hj=>simp at hj; subst hj; simp [Addr.add]
 case c2=>intro u hu; simp at hu; subst hu; rfl
 case c3=>unfold maxLen; omega
 case c4=>omega
 case c5=>simp; omega
 intro v' w2 hown hgr _
 obtain ⟨va',vc',hv'⟩:∃ a c,v'=.slice a (n+1) c:=by
  rcases hown.2 with ⟨_,e0⟩ | ⟨g',cap',cur,e,_⟩
  ·simp at e0
  ·exact ⟨_,_,e⟩
 subst hv'
 have hg2:w.grownBy w2 (Value.ownBlock (.slice va n vc)):=gb_trans (World.grownBy_alloc _ _ _) hgr
 have hnb:some b≠Value.ownBlock (.slice va n vc):=fun e=>by have:=(World.ownsRow.lt hr b e.symm).1; omega
 have eb:=hg2.block b hb hnb
 have c2:w2.cell? ⟨b,0,none⟩=some (.slice va n vc):=(World.cell?_of_block (a:=⟨b,0,none⟩) eb).trans hc
 have f2:w2.frozen? ⟨b,0,none⟩=false:=(World.frozen?_of_block (a:=⟨b,0,none⟩) eb).trans hf
 have hb2:b < w2.heap.size:=Nat.lt_of_lt_of_le hb hg2.size
 have HP2:Hid (PL (w2.setCell ⟨b,0,none⟩ (.slice va' (n+1) vc')) b base (.slice va' (n+1) vc') (l++[x])):=by
  have hb':=hb2
  refine ⟨by go_simp,by go_simp,?_,hlt,by have:=hg2.size; simp [World.setCell]; omega⟩
  have r:SKq w2 base (.slice va' (n+1) vc') (l++[x]):=by unfold SKq; rw [List.length_append,← HN.out,List.map_append]; exact hown
  exact r.keep fun g hg=>heap_setCell_other _ _ _ _ (by show g≠b; have:=(World.ownsRow.lt r g hg).1; omega)
 have HF:Hid (PF b (.slice va n vc) w (w2.setCell ⟨b,0,none⟩ (.slice va' (n+1) vc'))):=⟨hg2.os,hg2.tape,hg2.output,Nat.le_trans hg2.size (gb_set w2 b 0 (.slice va' (n+1) vc')).size,fun k hk hkb hkv=>((gb_set w2 b 0 (.slice va' (n+1) vc')).block k (Nat.lt_of_lt_of_le hk hg2.size) (by simpa using hkb)).trans (hg2.block k hk (fun e=>hkv e.symm))⟩
 clear hown hgr hg2 hr HH eb hnb
 go_wp2
 refine bodyPost_end (v:=.tuple #[]) (by simp [results,Tryz.results120,go_sem]) rfl ⟨rfl,_,HP2.out,HF.out⟩
set_option maxRecDepth 20000 in
set_option maxHeartbeats 1000000 in
theorem ppop_any {w:World} {b base:Nat} {v:Value} {l:List Int} (h:PL w b base v l) (hl:l.length≤1000) :
  Calls Tryz.prog 118 #[.pointer (some ⟨b,0,none⟩)] w fun e w'=>e=.returned (.int .i64 (top l))∧(∃ v',PL w' b base v' l.dropLast)∧w.grownBy w' (some b):=by
 have HH:Hid (PL w b base v l):=h
 have hb:b < w.heap.size:=Nat.lt_of_lt_of_le h.lt h.le
 have hc:=h.c
 have hf:=h.f
 rcases h.r.shape with ⟨rfl,rfl⟩ | ⟨g,cap,rfl,hbg,hg,hlc,hcm,hcell⟩
 ·clear h
  go_enter Tryz.func118,Tryz.ntmps118
  go_wp2
  go_ret
  exact ⟨rfl,⟨_,HH.out⟩,World.grownBy.refl _ _⟩
 ·rcases List.eq_nil_or_concat l with hl0 | ⟨l',x,hl'⟩
  ·subst hl0
   simp only [List.length_nil] at hc hlc
   clear h hcell
   go_enter Tryz.func118,Tryz.ntmps118
   go_wp2
   go_ret
   exact ⟨rfl,⟨_,HH.out⟩,World.grownBy.refl _ _⟩
  ·rw [List.concat_eq_append] at hl'
   subst hl'
   obtain ⟨q,hq⟩:∃ q,q=l'.length:=⟨_,rfl⟩
   have hlen:(l'++[x]).length=q+1:=by rw [hq]; simp
   have cx:w.cell? ⟨g,q,none⟩=some (.int .i64 x):=hcell q x (by rw [hq]; simp)
   have r':SKq w base (.slice (some ⟨g,0,none⟩) q cap) l':=by
    have:=h.r; rw [hlen,hq] at this; rw [hq]; exact SKq.pop this
   have HP:Hid (PL (w.setCell ⟨b,0,none⟩ (.slice (some ⟨g,0,none⟩) q cap)) b base (.slice (some ⟨g,0,none⟩) q cap) l'):=h.set r'
   rw [hlen] at hc hlc hl
   have et:top (l'++[x])=x:=by unfold top; simp
   have ed:(l'++[x]).dropLast=l':=List.dropLast_concat ..
   rw [et,ed]
   clear h hcell hq hlen r' et ed
   go_enter Tryz.func118,Tryz.ntmps118
   go_wp2
   go_ret
   exact ⟨rfl,⟨_,HP.out⟩,gb_set _ _ _ _⟩
set_option maxHeartbeats 400000 in
theorem join_any (a s b:Int) (w:World):Calls Tryz.prog 119 #[.int .i64 a,.int .u8 s,.int .i64 b] w fun e w'=>e=.returned (.int .i64 (joinI a s b))∧w'=w:=by
 unfold joinI
 by_cases h1:s=43
 ·subst h1
  rw [if_pos rfl]
  go_enter Tryz.func119,Tryz.ntmps119
  go_wp2
  go_ret
  exact ⟨rfl,rfl⟩
 ·have e1:(s==43)=false:=by simp [h1]
  rw [if_neg h1]
  by_cases h2:s=45
  ·subst h2
   rw [if_pos rfl]
   clear e1 h1
   go_enter Tryz.func119,Tryz.ntmps119
   go_wp2
   go_ret
   exact ⟨rfl,rfl⟩
  ·have e2:(s==45)=false:=by simp [h2]
   rw [if_neg h2]
   clear h1 h2
   go_enter Tryz.func119,Tryz.ntmps119
   go_wp2
   go_ret
   exact ⟨rfl,rfl⟩
end Go.Proofs.YtbgilndohccicaaGreatDoor
