import Derived.Test.YtbgilndohccicaaGreatDoorBz05
import Derived.Test.YtbgilndohccicaaGreatDoorBz01
namespace Go.Proofs.YtbgilndohccicaaGreatDoor
open Go.RowKit
theorem Tryz.infoI64:(Tryz.prog.info? 2).map (fun i=>(i.zero,i.size,i.bytes))=some (some (.int .i64 0),1,8):=by kernel_rfl
theorem Tryz.infoObject:(Tryz.prog.info? 113).map (fun i=>(i.zero,i.size,i.bytes))=some (some (.agg #[.int .u8 0,.slice none 0 0]),2,32):=by kernel_rfl
theorem infoParts3 {P:Program} {e:TypeId} {z:Option Value} {s b:Nat} (h:(P.info? e).map (fun i=>(i.zero,i.size,i.bytes))=some (z,s,b)):∃ i,P.info? e=some i∧i.zero=z∧i.size=s∧i.bytes=b:=by
 cases hi:P.info? e with
 | none=>rw [hi] at h; simp at h
 | some i=>rw [hi] at h; simp at h; exact ⟨i,rfl,h.1,h.2.1,h.2.2⟩
theorem gb_drewV {a w:World} {row:Option Nat} (h:a.grownBy w row):a.grownBy w.drew row:=⟨h.os,h.tape,h.output,h.size,h.block⟩
def mkE (cs:Sch) (sz root c:Int) (W:Nat):Int:=if rtB root=false then 8 else if (cs.any fun x=>x.1==c)=false then 4 else if sz < (W:Int)+(wof cs c:Int) then 10 else 0
def RMPost (rb:Nat) (x:RX) (cs:Sch) (sz:Int) (r:DH) (root c:Int) (w:World) (e:Ending) (w':World):Prop:=∃ T,(∀ o,o < r.n→(T o=true↔r.in cs (o+1))) ∧
 e=.returned (.int .i64 (mkE cs sz root c (wsum cs r.K T r.n)))∧GS w w' (x.has cs r.n rb)∧(mkE cs sz root c (wsum cs r.K T r.n)≠0→RP w' rb x cs sz r) ∧
 (mkE cs sz root c (wsum cs r.K T r.n)=0→∃ x',RP w' rb x' cs sz { mkD r c with R:=set1 r.R root.toNat (r.n+1) }∧(x'.kx=x.kx∧x'.nx=x.nx∧x'.pd=x.pd∧x'.rd=x.rd∧x'.sp=x.sp)∧(∀ b,x'.has cs (r.n+1) rb b→x.has cs r.n rb b∨w.heap.size≤b))
theorem there_ex (cs:Sch) (r:DH):∃ T:Nat→Bool,∀ o,o < r.n→(T o=true↔r.in cs (o+1)) :=
 ⟨fun o=>@decide (r.in cs (o+1)) (Classical.propDecidable _),fun o _=>by simp⟩
theorem cell_pair3 (w:World) (x y:Value) (T:TypeId):∀ (j:Nat) (u:Value),[x,y][j]?=some u→(w.alloc (.cells #[x,y] T)).cell? ((⟨w.heap.size,0,none⟩:Addr).add j)=some u:=by
 intro j u hj
 match j,hj with
 | 0,hj=>simp at hj; subst hj; simp [Addr.add]
 | 1,hj=>simp at hj; subst hj; simp [Addr.add]
set_option maxRecDepth 20000 in
set_option maxHeartbeats 2000000 in
theorem rmake_any (rb:Nat) (x:RX) (cs:Sch) (sz:Int) (r:DH) (w:World) (h:RP w rb x cs sz r) (hW:Wf cs r) (hcs:cs.length≤1000) (h6:∀ c∈cs,c.2.length≤6) (hn:r.n < 4398046511104) (hs0:0≤sz) (hs1:sz≤1000000) (root c:Int) :
  Calls Tryz.prog 23 #[.pointer (some ⟨rb,0,none⟩),.int .i64 root,.int .u8 c] w (RMPost rb x cs sz r root c w):=by
 have hrb:=h.lt
 have HH:Hid (RP w rb x cs sz r):=h
 cases h1:rtB root with
 | false =>
  have e:∀ W,mkE cs sz root c W=8:=fun W=>by unfold mkE; rw [if_pos h1]
  have HE:Hid (∀ W,mkE cs sz root c W=8):=e
  have HT:Hid (∃ T:Nat→Bool,∀ o,o < r.n→(T o=true↔r.in cs (o+1))):=there_ex cs r
  clear h e hW h6
  go_enter Tryz.func23,Tryz.ntmps23
  go_wp2_with fail
  refine (rroot_rs (x:=root) false h1).mono ?_
  rintro e w' ⟨rfl,rfl⟩
  go_wp2
  go_ret
  obtain ⟨T,hT⟩:=HT.out
  exact ⟨T,hT,by rw [HE.out]; rfl,GS.of_below (Below.refl _ _),fun _=>HH.out,fun h0=>by rw [HE.out] at h0; exact absurd h0 (by decide)⟩
 | true =>
 have c0:=h.c0
 have FK:∀ W:World,KC W x.kx cs→Calls Tryz.prog 72 #[.slice (some ⟨x.kx.g,0,none⟩) cs.length x.kx.cap,.int .u8 c] W fun e w'=>e=.returned (.tuple #[.slice (knA x.kx cs c) (fof cs c).length (knC x.kx cs c),.bool (cs.any fun y=>y.1==c)])∧w'=W :=
  fun W hW=>known_any x.kx cs c W hW hcs
 have HKC:Hid (KC w x.kx cs):=h.kc
 generalize knA x.kx cs c=fa at FK
 generalize knC x.kx cs c=fcap at FK
 cases h2:(cs.any fun y=>y.1==c) with
 | false =>
  have HE:Hid (∀ W,mkE cs sz root c W=4):=fun W=>by unfold mkE; rw [if_neg (by rw [h1]; decide),if_pos h2]
  have HT:Hid (∃ T:Nat→Bool,∀ o,o < r.n→(T o=true↔r.in cs (o+1))):=there_ex cs r
  rw [h2] at FK
  clear h hW h6
  go_enter Tryz.func23,Tryz.ntmps23
  go_wp2_with fail
  refine (rroot_rs (x:=root) true h1).mono ?_
  rintro e w' ⟨rfl,rfl⟩
  go_wp2_with fail
  refine (FK _ HKC.out).mono ?_
  rintro e w' ⟨rfl,rfl⟩
  go_wp2
  go_ret
  obtain ⟨T,hT⟩:=HT.out
  exact ⟨T,hT,by rw [HE.out]; rfl,GS.of_below (Below.refl _ _),fun _=>HH.out,fun h0=>by rw [HE.out] at h0; exact absurd h0 (by decide)⟩
 | true =>
  have C:=rwords_any rb x cs sz r w h hW hcs h6 (by omega)
  have H6:Hid (∀ c∈cs,c.2.length≤6):=h6
  have c1:=h.c1
  have HE:Hid (∀ W:Nat,mkE cs sz root c W=if sz < (W:Int)+(wof cs c:Int) then 10 else 0):=fun W=>by unfold mkE; rw [if_neg (by rw [h1]; decide),if_neg (by rw [h2]; decide)]
  obtain ⟨fl,hfl⟩:∃ fl,fl=(fof cs c).length:=⟨_,rfl⟩
  have HFL:Hid (fl=(fof cs c).length∧wof cs c=fl+1):=⟨hfl,by unfold wof; rw [hfl]⟩
  have hf6:fl≤6:=by rw [hfl]; exact fof_le h6 c
  rw [h2,← hfl] at FK
  have hmk:=run_make_row' (P:=Tryz.prog) 111 2 (.int .i64 0) 8 Tryz.underlying111 Tryz.infoI64 rfl .i64 .i64 fl (by omega) (by omega)
  obtain ⟨iO,hiO,hzO0,hzO1,hzO2⟩:=infoParts3 Tryz.infoObject
  obtain ⟨q,rfl,hq8⟩:=rtB_nat h1
  have hqb:(0:Int)≤(q:Int)∧(q:Int) < 8:=by omega
  clear h hW h6 hfl h2
  go_enter Tryz.func23,Tryz.ntmps23
  go_wp2_with fail
  refine (rroot_rs (x:=q) true h1).mono ?_
  rintro e w' ⟨rfl,rfl⟩
  go_wp2_with fail
  refine (FK _ HKC.out).mono ?_
  rintro e w' ⟨rfl,rfl⟩
  go_wp2_with fail
  refine C.mono ?_
  rintro e w1 ⟨T,rfl,hT,B1⟩
  have HT:Hid (∀ o,o < r.n→(T o=true↔r.in cs (o+1))):=hT
  have hsl:=wsum_le H6.out r.K T r.n
  obtain ⟨s0,hs⟩:∃ s0,s0=wsum cs r.K T r.n:=⟨_,rfl⟩
  have HS:Hid (s0=wsum cs r.K T r.n):=hs
  rw [← hs] at hsl ⊢
  have H1:=HH.out.below B1
  have HH1:Hid (RP w1 rb x cs sz r):=H1
  have d1:=H1.c1
  have hrb1:=H1.lt
  have HB1:Hid (Below w'.heap.size w' w1):=B1
  have hbig:s0≤30786325577728:=by omega
  clear C hT B1 hs FK
  by_cases hfull:sz < (s0:Int)+(fl:Int)+1
  ·have HE2:Hid (mkE cs sz q c (wsum cs r.K T r.n)=10):=by
    show _=_
    rw [HE.out,← HS.out,if_pos (by rw [HFL.out.2]; simp; omega)]
   clear H1
   go_wp2
   go_ret
   exact ⟨T,HT.out,by rw [HE2.out]; rfl,GS.of_below HB1.out,fun _=>HH1.out,fun h0=>by rw [HE2.out] at h0; exact absurd h0 (by decide)⟩
  ·have HE2:Hid (mkE cs sz q c (wsum cs r.K T r.n)=0):=by
    show _=_
    rw [HE.out,← HS.out,if_neg (by rw [HFL.out.2]; simp; omega)]
   have d2:=H1.c2
   have f2:=H1.frz 2
   obtain ⟨W2,hW2⟩:∃ W2,W2=((w1.alloc (.cells (madeCells #[.int .i64 0] fl) 2)).alloc (.cells #[.int .u8 c,.slice (some ⟨w1.heap.size,0,none⟩) fl fl] 113)).drew:=⟨_,rfl⟩
   have hz2:W2.heap.size=w1.heap.size+2:=by rw [hW2]; simp
   have hk2:∀ b,b < w1.heap.size→W2.heap[b]?=w1.heap[b]?:=fun b hb=>by
    rw [hW2]
    show ((w1.alloc _).alloc _).heap[b]?=_
    rw [heap_alloc_old _ _ (by simp; omega),heap_alloc_old _ _ hb]
   have own2:W2.ownsRow 0 113 2 (.slice x.ov.a r.n x.ov.c) r.n (flatC (objs cs x r)):=row_keep H1.own fun g hg=>hk2 g (World.ownsRow.lt H1.own g hg).2
   obtain ⟨v',w3,hrun,own3,gr3,hb3⟩:=app_run (P:=Tryz.prog) W2 62 62 113 iO (.agg #[.int .u8 0,.slice none 0 0]) 2 32 Tryz.underlying62 hiO hzO0 hzO1 hzO2 rfl (by decide) (.slice x.ov.a r.n x.ov.c) r.n (flatC (objs cs x r)) own2
    ⟨w1.heap.size+1,0,none⟩ 1 1 [.int .u8 c,.slice (some ⟨w1.heap.size,0,none⟩) fl fl] rfl (by
     have:=cell_pair3 (w1.alloc (.cells (madeCells #[.int .i64 0] fl) 2)) (.int .u8 c) (.slice (some ⟨w1.heap.size,0,none⟩) fl fl) 113
     rw [show (w1.alloc (.cells (madeCells #[.int .i64 0] fl) 2)).heap.size=w1.heap.size+1 by simp] at this
     rw [hW2]
     exact this) (by intro u hu; simp at hu; rcases hu with rfl | rfl <;> rfl) (by unfold maxLen; omega) (by omega)
   obtain ⟨g',cap',ev⟩:∃ g' cap',v'=.slice (some ⟨g',0,none⟩) (r.n+1) cap':=by
    rcases own3.2 with ⟨_,e⟩ | ⟨g',cap',cur,e,_⟩
    ·omega
    ·exact ⟨g',cap',e⟩
   subst ev
   have hs3:W2.heap.size≤w3.heap.size:=gr3.size
   have hkb:∀ b,b < w1.heap.size→x.ov.a≠some ⟨b,0,none⟩→w3.heap[b]?=w1.heap[b]?:=fun b hb hne=>by
    rw [← hk2 b hb]
    refine gr3.block b (by omega) (fun e=>hne (H1.ovlt b e.symm))
   have hkA:w3.heap[w1.heap.size]?=some (.cells (madeCells #[.int .i64 0] fl) 2):=by
    have e1:=gr3.block w1.heap.size (by omega) (fun e=>by
     have:=(World.ownsRow.lt H1.own _ e.symm).2; omega)
    rw [e1,hW2]
    show ((w1.alloc _).alloc _).heap[w1.heap.size]?=_
    rw [heap_alloc_old _ _ (by simp),heap_alloc_new]
   have hM:=H1.made (w3:=w3) c w1.heap.size (some ⟨g',0,none⟩) cap' (Nat.le_refl _) (by omega) (by omega) (fun k hk=>by
     rw [cell_of_row _ _ k _ _ _ hkA]
     rw [← HFL.out.1] at hk
     simp [madeCells,hk,Nat.mod_one]) (fun k=>frozen_of_row _ _ _ _ _ hkA) (by rw [← HFL.out.1]; exact own3) hkb (fun g hg=>by
     have eg:g'=g:=by injection hg with hg; injection hg
     subst eg
     rcases hb3 g' rfl with e | e
     ·exact .inl (H1.ovlt g' e)
     ·exact .inr ⟨by omega,by omega⟩)
   have HM:Hid (RP (w3.setCell ⟨rb,2,none⟩ (.slice (some ⟨g',0,none⟩) (r.n+1) cap')) rb (mkX x r.n w1.heap.size (fof cs c).length ⟨some ⟨g',0,none⟩,r.n+1,cap'⟩) cs sz (mkD r c)∧(∀ b,(mkX x r.n w1.heap.size (fof cs c).length ⟨some ⟨g',0,none⟩,r.n+1,cap'⟩).has cs (mkD r c).n rb b→x.has cs r.n rb b∨w1.heap.size≤b)):=hM
   have erb:w3.heap[rb]?=w1.heap[rb]?:=hkb rb hrb1 (fun e=>(H1.rov rb e).1 rfl)
   have e2:w3.cell? ⟨rb,2,none⟩=some (.slice x.ov.a r.n x.ov.c):=(World.cell?_of_block (a:=⟨rb,2,none⟩) erb).trans d2
   have ef:w3.frozen? ⟨rb,2,none⟩=false:=(World.frozen?_of_block (a:=⟨rb,2,none⟩) erb).trans f2
   have er:w3.cell? ⟨rb,3+q,none⟩=some (.int .i64 (r.R q)):=(World.cell?_of_block (a:=⟨rb,3+q,none⟩) erb).trans (H1.root q hq8)
   have erf:w3.frozen? ⟨rb,3+q,none⟩=false:=(World.frozen?_of_block (a:=⟨rb,3+q,none⟩) erb).trans (H1.frz _)
   have hrb3:rb < w3.heap.size:=by omega
   have HG3:Hid (GS w1 w3 (x.has cs r.n rb)):=⟨by rw [gr3.os,hW2]; rfl,by rw [gr3.tape,hW2]; rfl,by rw [gr3.output,hW2]; rfl,by omega,fun b hb hn=>hkb b hb (fun e=>hn (.inr (.inr (.inl ⟨b,e,rfl⟩))))⟩
   have hn1:r.n+1≤4398046511104:=by omega
   subst hW2
   clear H1 own2 own3 gr3 hb3 hkb hkA hM hk2 hz2 erb
   go_wp2
   go_region_law (refine step_append_run rfl (.tmp 42) (.tmp 48) 62 rfl _ _ _ _ (by simp [Act.eval]) (by simp [Act.eval]) hrun ?_)
   all_goals
    go_wp2
    refine still_tail 10 rfl (by kernel_rfl) ?_
    simp only [List.take_succ_cons,List.take_zero,List.drop_succ_cons,List.drop_zero]
    repeat still_step
    refine wpStill_nil ?_
    go_wp2
    go_ret
    refine ⟨T,HT.out,by rw [HE2.out]; rfl,?_,fun h0=>absurd HE2.out h0,fun _=>⟨_,(HM.out.1.drew).setR hq8,⟨rfl,rfl,rfl,rfl,rfl⟩,fun b hb=>(HM.out.2 b hb).imp id (fun h=>Nat.le_trans HB1.out.size h)⟩⟩
    exact (GS.of_below HB1.out).trans (HG3.out.trans (GS.of_gb (gb_setB (gb_drewV (gb_setB (gb_drewN w3 0 _) 2 _)) (3+q) _) RX.has_rb))
end Go.Proofs.YtbgilndohccicaaGreatDoor
namespace Go.Proofs.YtbgilndohccicaaGreatDoor
open Go.RowKit
set_option maxHeartbeats 400000 in
set_option maxRecDepth 20000 in
theorem among_any (c l m:Int) (w:World) (y:Bool) (hy:(decide (l≤c) && decide (c≤m))=y) :
  Calls Tryz.prog 110 #[.int .u8 c,.int .u8 l,.int .u8 m] w fun e w'=>e=.returned (.bool y)∧w'=w:=by
 subst hy
 by_cases h1:l≤c
 ·by_cases h2:c≤m
  ·go_enter Tryz.func110,Tryz.ntmps110
   go_wp2; go_ret; exact ⟨by simp [h1,h2],rfl⟩
  ·go_enter Tryz.func110,Tryz.ntmps110
   go_wp2; go_ret; exact ⟨by simp [h2],rfl⟩
 ·have h2:c < l:=by omega
  go_enter Tryz.func110,Tryz.ntmps110
  go_wp2; go_ret; exact ⟨by simp; omega,rfl⟩
def fieldB (t:ByteArray):Bool:=decide (t.size=3) && decide (97≤nextB t 0) && decide (nextB t 0≤122) && decide (nextB t 1=58) && isKindB (nextB t 2)
def FPost (t:ByteArray) (p:Int) (w:World) (e:Ending) (w':World):Prop:=∃ x0 x1 x2:Int,
 e=.returned (.tuple #[.agg #[.int .u8 x0,.int .u8 x1,.int .i64 x2,.int .i64 0,.bool false,.bool false,.string ⟨#[]⟩],.bool (fieldB t)]) ∧
  (fieldB t=true→x0=nextB t 0∧x1=nextB t 2∧x2=p)∧Below w.heap.size w w'
set_option maxHeartbeats 400000 in
set_option maxRecDepth 20000 in
theorem rfield_short (t:ByteArray) (p:Int) (w:World) (hs:t.size < 3) :
  Calls Tryz.prog 125 #[.string t,.int .i64 p,.bool false] w (FPost t p w):=by
 have HF:Hid (fieldB t=false):=by
  show fieldB t=false
  simp [fieldB]; omega
 go_enter Tryz.func125,Tryz.ntmps125
 go_wp2
 refine bodyPost_ret (v:=.tuple #[.agg #[.int .u8 0,.int .u8 0,.int .i64 0,.int .i64 0,.bool false,.bool false,.string ⟨#[]⟩],.bool false]) (by simp [results,Tryz.results125,go_sem]) rfl ⟨0,0,0,by rw [HF.out],(fun h=>absurd h (by rw [HF.out]; decide)),?_⟩
 exact ((Below.refl _ _).alloc (Nat.le_refl _) _).alloc (by simp) _
set_option maxHeartbeats 400000 in
set_option maxRecDepth 20000 in
theorem rfield_letter (t:ByteArray) (p:Int) (w:World) (hs:3≤t.size) (h0:(decide (97≤nextB t 0) && decide (nextB t 0≤122))=false) :
  Calls Tryz.prog 125 #[.string t,.int .i64 p,.bool false] w (FPost t p w):=by
 have HF:Hid (fieldB t=false):=by
  show fieldB t=false
  simp at h0; simp [fieldB]; omega
 have g0:0 < t.size:=by omega
 have e0:Hid (nextB t 0=((t[0]'g0).toNat:Int)):=nextB_in g0
 rw [e0.out] at h0
 have am:=h0
 clear h0
 go_enter Tryz.func125,Tryz.ntmps125
 go_wp2_with (go_at_call 110; refine (among_any _ _ _ _ false am).mono ?_; rintro e w' ⟨rfl,rfl⟩)
 refine bodyPost_ret (v:=.tuple #[.agg #[.int .u8 0,.int .u8 0,.int .i64 0,.int .i64 0,.bool false,.bool false,.string ⟨#[]⟩],.bool false]) (by simp [results,Tryz.results125,go_sem]) rfl ⟨0,0,0,by rw [HF.out],(fun h=>absurd h (by rw [HF.out]; decide)),?_⟩
 exact ((Below.refl _ _).alloc (Nat.le_refl _) _).alloc (by simp) _
set_option maxHeartbeats 400000 in
set_option maxRecDepth 20000 in
theorem rfield_colon (t:ByteArray) (p:Int) (w:World) (hs:3≤t.size) (h0:(decide (97≤nextB t 0) && decide (nextB t 0≤122))=true) (h1:(nextB t 1==58)=false) :
  Calls Tryz.prog 125 #[.string t,.int .i64 p,.bool false] w (FPost t p w):=by
 have HF:Hid (fieldB t=false):=by
  show fieldB t=false
  simp at h1; simp [fieldB,h1]
 have g0:0 < t.size:=by omega
 have e0:Hid (nextB t 0=((t[0]'g0).toNat:Int)):=nextB_in g0
 have g1:1 < t.size:=by omega
 have e1:Hid (nextB t 1=((t[1]'g1).toNat:Int)):=nextB_in g1
 rw [e0.out] at h0
 rw [e1.out] at h1
 have h1n:(((t[1]'g1).toNat:Int) != 58)=true:=by simpa using h1
 have am:=h0
 clear h0
 go_enter Tryz.func125,Tryz.ntmps125
 go_wp2_with (go_at_call 110; refine (among_any _ _ _ _ true am).mono ?_; rintro e w' ⟨rfl,rfl⟩)
 refine bodyPost_ret (v:=.tuple #[.agg #[.int .u8 0,.int .u8 0,.int .i64 0,.int .i64 0,.bool false,.bool false,.string ⟨#[]⟩],.bool false]) (by simp [results,Tryz.results125,go_sem]) rfl ⟨0,0,0,by rw [HF.out],(fun h=>absurd h (by rw [HF.out]; decide)),?_⟩
 exact ((Below.refl _ _).alloc (Nat.le_refl _) _).alloc (by simp) _
set_option maxHeartbeats 400000 in
set_option maxRecDepth 20000 in
theorem rfield_kind (t:ByteArray) (p:Int) (w:World) (hs:3≤t.size) (h0:(decide (97≤nextB t 0) && decide (nextB t 0≤122))=true) (h1:(nextB t 1==58)=true) (k1:(nextB t 2==98)=false) (k2:(nextB t 2==104)=false) (k3:(nextB t 2==119)=false) (k4:(nextB t 2==108)=false) (k5:(nextB t 2==114)=false) :
  Calls Tryz.prog 125 #[.string t,.int .i64 p,.bool false] w (FPost t p w):=by
 have HF:Hid (fieldB t=false):=by
  show fieldB t=false
  simp [fieldB,isKindB,k1,k2,k3,k4,k5]
 have g0:0 < t.size:=by omega
 have e0:Hid (nextB t 0=((t[0]'g0).toNat:Int)):=nextB_in g0
 have g1:1 < t.size:=by omega
 have e1:Hid (nextB t 1=((t[1]'g1).toNat:Int)):=nextB_in g1
 have g2:2 < t.size:=by omega
 have e2:Hid (nextB t 2=((t[2]'g2).toNat:Int)):=nextB_in g2
 rw [e0.out] at h0
 rw [e1.out] at h1
 rw [e2.out] at k1 k2 k3 k4 k5
 have h1n:(((t[1]'g1).toNat:Int) != 58)=false:=by simpa using h1
 have k1n:(((t[2]'g2).toNat:Int) != 98)=true:=by simpa using k1
 have k2n:(((t[2]'g2).toNat:Int) != 104)=true:=by simpa using k2
 have k3n:(((t[2]'g2).toNat:Int) != 119)=true:=by simpa using k3
 have k4n:(((t[2]'g2).toNat:Int) != 108)=true:=by simpa using k4
 have k5n:(((t[2]'g2).toNat:Int) != 114)=true:=by simpa using k5
 have am:=h0
 clear h0
 go_enter Tryz.func125,Tryz.ntmps125
 go_wp2_with (go_at_call 110; refine (among_any _ _ _ _ true am).mono ?_; rintro e w' ⟨rfl,rfl⟩)
 refine bodyPost_ret (v:=.tuple #[.agg #[.int .u8 0,.int .u8 0,.int .i64 0,.int .i64 0,.bool false,.bool false,.string ⟨#[]⟩],.bool false]) (by simp [results,Tryz.results125,go_sem]) rfl ⟨0,0,0,by rw [HF.out],(fun h=>absurd h (by rw [HF.out]; decide)),?_⟩
 exact ((Below.refl _ _).alloc (Nat.le_refl _) _).alloc (by simp) _
set_option maxHeartbeats 400000 in
set_option maxRecDepth 20000 in
theorem rfield_yes_b (t:ByteArray) (p:Int) (w:World) (hs:t.size=3) (h0:(decide (97≤nextB t 0) && decide (nextB t 0≤122))=true) (h1:(nextB t 1==58)=true) (k:nextB t 2=98) :
  Calls Tryz.prog 125 #[.string t,.int .i64 p,.bool false] w (FPost t p w):=by
 have HF:Hid (fieldB t=true):=by
  show fieldB t=true
  simp at h0 h1; simp [fieldB,isKindB,k,h0,h1,hs]
 have g0:0 < t.size:=by omega
 have e0:Hid (nextB t 0=((t[0]'g0).toNat:Int)):=nextB_in g0
 have g1:1 < t.size:=by omega
 have e1:Hid (nextB t 1=((t[1]'g1).toNat:Int)):=nextB_in g1
 have g2:2 < t.size:=by omega
 have e2:Hid (nextB t 2=((t[2]'g2).toNat:Int)):=nextB_in g2
 rw [e0.out] at h0
 rw [e1.out] at h1
 have ek:Hid (nextB t 2=98):=k
 rw [e2.out] at k
 have h1n:(((t[1]'g1).toNat:Int) != 58)=false:=by simpa using h1
 have am:=h0
 clear h0
 go_enter Tryz.func125,Tryz.ntmps125
 go_wp2_with (go_at_call 110; refine (among_any _ _ _ _ true am).mono ?_; rintro e w' ⟨rfl,rfl⟩)
 refine bodyPost_ret (v:=.tuple #[.agg #[.int .u8 (t[0]'g0).toNat,.int .u8 98,.int .i64 p,.int .i64 0,.bool false,.bool false,.string ⟨#[]⟩],.bool true]) (by simp [results,Tryz.results125,go_sem]) rfl ⟨(t[0]'g0).toNat,98,p,by rw [HF.out],(fun _=>⟨e0.out.symm,ek.out.symm,rfl⟩),?_⟩
 exact ((Below.refl _ _).alloc (Nat.le_refl _) _).alloc (by simp) _
set_option maxHeartbeats 400000 in
set_option maxRecDepth 20000 in
theorem rfield_more_b (t:ByteArray) (p:Int) (w:World) (hs:3 < t.size) (hm:t.size≤4611686018427387904) (h0:(decide (97≤nextB t 0) && decide (nextB t 0≤122))=true) (h1:(nextB t 1==58)=true) (k:nextB t 2=98) :
  Calls Tryz.prog 125 #[.string t,.int .i64 p,.bool false] w (FPost t p w):=by
 have HF:Hid (fieldB t=false):=by
  show fieldB t=false
  simp [fieldB]; omega
 have g0:0 < t.size:=by omega
 have e0:Hid (nextB t 0=((t[0]'g0).toNat:Int)):=nextB_in g0
 have g1:1 < t.size:=by omega
 have e1:Hid (nextB t 1=((t[1]'g1).toNat:Int)):=nextB_in g1
 have g2:2 < t.size:=by omega
 have e2:Hid (nextB t 2=((t[2]'g2).toNat:Int)):=nextB_in g2
 rw [e0.out] at h0
 rw [e1.out] at h1
 have ek:Hid (nextB t 2=98):=k
 rw [e2.out] at k
 have h1n:(((t[1]'g1).toNat:Int) != 58)=false:=by simpa using h1
 have am:=h0
 clear h0
 go_enter Tryz.func125,Tryz.ntmps125
 go_wp2_with (go_at_call 110; refine (among_any _ _ _ _ true am).mono ?_; rintro e w' ⟨rfl,rfl⟩)
 refine bodyPost_ret (v:=.tuple #[.agg #[.int .u8 (t[0]'g0).toNat,.int .u8 98,.int .i64 p,.int .i64 0,.bool false,.bool false,.string ⟨#[]⟩],.bool false]) (by simp [results,Tryz.results125,go_sem]) rfl ⟨(t[0]'g0).toNat,98,p,by rw [HF.out],(fun h=>absurd h (by rw [HF.out]; decide)),?_⟩
 exact ((Below.refl _ _).alloc (Nat.le_refl _) _).alloc (by simp) _
set_option maxHeartbeats 400000 in
set_option maxRecDepth 20000 in
theorem rfield_yes_h (t:ByteArray) (p:Int) (w:World) (hs:t.size=3) (h0:(decide (97≤nextB t 0) && decide (nextB t 0≤122))=true) (h1:(nextB t 1==58)=true) (k:nextB t 2=104) :
  Calls Tryz.prog 125 #[.string t,.int .i64 p,.bool false] w (FPost t p w):=by
 have HF:Hid (fieldB t=true):=by
  show fieldB t=true
  simp at h0 h1; simp [fieldB,isKindB,k,h0,h1,hs]
 have g0:0 < t.size:=by omega
 have e0:Hid (nextB t 0=((t[0]'g0).toNat:Int)):=nextB_in g0
 have g1:1 < t.size:=by omega
 have e1:Hid (nextB t 1=((t[1]'g1).toNat:Int)):=nextB_in g1
 have g2:2 < t.size:=by omega
 have e2:Hid (nextB t 2=((t[2]'g2).toNat:Int)):=nextB_in g2
 rw [e0.out] at h0
 rw [e1.out] at h1
 have ek:Hid (nextB t 2=104):=k
 rw [e2.out] at k
 have h1n:(((t[1]'g1).toNat:Int) != 58)=false:=by simpa using h1
 have am:=h0
 clear h0
 go_enter Tryz.func125,Tryz.ntmps125
 go_wp2_with (go_at_call 110; refine (among_any _ _ _ _ true am).mono ?_; rintro e w' ⟨rfl,rfl⟩)
 refine bodyPost_ret (v:=.tuple #[.agg #[.int .u8 (t[0]'g0).toNat,.int .u8 104,.int .i64 p,.int .i64 0,.bool false,.bool false,.string ⟨#[]⟩],.bool true]) (by simp [results,Tryz.results125,go_sem]) rfl ⟨(t[0]'g0).toNat,104,p,by rw [HF.out],(fun _=>⟨e0.out.symm,ek.out.symm,rfl⟩),?_⟩
 exact ((Below.refl _ _).alloc (Nat.le_refl _) _).alloc (by simp) _
set_option maxHeartbeats 400000 in
set_option maxRecDepth 20000 in
theorem rfield_more_h (t:ByteArray) (p:Int) (w:World) (hs:3 < t.size) (hm:t.size≤4611686018427387904) (h0:(decide (97≤nextB t 0) && decide (nextB t 0≤122))=true) (h1:(nextB t 1==58)=true) (k:nextB t 2=104) :
  Calls Tryz.prog 125 #[.string t,.int .i64 p,.bool false] w (FPost t p w):=by
 have HF:Hid (fieldB t=false):=by
  show fieldB t=false
  simp [fieldB]; omega
 have g0:0 < t.size:=by omega
 have e0:Hid (nextB t 0=((t[0]'g0).toNat:Int)):=nextB_in g0
 have g1:1 < t.size:=by omega
 have e1:Hid (nextB t 1=((t[1]'g1).toNat:Int)):=nextB_in g1
 have g2:2 < t.size:=by omega
 have e2:Hid (nextB t 2=((t[2]'g2).toNat:Int)):=nextB_in g2
 rw [e0.out] at h0
 rw [e1.out] at h1
 have ek:Hid (nextB t 2=104):=k
 rw [e2.out] at k
 have h1n:(((t[1]'g1).toNat:Int) != 58)=false:=by simpa using h1
 have am:=h0
 clear h0
 go_enter Tryz.func125,Tryz.ntmps125
 go_wp2_with (go_at_call 110; refine (among_any _ _ _ _ true am).mono ?_; rintro e w' ⟨rfl,rfl⟩)
 refine bodyPost_ret (v:=.tuple #[.agg #[.int .u8 (t[0]'g0).toNat,.int .u8 104,.int .i64 p,.int .i64 0,.bool false,.bool false,.string ⟨#[]⟩],.bool false]) (by simp [results,Tryz.results125,go_sem]) rfl ⟨(t[0]'g0).toNat,104,p,by rw [HF.out],(fun h=>absurd h (by rw [HF.out]; decide)),?_⟩
 exact ((Below.refl _ _).alloc (Nat.le_refl _) _).alloc (by simp) _
set_option maxHeartbeats 400000 in
set_option maxRecDepth 20000 in
theorem rfield_yes_w (t:ByteArray) (p:Int) (w:World) (hs:t.size=3) (h0:(decide (97≤nextB t 0) && decide (nextB t 0≤122))=true) (h1:(nextB t 1==58)=true) (k:nextB t 2=119) :
  Calls Tryz.prog 125 #[.string t,.int .i64 p,.bool false] w (FPost t p w):=by
 have HF:Hid (fieldB t=true):=by
  show fieldB t=true
  simp at h0 h1; simp [fieldB,isKindB,k,h0,h1,hs]
 have g0:0 < t.size:=by omega
 have e0:Hid (nextB t 0=((t[0]'g0).toNat:Int)):=nextB_in g0
 have g1:1 < t.size:=by omega
 have e1:Hid (nextB t 1=((t[1]'g1).toNat:Int)):=nextB_in g1
 have g2:2 < t.size:=by omega
 have e2:Hid (nextB t 2=((t[2]'g2).toNat:Int)):=nextB_in g2
 rw [e0.out] at h0
 rw [e1.out] at h1
 have ek:Hid (nextB t 2=119):=k
 rw [e2.out] at k
 have h1n:(((t[1]'g1).toNat:Int) != 58)=false:=by simpa using h1
 have am:=h0
 clear h0
 go_enter Tryz.func125,Tryz.ntmps125
 go_wp2_with (go_at_call 110; refine (among_any _ _ _ _ true am).mono ?_; rintro e w' ⟨rfl,rfl⟩)
 refine bodyPost_ret (v:=.tuple #[.agg #[.int .u8 (t[0]'g0).toNat,.int .u8 119,.int .i64 p,.int .i64 0,.bool false,.bool false,.string ⟨#[]⟩],.bool true]) (by simp [results,Tryz.results125,go_sem]) rfl ⟨(t[0]'g0).toNat,119,p,by rw [HF.out],(fun _=>⟨e0.out.symm,ek.out.symm,rfl⟩),?_⟩
 exact ((Below.refl _ _).alloc (Nat.le_refl _) _).alloc (by simp) _
set_option maxHeartbeats 400000 in
set_option maxRecDepth 20000 in
theorem rfield_more_w (t:ByteArray) (p:Int) (w:World) (hs:3 < t.size) (hm:t.size≤4611686018427387904) (h0:(decide (97≤nextB t 0) && decide (nextB t 0≤122))=true) (h1:(nextB t 1==58)=true) (k:nextB t 2=119) :
  Calls Tryz.prog 125 #[.string t,.int .i64 p,.bool false] w (FPost t p w):=by
 have HF:Hid (fieldB t=false):=by
  show fieldB t=false
  simp [fieldB]; omega
 have g0:0 < t.size:=by omega
 have e0:Hid (nextB t 0=((t[0]'g0).toNat:Int)):=nextB_in g0
 have g1:1 < t.size:=by omega
 have e1:Hid (nextB t 1=((t[1]'g1).toNat:Int)):=nextB_in g1
 have g2:2 < t.size:=by omega
 have e2:Hid (nextB t 2=((t[2]'g2).toNat:Int)):=nextB_in g2
 rw [e0.out] at h0
 rw [e1.out] at h1
 have ek:Hid (nextB t 2=119):=k
 rw [e2.out] at k
 have h1n:(((t[1]'g1).toNat:Int) != 58)=false:=by simpa using h1
 have am:=h0
 clear h0
 go_enter Tryz.func125,Tryz.ntmps125
 go_wp2_with (go_at_call 110; refine (among_any _ _ _ _ true am).mono ?_; rintro e w' ⟨rfl,rfl⟩)
 refine bodyPost_ret (v:=.tuple #[.agg #[.int .u8 (t[0]'g0).toNat,.int .u8 119,.int .i64 p,.int .i64 0,.bool false,.bool false,.string ⟨#[]⟩],.bool false]) (by simp [results,Tryz.results125,go_sem]) rfl ⟨(t[0]'g0).toNat,119,p,by rw [HF.out],(fun h=>absurd h (by rw [HF.out]; decide)),?_⟩
 exact ((Below.refl _ _).alloc (Nat.le_refl _) _).alloc (by simp) _
set_option maxHeartbeats 400000 in
set_option maxRecDepth 20000 in
theorem rfield_yes_l (t:ByteArray) (p:Int) (w:World) (hs:t.size=3) (h0:(decide (97≤nextB t 0) && decide (nextB t 0≤122))=true) (h1:(nextB t 1==58)=true) (k:nextB t 2=108) :
  Calls Tryz.prog 125 #[.string t,.int .i64 p,.bool false] w (FPost t p w):=by
 have HF:Hid (fieldB t=true):=by
  show fieldB t=true
  simp at h0 h1; simp [fieldB,isKindB,k,h0,h1,hs]
 have g0:0 < t.size:=by omega
 have e0:Hid (nextB t 0=((t[0]'g0).toNat:Int)):=nextB_in g0
 have g1:1 < t.size:=by omega
 have e1:Hid (nextB t 1=((t[1]'g1).toNat:Int)):=nextB_in g1
 have g2:2 < t.size:=by omega
 have e2:Hid (nextB t 2=((t[2]'g2).toNat:Int)):=nextB_in g2
 rw [e0.out] at h0
 rw [e1.out] at h1
 have ek:Hid (nextB t 2=108):=k
 rw [e2.out] at k
 have h1n:(((t[1]'g1).toNat:Int) != 58)=false:=by simpa using h1
 have am:=h0
 clear h0
 go_enter Tryz.func125,Tryz.ntmps125
 go_wp2_with (go_at_call 110; refine (among_any _ _ _ _ true am).mono ?_; rintro e w' ⟨rfl,rfl⟩)
 refine bodyPost_ret (v:=.tuple #[.agg #[.int .u8 (t[0]'g0).toNat,.int .u8 108,.int .i64 p,.int .i64 0,.bool false,.bool false,.string ⟨#[]⟩],.bool true]) (by simp [results,Tryz.results125,go_sem]) rfl ⟨(t[0]'g0).toNat,108,p,by rw [HF.out],(fun _=>⟨e0.out.symm,ek.out.symm,rfl⟩),?_⟩
 exact ((Below.refl _ _).alloc (Nat.le_refl _) _).alloc (by simp) _
set_option maxHeartbeats 400000 in
set_option maxRecDepth 20000 in
theorem rfield_more_l (t:ByteArray) (p:Int) (w:World) (hs:3 < t.size) (hm:t.size≤4611686018427387904) (h0:(decide (97≤nextB t 0) && decide (nextB t 0≤122))=true) (h1:(nextB t 1==58)=true) (k:nextB t 2=108) :
  Calls Tryz.prog 125 #[.string t,.int .i64 p,.bool false] w (FPost t p w):=by
 have HF:Hid (fieldB t=false):=by
  show fieldB t=false
  simp [fieldB]; omega
 have g0:0 < t.size:=by omega
 have e0:Hid (nextB t 0=((t[0]'g0).toNat:Int)):=nextB_in g0
 have g1:1 < t.size:=by omega
 have e1:Hid (nextB t 1=((t[1]'g1).toNat:Int)):=nextB_in g1
 have g2:2 < t.size:=by omega
 have e2:Hid (nextB t 2=((t[2]'g2).toNat:Int)):=nextB_in g2
 rw [e0.out] at h0
 rw [e1.out] at h1
 have ek:Hid (nextB t 2=108):=k
 rw [e2.out] at k
 have h1n:(((t[1]'g1).toNat:Int) != 58)=false:=by simpa using h1
 have am:=h0
 clear h0
 go_enter Tryz.func125,Tryz.ntmps125
 go_wp2_with (go_at_call 110; refine (among_any _ _ _ _ true am).mono ?_; rintro e w' ⟨rfl,rfl⟩)
 refine bodyPost_ret (v:=.tuple #[.agg #[.int .u8 (t[0]'g0).toNat,.int .u8 108,.int .i64 p,.int .i64 0,.bool false,.bool false,.string ⟨#[]⟩],.bool false]) (by simp [results,Tryz.results125,go_sem]) rfl ⟨(t[0]'g0).toNat,108,p,by rw [HF.out],(fun h=>absurd h (by rw [HF.out]; decide)),?_⟩
 exact ((Below.refl _ _).alloc (Nat.le_refl _) _).alloc (by simp) _
set_option maxHeartbeats 400000 in
set_option maxRecDepth 20000 in
theorem rfield_yes_r (t:ByteArray) (p:Int) (w:World) (hs:t.size=3) (h0:(decide (97≤nextB t 0) && decide (nextB t 0≤122))=true) (h1:(nextB t 1==58)=true) (k:nextB t 2=114) :
  Calls Tryz.prog 125 #[.string t,.int .i64 p,.bool false] w (FPost t p w):=by
 have HF:Hid (fieldB t=true):=by
  show fieldB t=true
  simp at h0 h1; simp [fieldB,isKindB,k,h0,h1,hs]
 have g0:0 < t.size:=by omega
 have e0:Hid (nextB t 0=((t[0]'g0).toNat:Int)):=nextB_in g0
 have g1:1 < t.size:=by omega
 have e1:Hid (nextB t 1=((t[1]'g1).toNat:Int)):=nextB_in g1
 have g2:2 < t.size:=by omega
 have e2:Hid (nextB t 2=((t[2]'g2).toNat:Int)):=nextB_in g2
 rw [e0.out] at h0
 rw [e1.out] at h1
 have ek:Hid (nextB t 2=114):=k
 rw [e2.out] at k
 have h1n:(((t[1]'g1).toNat:Int) != 58)=false:=by simpa using h1
 have am:=h0
 clear h0
 go_enter Tryz.func125,Tryz.ntmps125
 go_wp2_with (go_at_call 110; refine (among_any _ _ _ _ true am).mono ?_; rintro e w' ⟨rfl,rfl⟩)
 refine bodyPost_ret (v:=.tuple #[.agg #[.int .u8 (t[0]'g0).toNat,.int .u8 114,.int .i64 p,.int .i64 0,.bool false,.bool false,.string ⟨#[]⟩],.bool true]) (by simp [results,Tryz.results125,go_sem]) rfl ⟨(t[0]'g0).toNat,114,p,by rw [HF.out],(fun _=>⟨e0.out.symm,ek.out.symm,rfl⟩),?_⟩
 exact ((Below.refl _ _).alloc (Nat.le_refl _) _).alloc (by simp) _
set_option maxHeartbeats 400000 in
set_option maxRecDepth 20000 in
theorem rfield_more_r (t:ByteArray) (p:Int) (w:World) (hs:3 < t.size) (hm:t.size≤4611686018427387904) (h0:(decide (97≤nextB t 0) && decide (nextB t 0≤122))=true) (h1:(nextB t 1==58)=true) (k:nextB t 2=114) :
  Calls Tryz.prog 125 #[.string t,.int .i64 p,.bool false] w (FPost t p w):=by
 have HF:Hid (fieldB t=false):=by
  show fieldB t=false
  simp [fieldB]; omega
 have g0:0 < t.size:=by omega
 have e0:Hid (nextB t 0=((t[0]'g0).toNat:Int)):=nextB_in g0
 have g1:1 < t.size:=by omega
 have e1:Hid (nextB t 1=((t[1]'g1).toNat:Int)):=nextB_in g1
 have g2:2 < t.size:=by omega
 have e2:Hid (nextB t 2=((t[2]'g2).toNat:Int)):=nextB_in g2
 rw [e0.out] at h0
 rw [e1.out] at h1
 have ek:Hid (nextB t 2=114):=k
 rw [e2.out] at k
 have h1n:(((t[1]'g1).toNat:Int) != 58)=false:=by simpa using h1
 have am:=h0
 clear h0
 go_enter Tryz.func125,Tryz.ntmps125
 go_wp2_with (go_at_call 110; refine (among_any _ _ _ _ true am).mono ?_; rintro e w' ⟨rfl,rfl⟩)
 refine bodyPost_ret (v:=.tuple #[.agg #[.int .u8 (t[0]'g0).toNat,.int .u8 114,.int .i64 p,.int .i64 0,.bool false,.bool false,.string ⟨#[]⟩],.bool false]) (by simp [results,Tryz.results125,go_sem]) rfl ⟨(t[0]'g0).toNat,114,p,by rw [HF.out],(fun h=>absurd h (by rw [HF.out]; decide)),?_⟩
 exact ((Below.refl _ _).alloc (Nat.le_refl _) _).alloc (by simp) _
end Go.Proofs.YtbgilndohccicaaGreatDoor
