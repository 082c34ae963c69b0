import Derived.Test.YtbgilndohccicaaGreatDoorBz12
namespace Go.Proofs.YtbgilndohccicaaGreatDoor
open Go.RowKit
def pfolD (cs:Sch) (p:PH) (root name to:Int):PH:=if (frf (ffind cs p.R p.K root name) to).e=0 then { p with R:=set1 p.R to.toNat (p.F (ffind cs p.R p.K root name).n (ffind cs p.R p.K root name).i) } else p
def plinkD (cs:Sch) (p:PH) (root name fr:Int):PH:=if (frf (ffind cs p.R p.K root name) fr).e=0 then { p with F:=set2 p.F (ffind cs p.R p.K root name).n (ffind cs p.R p.K root name).i (p.R fr.toNat) } else p
theorem frf_e0 {f:FF} {o:Int} (h:(frf f o).e=0):rtB o=true∧f.e=0∧f.k=114∧frf f o=f:=by
 unfold frf at h ⊢
 split at h
 ·simp at h
 ·rename_i h1
  obtain ⟨a,b,c⟩:=fref_e0 h
  exact ⟨by simpa using h1,a,b,by rw [if_neg h1]; exact c⟩
theorem frf_no {f:FF} {o:Int} (h:(frf f o).e≠0):frf f o=⟨0,0,0,(frf f o).e⟩:=by
 unfold frf fref at h ⊢
 split at h
 ·rename_i h1; rw [if_pos h1]
 ·rename_i h1; rw [if_neg h1]
  split at h
  ·rename_i h2; rw [if_pos h2]
   split at h
   ·exact absurd h2 h
   ·rename_i h3; rw [if_neg h3]
  ·rename_i h2; rw [if_neg h2]
set_option maxRecDepth 20000 in
set_option maxHeartbeats 1000000 in
theorem pfollow_any (hb:Nat) (sv:SV) (sz:Int) (p:PH) (base:Nat) (vs:List (Int×SV)) (cs:List (Int×List (Int×Int))) (w:World) (h:HP w hb sv sz p.R p.K p.N p.F) (hv:Cls w base (.slice sv.a sv.n sv.c) vs cs)
  (hP:Pw p) (h6:∀ c∈cs,c.2.length≤6) (root name to:Int) :
  Calls Tryz.prog 30 #[.pointer (some ⟨hb,0,none⟩),.int .i64 root,.int .u8 name,.int .i64 to] w (POp hb sv sz (pfolD cs p root name to) (frf (ffind cs p.R p.K root name) to).e w):=by
 have hbl:=h.lt
 have C:=findRef_any hb sv sz p.R p.K p.N p.F base vs cs w h hv hP.root root name to
 have HH:Hid (HP w hb sv sz p.R p.K p.N p.F):=h
 have hbd:=ffind_bd (K:=p.K) (root:=root) (letter:=name) hP.root h6
 unfold POp
 by_cases h0:(frf (ffind cs p.R p.K root name) to).e=0
 ·obtain ⟨ht,hfe,_,hff⟩:=frf_e0 h0
  have e1:pfolD cs p root name to={ p with R:=set1 p.R to.toNat (p.F (ffind cs p.R p.K root name).n (ffind cs p.R p.K root name).i) }:=by unfold pfolD; rw [if_pos h0]
  rw [e1,hff]
  rw [hff] at C
  have hbd':=hbd hfe
  obtain ⟨n,i,k,x,hf⟩:∃ n i k x,ffind cs p.R p.K root name=⟨n,i,k,x⟩:=⟨_,_,_,_,rfl⟩
  rw [hf] at hfe hbd' C ⊢
  simp only [] at hfe hbd' ⊢
  subst hfe
  obtain ⟨hn0,hn,hi⟩:=hbd'
  obtain ⟨q,rfl,hq⟩:=rtB_nat ht
  rw [Int.toNat_natCast]
  have cn:=h.ref n i hn hi
  have cq:=h.root q hq
  have fq:=h.frz (2+q)
  have hnb:(0:Int)≤(n:Int)∧(n:Int) < 201:=by omega
  have hib:(0:Int)≤(i:Int)∧(i:Int) < 6:=by omega
  have hqb:(0:Int)≤(q:Int)∧(q:Int) < 8:=by omega
  clear h0 hff e1 hf hbd h
  go_enter Tryz.func30,Tryz.ntmps30
  go_wp2_with fail
  refine C.mono ?_
  rintro e w1 ⟨rfl,B1⟩
  have cn1:w1.cell? ⟨hb,10+n * 13+7+i,none⟩=some (.int .i64 (p.F n i)):=(B1.cell (by exact hbl)).trans cn
  have cq1:w1.cell? ⟨hb,2+q,none⟩=some (.int .i64 (p.R q)):=(B1.cell (by exact hbl)).trans cq
  have fq1:w1.frozen? ⟨hb,2+q,none⟩=false:=(B1.frozen (by exact hbl)).trans fq
  have hb1:hb < w1.heap.size:=Nat.lt_of_lt_of_le hbl B1.size
  have HH1:Hid (HP w1 hb sv sz p.R p.K p.N p.F):=HH.out.below B1
  have HB1:Hid (Below w.heap.size w w1):=B1
  have hs1:=B1.size
  clear C cn cq fq B1
  simp only []
  go_wp2
  refine stillTail 16 rfl (by kernel_rfl) ?_
  simp only [List.take_succ_cons,List.take_zero,List.drop_succ_cons,List.drop_zero]
  repeat still_step
  refine wpStill_nil ?_
  go_wp2
  go_ret
  refine ⟨rfl,?_,?_⟩
  ·with_reducible repeat first | exact HH1.out | exact HP.setRoot HH1.out hq _ | apply HP.drew | apply HP.alloc
  ·with_reducible repeat first | exact gb_below HB1.out _ | apply gb_drewW | apply gb_alloc | apply gb_setB
 ·have e1:pfolD cs p root name to=p:=by unfold pfolD; rw [if_neg h0]
  rw [e1]
  have e2:=frf_no h0
  obtain ⟨y,hy⟩:∃ y,y=(frf (ffind cs p.R p.K root name) to).e:=⟨_,rfl⟩
  rw [← hy] at e2 h0 ⊢
  rw [e2] at C
  have hy':(y==0)=false:=by simpa using h0
  have hy'':(y != 0)=true:=by simpa using h0
  clear e2 hy h e1 hbd
  go_enter Tryz.func30,Tryz.ntmps30
  go_wp2_with fail
  refine C.mono ?_
  rintro e w1 ⟨rfl,B1⟩
  clear C
  simp only []
  go_wp2
  go_ret
  exact ⟨rfl,(HH.out.below B1).alloc _,gb_alloc (gb_below B1 _) _⟩
end Go.Proofs.YtbgilndohccicaaGreatDoor
namespace Go.Proofs.YtbgilndohccicaaGreatDoor
open Go.RowKit
set_option maxRecDepth 20000 in
set_option maxHeartbeats 1000000 in
theorem plink_any (hb:Nat) (sv:SV) (sz:Int) (p:PH) (base:Nat) (vs:List (Int×SV)) (cs:List (Int×List (Int×Int))) (w:World) (h:HP w hb sv sz p.R p.K p.N p.F) (hv:Cls w base (.slice sv.a sv.n sv.c) vs cs)
  (hP:Pw p) (h6:∀ c∈cs,c.2.length≤6) (root name fr:Int) :
  Calls Tryz.prog 32 #[.pointer (some ⟨hb,0,none⟩),.int .i64 root,.int .u8 name,.int .i64 fr] w (POp hb sv sz (plinkD cs p root name fr) (frf (ffind cs p.R p.K root name) fr).e w):=by
 have hbl:=h.lt
 have C:=findRef_any hb sv sz p.R p.K p.N p.F base vs cs w h hv hP.root root name fr
 have HH:Hid (HP w hb sv sz p.R p.K p.N p.F):=h
 have hbd:=ffind_bd (K:=p.K) (root:=root) (letter:=name) hP.root h6
 unfold POp
 by_cases h0:(frf (ffind cs p.R p.K root name) fr).e=0
 ·obtain ⟨ht,hfe,_,hff⟩:=frf_e0 h0
  have e1:plinkD cs p root name fr={ p with F:=set2 p.F (ffind cs p.R p.K root name).n (ffind cs p.R p.K root name).i (p.R fr.toNat) }:=by unfold plinkD; rw [if_pos h0]
  rw [e1,hff]
  rw [hff] at C
  have hbd':=hbd hfe
  obtain ⟨n,i,k,x,hf⟩:∃ n i k x,ffind cs p.R p.K root name=⟨n,i,k,x⟩:=⟨_,_,_,_,rfl⟩
  rw [hf] at hfe hbd' C ⊢
  simp only [] at hfe hbd' ⊢
  subst hfe
  obtain ⟨hn0,hn,hi⟩:=hbd'
  obtain ⟨q,rfl,hq⟩:=rtB_nat ht
  rw [Int.toNat_natCast]
  have cn:=h.ref n i hn hi
  have cq:=h.root q hq
  have fn:=h.frz (10+n * 13+7+i)
  have hnb:(0:Int)≤(n:Int)∧(n:Int) < 201:=by omega
  have hib:(0:Int)≤(i:Int)∧(i:Int) < 6:=by omega
  have hqb:(0:Int)≤(q:Int)∧(q:Int) < 8:=by omega
  clear h0 hff e1 hf hbd h
  go_enter Tryz.func32,Tryz.ntmps32
  go_wp2_with fail
  refine C.mono ?_
  rintro e w1 ⟨rfl,B1⟩
  have cn1:w1.cell? ⟨hb,10+n * 13+7+i,none⟩=some (.int .i64 (p.F n i)):=(B1.cell (by exact hbl)).trans cn
  have cq1:w1.cell? ⟨hb,2+q,none⟩=some (.int .i64 (p.R q)):=(B1.cell (by exact hbl)).trans cq
  have fn1:w1.frozen? ⟨hb,10+n * 13+7+i,none⟩=false:=(B1.frozen (by exact hbl)).trans fn
  have hb1:hb < w1.heap.size:=Nat.lt_of_lt_of_le hbl B1.size
  have HH1:Hid (HP w1 hb sv sz p.R p.K p.N p.F):=HH.out.below B1
  have HB1:Hid (Below w.heap.size w w1):=B1
  have hs1:=B1.size
  clear C cn cq fn B1
  simp only []
  go_wp2
  refine stillTail 16 rfl (by kernel_rfl) ?_
  simp only [List.take_succ_cons,List.take_zero,List.drop_succ_cons,List.drop_zero]
  repeat still_step
  refine wpStill_nil ?_
  go_wp2
  go_ret
  refine ⟨rfl,?_,?_⟩
  ·with_reducible repeat first | exact HH1.out | exact HP.setRef HH1.out hn hi _ | apply HP.drew | apply HP.alloc
  ·with_reducible repeat first | exact gb_below HB1.out _ | apply gb_drewW | apply gb_alloc | apply gb_setB
 ·have e1:plinkD cs p root name fr=p:=by unfold plinkD; rw [if_neg h0]
  rw [e1]
  have e2:=frf_no h0
  obtain ⟨y,hy⟩:∃ y,y=(frf (ffind cs p.R p.K root name) fr).e:=⟨_,rfl⟩
  rw [← hy] at e2 h0 ⊢
  rw [e2] at C
  have hy':(y==0)=false:=by simpa using h0
  have hy'':(y != 0)=true:=by simpa using h0
  clear e2 hy h e1 hbd
  go_enter Tryz.func32,Tryz.ntmps32
  go_wp2_with fail
  refine C.mono ?_
  rintro e w1 ⟨rfl,B1⟩
  clear C
  simp only []
  go_wp2
  go_ret
  exact ⟨rfl,(HH.out.below B1).alloc _,gb_alloc (gb_below B1 _) _⟩
/-! What is there: the local variable of 202 cells: 201 marks,and the list. -/
def rarr (S:Nat→Bool) (v:Value):Array Value:=((List.range 201).map (fun i=>Value.bool (S i))++[v]).toArray
theorem rarr_size (S:Nat→Bool) (v:Value):(rarr S v).size=202:=by simp [rarr]
theorem rarr_lt (S:Nat→Bool) (v:Value) {x:Nat} (h:x < 201):(rarr S v)[x]?=some (.bool (S x)):=by
 unfold rarr
 rw [List.getElem?_toArray,List.getElem?_append_left (by simpa using h),List.getElem?_map,List.getElem?_range h]
 rfl
theorem rarr_last (S:Nat→Bool) (v:Value):(rarr S v)[201]?=some v:=by
 unfold rarr
 rw [List.getElem?_toArray,List.getElem?_append_right (by simp)]
 simp
theorem rarr_out (S:Nat→Bool) (v:Value) {x:Nat} (h:201 < x):(rarr S v)[x]?=none:=by
 rw [Array.getElem?_eq_none]; rw [rarr_size]; omega
theorem rarr_set (S:Nat→Bool) (v:Value) {x:Nat} (h:x < 201):(rarr S v).setIfInBounds x (.bool true)=rarr (set1 S x true) v:=by
 apply Array.ext_getElem?
 intro i
 rw [Array.getElem?_setIfInBounds,rarr_size]
 by_cases e:x=i
 ·subst e
  rw [if_pos rfl,if_pos (by omega),rarr_lt _ _ h,set1_self]
 ·rw [if_neg e]
  rcases Nat.lt_trichotomy i 201 with h' | h' | h'
  ·rw [rarr_lt _ _ h',rarr_lt _ _ h',set1_ne _ _ (Ne.symm e)]
  ·subst h'; rw [rarr_last,rarr_last]
  ·rw [rarr_out _ _ h',rarr_out _ _ h']
theorem rarr_setv (S:Nat→Bool) (v v':Value):(rarr S v).setIfInBounds 201 v'=rarr S v':=by
 apply Array.ext_getElem?
 intro i
 rw [Array.getElem?_setIfInBounds,rarr_size]
 by_cases e:201=i
 ·subst e
  rw [if_pos rfl,if_pos (by omega),rarr_last]
 ·rw [if_neg e]
  rcases Nat.lt_trichotomy i 201 with h' | h' | h'
  ·rw [rarr_lt _ _ h',rarr_lt _ _ h']
  ·exact absurd h'.symm e
  ·rw [rarr_out _ _ h',rarr_out _ _ h']
structure RB (w:World) (b:Nat) (S:Nat→Bool) (v:Value) (L:List Nat) (base:Nat):Prop where
 blk:w.heap[b]?=some (.cells (rarr S v) 105 (0,0))
 own:w.ownsRow base 3 1 v L.length (L.map fun (x:Nat)=>Value.int .i64 (x:Int))
theorem RB.c {w:World} {b:Nat} {S:Nat→Bool} {v:Value} {L:List Nat} {base:Nat} (h:RB w b S v L base):∀ x,x < 201→w.cell? ⟨b,x,none⟩=some (.bool (S x)):=fun x hx=>(cell_of_row w b x _ _ _ h.blk).trans (rarr_lt S v hx)
theorem RB.l {w:World} {b:Nat} {S:Nat→Bool} {v:Value} {L:List Nat} {base:Nat} (h:RB w b S v L base):w.cell? ⟨b,201,none⟩=some v:=(cell_of_row w b 201 _ _ _ h.blk).trans (rarr_last S v)
theorem RB.f {w:World} {b:Nat} {S:Nat→Bool} {v:Value} {L:List Nat} {base:Nat} (h:RB w b S v L base):∀ o,w.frozen? ⟨b,o,none⟩=false:=fun o=>frozen_of_row w b o _ _ h.blk
theorem RB.lt {w:World} {b:Nat} {S:Nat→Bool} {v:Value} {L:List Nat} {base:Nat} (h:RB w b S v L base):b < w.heap.size:=World.block_lt_of_cell? w ⟨b,201,none⟩ h.l
set_option maxRecDepth 20000 in
set_option maxHeartbeats 1000000 in
theorem free_any (b:Nat) (S:Nat→Bool) (v:Value) (L:List Nat) (base:Nat) (w:World) (h:RB w b S v L base) :
  Calls Tryz.prog 70 #[.pointer (some ⟨b,0,none⟩)] w fun e w'=>w'=w∧∃ a:Nat,e=.returned (.int .i64 a)∧((a=0∧∀ x,0 < x→x < 201→S x=true)∨(0 < a∧a < 201∧S a=false)):=by
 have hbl:=h.lt
 have HC:Hid (∀ x,x < 201→w.cell? ⟨b,x,none⟩=some (.bool (S x))):=h.c
 clear h
 go_enter Tryz.func70,Tryz.ntmps70
 go_wp2
 go_loopw [3] (fun iv wr=>∃ i:Nat,0 < i∧i≤201∧iv=.int .i64 i∧Hid (∀ x,0 < x→x < i→S x=true)∧wr=w) (fun iv _=>201 - (intOf iv).toNat)
 case atStart=>exact ⟨1,by omega,by omega,rfl,fun x h1 h2=>by omega,rfl⟩
 case round =>
  obtain ⟨i,hi0,hi,rfl,HS,rfl⟩:=hrel
  by_cases hlt:i < 201
  ·have c:=HC.out i hlt
   have hib:(0:Int)≤(i:Int)∧(i:Int) < 201:=by omega
   cases hs:S i with
   | true =>
    rw [hs] at c
    have HS2:Hid (∀ x,0 < x→x < i+1→S x=true):=fun x h1 h2=>by
     rcases Nat.lt_succ_iff_lt_or_eq.1 h2 with h2 | rfl
     ·exact HS.out x h1 h2
     ·exact hs
    clear hs
    go_wp2
    go_roundw
    case rel=>exact ⟨i+1,by omega,by omega,by go_num,HS2,trivial⟩
    case measure=>simp [intOf]; omega
   | false =>
    rw [hs] at c
    have HS2:Hid (S i=false):=hs
    clear hs
    go_wp2
    go_ret
    exact ⟨rfl,i,rfl,.inr ⟨hi0,hlt,HS2.out⟩⟩
  ·have hge:201≤i:=by omega
   clear hlt
   go_wp2
   go_ret
   exact ⟨rfl,0,rfl,.inl ⟨rfl,fun x h1 h2=>HS.out x h1 (by omega)⟩⟩
end Go.Proofs.YtbgilndohccicaaGreatDoor
namespace Go.Proofs.YtbgilndohccicaaGreatDoor
open Go.RowKit
theorem Tryz.infoInt:(Tryz.prog.info? 3).map (fun i=>(i.zero,i.size,i.bytes))=some (some (.int .i64 0),1,8):=by kernel_rfl
theorem infoPartsH {P:Program} {e:TypeId} {z:Option Value} {s b:Nat} (h:(P.info? e).map (fun i=>(i.zero,i.size,i.bytes))=some (z,s,b)):∃ i,P.info? e=some i∧i.zero=z∧i.size=s∧i.bytes=b:=by
 cases hi:P.info? e with
 | none=>rw [hi] at h; simp at h
 | some i=>rw [hi] at h; simp at h; exact ⟨i,rfl,h.1,h.2.1,h.2.2⟩
theorem RB.setS {w:World} {b:Nat} {S:Nat→Bool} {v:Value} {L:List Nat} {base x:Nat} (h:RB w b S v L base) (hb:b < base) (hx:x < 201):RB (w.setCell ⟨b,x,none⟩ (.bool true)) b (set1 S x true) v L base:=by
 refine ⟨?_,World.ownsRow.kept h.own (gb_set w b x _) ?_⟩
 ·rw [heap_setCell_same w b x _ _ _ h.blk,rarr_set S v hx]
 ·cases hv:v.ownBlock with
  | none=>exact .inl rfl
  | some g=>right; have:=(World.ownsRow.lt h.own g hv).1; simp; omega
theorem RB.app {w w2:World} {b:Nat} {S:Nat→Bool} {v v':Value} {L:List Nat} {base x:Nat} (h:RB w b S v L base) (hb:b < base) (g:w.grownBy w2 v.ownBlock) (own:w2.ownsRow base 3 1 v' (L.length+1) ((L.map fun (x:Nat)=>Value.int .i64 (x:Int))++[.int .i64 x])):RB (w2.setCell ⟨b,201,none⟩ v') b S v' (L++[x]) base:=by
 have hbl:=h.lt
 have eb:w2.heap[b]?=w.heap[b]?:=g.block b hbl (fun e=>by have:=(World.ownsRow.lt h.own b e.symm).1; omega)
 refine ⟨?_,?_⟩
 ·rw [heap_setCell_same w2 b 201 _ _ _ (eb.trans h.blk),rarr_setv]
 ·rw [List.length_append,List.map_append]
  refine World.ownsRow.kept own (gb_set w2 b 201 v') ?_
  cases hv:v'.ownBlock with
  | none=>exact .inl rfl
  | some y=>right; have:=(World.ownsRow.lt own y hv).1; simp; omega
def AddPost (b:Nat) (S:Nat→Bool) (L:List Nat) (base x:Nat) (w:World) (e:Ending) (w':World):Prop:=e=.returned (.tuple #[])∧Below b w w'∧∃ v',RB w' b (addS S x) v' (addL L S x) base
set_option maxRecDepth 20000 in
set_option maxHeartbeats 1000000 in
theorem add_any (b:Nat) (S:Nat→Bool) (v:Value) (L:List Nat) (base x:Nat) (w:World) (h:RB w b S v L base) (hb:b < base) (hbase:base≤w.heap.size) (hx:x < 201) (hl:L.length≤200) :
  Calls Tryz.prog 96 #[.pointer (some ⟨b,0,none⟩),.int .i64 x] w (AddPost b S L base x w):=by
 have hbl:=h.lt
 have HH:Hid (RB w b S v L base):=h
 unfold AddPost
 by_cases h0:x=0
 ·have e1:addS S x=S:=by unfold addS; rw [if_pos (.inl h0)]
  have e2:addL L S x=L:=by unfold addL; rw [if_pos (.inl h0)]
  rw [e1,e2]
  subst h0
  clear h e1 e2
  go_enter Tryz.func96,Tryz.ntmps96
  go_wp2
  refine bodyPost_ret (v:=.tuple #[]) (by simp [results,Tryz.results96,go_sem]) rfl ⟨rfl,Below.refl _ _,v,HH.out⟩
 ·have hc:=h.c x hx
  have hxb:(0:Int)≤(x:Int)∧(x:Int) < 201:=by omega
  have hd0:decide ((x:Int)≤0)=false:=decide_eq_false (by omega)
  have hd1:decide ((201:Int)≤(x:Int))=false:=decide_eq_false (by omega)
  cases hs:S x with
  | true =>
   have e1:addS S x=S:=by unfold addS; rw [if_pos (.inr hs)]
   have e2:addL L S x=L:=by unfold addL; rw [if_pos (.inr hs)]
   rw [e1,e2]
   rw [hs] at hc
   clear h e1 e2 hs
   go_enter Tryz.func96,Tryz.ntmps96
   go_wp2
   refine bodyPost_ret (v:=.tuple #[]) (by simp [results,Tryz.results96,go_sem]) rfl ⟨rfl,Below.refl _ _,v,HH.out⟩
  | false =>
   have hor:¬ (x=0∨S x=true):=by rw [hs]; simp [h0]
   have e1:addS S x=set1 S x true:=by unfold addS; rw [if_neg hor]
   have e2:addL L S x=L++[x]:=by unfold addL; rw [if_neg hor]
   rw [e1,e2]
   rw [hs] at hc
   have hf:=h.f x
   have h1:=h.setS hb hx
   have H1:Hid (RB (w.setCell ⟨b,x,none⟩ (.bool true)) b (set1 S x true) v L base):=h1
   have hl1:=h1.l
   have hf1:=h1.f 201
   obtain ⟨iI,hiI,hzI0,hzI1,hzI2⟩:=infoPartsH Tryz.infoInt
   clear h e1 e2 hs hor
   go_enter Tryz.func96,Tryz.ntmps96
   go_wp2_with (at_builtin; refine wpList_append_own _ rfl _ _ 103 rfl base 3 iI (.int .i64 0) 1 8 Tryz.underlying103 hiI hzI0 hzI1 hzI2 rfl (by decide) _ L.length (L.map fun (x:Nat)=>Value.int .i64 (x:Int)) rfl (H1.out.own.alloc _) ⟨w.heap.size,0,none⟩ 1 1 [.int .i64 x] rfl rfl ?c1 ?c2 ?c3 ?c4 ?c5 ?_)
   case c1=>intro j u hj; match j,hj with | 0,hj=>(simp at hj; subst hj; have hsz:(w.setCell ⟨b,x,none⟩ (.bool true)).heap.size=w.heap.size:=(by simp [World.setCell]); have hc1:=cell_of_row _ _ 0 _ _ _ (heap_alloc_new (w.setCell ⟨b,x,none⟩ (.bool true)) (.cells #[.int .i64 x] 3)); rw [hsz] at hc1; simpa [Addr.add] using hc1)
   case c2=>intro u hu; simp at hu; subst hu; rfl
   case c3=>unfold maxLen; omega
   case c4=>omega
   case c5=>simp; omega
   intro v' w2 hown hgr _
   obtain ⟨va',vc',hv'⟩:∃ a c,v'=.slice a (L.length+1) c:=by
    rcases hown.2 with ⟨_,hn⟩ | ⟨g,cap,cur,e,_⟩
    ·omega
    ·exact ⟨_,_,e⟩
   subst hv'
   have HA:Hid (RB (w2.setCell ⟨b,201,none⟩ (.slice va' (L.length+1) vc')) b (set1 S x true) (.slice va' (L.length+1) vc') (L++[x]) base):=H1.out.app hb (gb_trans (World.grownBy_alloc _ _ _) hgr) hown
   have eb:w2.heap[b]?=(w.setCell ⟨b,x,none⟩ (.bool true)).heap[b]?:=(gb_trans (World.grownBy_alloc _ _ _) hgr).block b (by simpa [World.setCell] using hbl) (fun e=>by have:=(World.ownsRow.lt H1.out.own b e.symm).1; omega)
   have k1:w2.cell? ⟨b,201,none⟩=some v:=(World.cell?_of_block (a:=⟨b,201,none⟩) eb).trans hl1
   have k2:w2.frozen? ⟨b,201,none⟩=false:=(World.frozen?_of_block (a:=⟨b,201,none⟩) eb).trans hf1
   have hs2:w.heap.size≤w2.heap.size:=by have:=(gb_trans (World.grownBy_alloc _ _ _) hgr).size; simpa [World.setCell] using this
   have HB:Hid (Below b w w2):=((Below.refl b w).setCell (Nat.le_refl _) _).grown (gb_trans (World.grownBy_alloc _ _ _) hgr) (by simp [World.setCell]; omega) (fun y hy=>by have:=(World.ownsRow.lt H1.out.own y hy).1; omega)
   have hb2:b < w2.heap.size:=by omega
   clear hown hgr hl1 hf1 eb
   go_wp2
   refine bodyPost_end (v:=.tuple #[]) (by simp [results,Tryz.results96,go_sem]) rfl ⟨rfl,HB.out.setCell (Nat.le_refl _) _,_,HA.out⟩
end Go.Proofs.YtbgilndohccicaaGreatDoor
namespace Go.Proofs.YtbgilndohccicaaGreatDoor
open Go.RowKit
set_option maxHeartbeats 400000 in
theorem cwords_any (l:Int) (a:Option Addr) (n c:Nat) (w:World) (hn:n≤1000) :
  Calls Tryz.prog 69 #[.agg #[.int .u8 l,.slice a n c]] w fun e w'=>e=.returned (.int .i64 ((n:Int)+1))∧Below w.heap.size w w':=by
 go_enter Tryz.func69,Tryz.ntmps69
 go_wp2
 go_ret
 exact ⟨rfl,(Below.refl _ _).alloc (Nat.le_refl _) _⟩
def wlist (cs:Sch) (K:Nat→Int) (L:List Nat):Nat:=(L.map fun a=>wof cs (K a)).sum
theorem wlist_snoc (cs:Sch) (K:Nat→Int) (L:List Nat) (x:Nat):wlist cs K (L++[x])=wlist cs K L+wof cs (K x):=by simp [wlist]
theorem wlist_le {cs:Sch} (h6:∀ c∈cs,c.2.length≤6) (K:Nat→Int) (L:List Nat):wlist cs K L≤7 * L.length:=by
 induction L with
 | nil=>simp [wlist]
 | cons x L ih =>
  unfold wlist at ih ⊢; rw [List.map_cons,List.sum_cons,List.length_cons]; have:=fof_le h6 (K x); have:wof cs (K x)≤7:=by unfold wof; omega
  omega
theorem clsV_len {w:World} {base:Nat} {v:Value} {vs:List (Int×SV)} {cs:List (Int×List (Int×Int))} (h:Cls w base v vs cs) (x:Int):(findC vs x).2.n=(fof cs x).length:=by
 obtain ⟨_,f2⟩:=h.find x
 rw [fcs_fof] at f2
 rcases f2.shape with ⟨e1,e2⟩ | ⟨g,cap,e1,_⟩
 ·have e1':Value.slice (findC vs x).2.a (findC vs x).2.n (findC vs x).2.c=.slice none 0 0:=e1
  injection e1' with _ e3 _
  rw [e2]; simpa using e3
 ·have e1':Value.slice (findC vs x).2.a (findC vs x).2.n (findC vs x).2.c=.slice (some ⟨g,0,none⟩) (fof cs x).length cap:=e1
  injection e1'
set_option maxRecDepth 20000 in
set_option maxHeartbeats 1000000 in
theorem wordsOf_any (hb:Nat) (sv:SV) (sz:Int) (p:PH) (base:Nat) (vs:List (Int×SV)) (cs:List (Int×List (Int×Int))) (w:World) (h:HP w hb sv sz p.R p.K p.N p.F) (hv:Cls w base (.slice sv.a sv.n sv.c) vs cs) (h6:∀ c∈cs,c.2.length≤6)
  (L:List Nat) (lb:Nat) (v:Value) (hl:w.ownsRow lb 3 1 v L.length (L.map fun (x:Nat)=>Value.int .i64 (x:Int))) (hL:∀ x∈L,x < 201) (hlen:L.length≤200) :
  Calls Tryz.prog 68 #[.pointer (some ⟨hb,0,none⟩),v] w fun e w'=>e=.returned (.int .i64 (wlist cs p.K L))∧Below w.heap.size w w':=by
 have hbl:=h.lt
 have HH:Hid (HP w hb sv sz p.R p.K p.N p.F):=h
 have HV:Hid (Cls w base (.slice sv.a sv.n sv.c) vs cs):=hv
 have H6:Hid (∀ c∈cs,c.2.length≤6):=h6
 obtain ⟨va,vc,hvs⟩:∃ a c,v=.slice a L.length c:=by
  rcases hl.2 with ⟨rfl,hn⟩ | ⟨g,cap,cur,rfl,_⟩
  ·exact ⟨none,0,by rw [hn]⟩
  ·exact ⟨_,_,rfl⟩
 subst hvs
 have HLC:Hid (∀ i,i < L.length→∃ g,va=some ⟨g,0,none⟩∧g < w.heap.size∧w.cell? ⟨g,i,none⟩=some (.int .i64 ((L[i]?.getD 0:Nat):Int))∧L[i]?.getD 0 < 201):=by
  intro i hi
  rcases hl.2 with ⟨e,hn⟩ | ⟨g,cap,cur,e,_,hg,_⟩
  ·omega
  ·have ea:va=some ⟨g,0,none⟩:=by injection e
   refine ⟨g,ea,(Array.getElem?_eq_some_iff.1 hg).1,?_,?_⟩
   ·have c:=World.ownsRow.cells hl (g:=g) (by rw [ea]; rfl) i _ (by rw [List.getElem?_map,List.getElem?_eq_getElem hi]; rfl)
    have e2:(⟨g,0,none⟩:Addr).add i=⟨g,i,none⟩:=by unfold Addr.add; split <;> simp_all
    rw [e2] at c
    rw [c,List.getElem?_eq_getElem hi]; rfl
   ·rw [List.getElem?_eq_getElem hi]; exact hL _ (List.getElem_mem hi)
 obtain ⟨n,hn⟩:∃ n,n=L.length:=⟨_,rfl⟩
 have HN:Hid (n=L.length):=hn
 rw [← hn] at hlen ⊢
 clear h hv h6 hl hL hn
 go_enter Tryz.func68,Tryz.ntmps68
 go_wp2
 go_loopw [5,11] (fun sv' iv wr=>∃ i:Nat,i≤n∧iv=.int .i64 i∧sv'=.int .i64 (wlist cs p.K (L.take i))∧Below w.heap.size w wr) (fun _ iv _=>n - (intOf iv).toNat)
 case atStart=>exact ⟨0,by omega,rfl,by simp [wlist],Below.refl _ _⟩
 case round =>
  obtain ⟨i,hi,rfl,rfl,hb'⟩:=hrel
  by_cases hlt:i < n
  ·obtain ⟨g,ea,hg,hc,hx⟩:=HLC.out i (by rw [← HN.out]; exact hlt)
   obtain ⟨x,hxx⟩:∃ x,x=L[i]?.getD 0:=⟨_,rfl⟩
   rw [← hxx] at hc hx
   have hc1:wr.cell? ⟨g,i,none⟩=some (.int .i64 (x:Int)):=(hb'.cell (by exact hg)).trans hc
   have HP1:=HH.out.below hb'
   have HV1:=HV.out.below hb'
   have CC:=classOf_any hb x sv sz p.R p.K p.N p.F vs wr HP1 HV1.cv hx
   have hfl:=clsV_len HV1 (p.K x)
   have hf6:=fof_le H6.out (p.K x)
   obtain ⟨l,sa,sn,sc,hf⟩:∃ l sa sn sc,findC vs (p.K x)=(l,⟨sa,sn,sc⟩):=⟨_,_,_,_,rfl⟩
   rw [hf] at CC hfl
   simp only [clsV] at CC hfl
   have hsl:=wlist_le H6.out p.K (L.take i)
   have htk:(L.take i).length≤i:=by simp; omega
   obtain ⟨s0,hs0⟩:∃ s0,s0=wlist cs p.K (L.take i):=⟨_,rfl⟩
   have HS:Hid (wlist cs p.K (L.take (i+1))=s0+sn+1):=by
    show _=_
    have hil:i < L.length:=by rw [← HN.out]; exact hlt
    rw [List.take_add_one,List.getElem?_eq_getElem hil,Option.toList_some,wlist_snoc,← hs0,wof]
    have:L[i]=x:=by rw [hxx,List.getElem?_eq_getElem hil]; rfl
    rw [this,hfl]; omega
   rw [← hs0] at hsl ⊢
   have hs7:s0≤1400:=by omega
   have hsn:sn≤6:=by omega
   rw [ea]
   have hib:(0:Int)≤(i:Int)∧(i:Int) < (n:Int):=by omega
   have HBR:Hid (Below w.heap.size w wr):=hb'
   have hszr:=hb'.size
   clear HP1 HV1 hf hfl hf6 hs0 hsl htk hxx hc ea
   rename World=>wo
   go_wp2_with fail
   refine CC.mono ?_
   rintro e w1 ⟨rfl,B1⟩
   have HB1:Hid (Below w.heap.size w (w1.alloc (.cells #[.int .u8 l,.slice sa sn sc] 99))):=(HBR.out.trans (B1.mono HBR.out.size)).alloc (Nat.le_trans hszr B1.size) _
   have hs1:=B1.size
   clear CC B1
   go_wp2_with fail
   refine (cwords_any l sa sn sc _ (by omega)).mono ?_
   rintro e w2 ⟨rfl,B2⟩
   have HB2:Hid (Below w.heap.size w w2):=HB1.out.trans (B2.mono HB1.out.size)
   clear B2
   go_wp2
   go_roundw
   case rel=>exact ⟨i+1,by omega,by go_num,by rw [HS.out]; go_num,HB2.out⟩
   case measure=>simp [intOf]; omega
  ·have ei:i=n:=by omega
   have hge:n≤i:=by omega
   have HE:Hid (L.take i=L):=by
    show _=_
    rw [ei,HN.out]; exact List.take_length
   clear hlt ei
   go_wp2
   go_ret
   exact ⟨by rw [HE.out]; rfl,hb'⟩
end Go.Proofs.YtbgilndohccicaaGreatDoor
