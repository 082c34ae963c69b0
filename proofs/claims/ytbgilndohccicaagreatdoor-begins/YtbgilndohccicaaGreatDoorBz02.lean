import Derived.Test.YtbgilndohccicaaGreatDoorBz01
import Derived.Deep.RegionWith
namespace Go.Proofs.YtbgilndohccicaaGreatDoor
theorem idxF_lt {fs:List (Int×Int)} {x:Int} (h:¬ idxF fs x < 0):∃ i:Nat,idxF fs x=i∧i < fs.length:=by
 unfold idxF at h ⊢
 cases hf:fs.findIdx? (fun p=>p.1==x) with
 | none=>rw [hf] at h; simp at h
 | some i=>rw [List.findIdx?_eq_some_iff_getElem] at hf; exact ⟨i,rfl,hf.1⟩
theorem idxF_at {fs:List (Int×Int)} {x:Int} {i:Nat} (h:idxF fs x=i):i < fs.length∧(fs[i]?.getD (0,0)).1=x:=by
 unfold idxF at h
 cases hf:fs.findIdx? (fun p=>p.1==x) with
 | none=>rw [hf] at h; simp at h
 | some k =>
  rw [hf] at h
  have:k=i:=by have h':(k:Int)=i:=h; omega
  subst this
  rw [List.findIdx?_eq_some_iff_getElem] at hf
  obtain ⟨h1,h2,_⟩:=hf
  exact ⟨h1,by rw [List.getElem?_eq_getElem h1]; simpa using h2⟩
def rtB (x:Int):Bool:=decide (0≤x) && decide (x < 8)
theorem rtB_nat {x:Int} (h:rtB x=true):∃ n:Nat,x=n∧n < 8:=by
 simp only [rtB,Bool.and_eq_true,decide_eq_true_eq] at h
 exact ⟨x.toNat,by omega,by omega⟩
structure FF where
 n:Nat
 i:Nat
 k:Int
 e:Int
def ffind (cs:Sch) (R:Nat→Nat) (K:Nat→Int) (root letter:Int):FF :=
 if rtB root=false then ⟨0,0,0,8⟩
 else if R root.toNat=0 then ⟨0,0,0,9⟩
 else if idxF (fof cs (K (R root.toNat))) letter < 0 then ⟨0,0,0,5⟩
 else ⟨R root.toNat,(idxF (fof cs (K (R root.toNat))) letter).toNat,((fof cs (K (R root.toNat)))[(idxF (fof cs (K (R root.toNat))) letter).toNat]?.getD (0,0)).2,0⟩
def fnum (f:FF):FF:=if f.e=0 then (if f.k=114 then ⟨0,0,0,6⟩ else f) else ⟨0,0,0,f.e⟩
def fref (f:FF):FF:=if f.e=0 then (if f.k=114 then f else ⟨0,0,0,6⟩) else ⟨0,0,0,f.e⟩
theorem ffind_at {cs:Sch} {R:Nat→Nat} {K:Nat→Int} {root letter:Int} (h:(ffind cs R K root letter).e=0) :
  ∃ n:Nat,root=n∧n < 8∧R n≠0∧∃ i:Nat,idxF (fof cs (K (R n))) letter=i∧i < (fof cs (K (R n))).length∧ffind cs R K root letter=⟨R n,i,((fof cs (K (R n)))[i]?.getD (0,0)).2,0⟩:=by
 unfold ffind at h ⊢
 split at h
 ·simp at h
 ·rename_i h1
  obtain ⟨n,rfl,hn⟩:=rtB_nat (by simpa using h1)
  rw [if_neg h1]
  simp only [Int.toNat_natCast] at h ⊢
  split at h
  ·simp at h
  ·rename_i h2
   rw [if_neg h2]
   split at h
   ·simp at h
   ·rename_i h3
    rw [if_neg h3]
    obtain ⟨i,hi1,hi2⟩:=idxF_lt h3
    exact ⟨n,rfl,hn,h2,i,hi1,hi2,by rw [hi1]; simp⟩
theorem ffind_bd {cs:Sch} {R:Nat→Nat} {K:Nat→Int} {root letter:Int} (hR:∀ i,i < 8→R i < 201) (h6:∀ c∈cs,c.2.length≤6) (h:(ffind cs R K root letter).e=0) :
  0 < (ffind cs R K root letter).n∧(ffind cs R K root letter).n < 201∧(ffind cs R K root letter).i < 6:=by
 obtain ⟨n,_,hn,h0,i,_,hi,e⟩:=ffind_at h
 rw [e]
 have:=fof_le h6 (K (R n))
 exact ⟨by simp only []; omega,hR n hn,by simp only []; omega⟩
theorem find_meet {cs:Sch} {p:PH} {r:DH} {M:Nat→Nat→Prop} (h:Bis cs p r M) (root letter:Int) :
  (ffind cs p.R p.K root letter).e=(ffind cs r.R r.K root letter).e∧(ffind cs p.R p.K root letter).i=(ffind cs r.R r.K root letter).i∧(ffind cs p.R p.K root letter).k=(ffind cs r.R r.K root letter).k ∧
   ((ffind cs p.R p.K root letter).e=0→M (ffind cs p.R p.K root letter).n (ffind cs r.R r.K root letter).n):=by
 unfold ffind
 split
 ·exact ⟨rfl,rfl,rfl,fun h=>by simp at h⟩
 ·rename_i h1
  obtain ⟨n,rfl,hn⟩:=rtB_nat (by simpa using h1)
  simp only [Int.toNat_natCast]
  rcases h.root n hn with ⟨e1,e2⟩ | hm
  ·rw [if_pos e1,if_pos e2]; exact ⟨rfl,rfl,rfl,fun h=>by simp at h⟩
  ·have hp:=h.pos _ _ hm
   have n1:¬ p.R n=0:=by omega
   have n2:¬ r.R n=0:=by omega
   rw [if_neg n1,if_neg n2,h.cls _ _ hm]
   split
   ·exact ⟨rfl,rfl,rfl,fun h=>by simp at h⟩
   ·exact ⟨rfl,rfl,rfl,fun _=>hm⟩
theorem fnum_e0 {f:FF} (h:(fnum f).e=0):f.e=0∧f.k≠114∧fnum f=f:=by
 unfold fnum at h ⊢
 split at h
 ·rename_i h0
  split at h
  ·simp at h
  ·rename_i hk; exact ⟨h0,hk,by rw [if_pos h0,if_neg hk]⟩
 ·rename_i h0; exact absurd h h0
theorem fref_e0 {f:FF} (h:(fref f).e=0):f.e=0∧f.k=114∧fref f=f:=by
 unfold fref at h ⊢
 split at h
 ·rename_i h0
  split at h
  ·rename_i hk; exact ⟨h0,hk,by rw [if_pos h0,if_pos hk]⟩
  ·simp at h
 ·rename_i h0; exact absurd h h0
theorem fnum_e (f g:FF) (h1:f.e=g.e) (h2:f.k=g.k):(fnum f).e=(fnum g).e:=by
 unfold fnum; rw [h1,h2]; split
 ·rename_i h0; split
  ·rfl
  ·rw [h1]
 ·rfl
theorem fref_e (f g:FF) (h1:f.e=g.e) (h2:f.k=g.k):(fref f).e=(fref g).e:=by
 unfold fref; rw [h1,h2]; split
 ·rename_i h0; split
  ·rw [h1]
  ·rfl
 ·rfl
theorem ffind_fld {cs:Sch} {R:Nat→Nat} {K:Nat→Int} {root letter:Int} (h:(ffind cs R K root letter).e=0) :
  ∃ f,(fof cs (K (ffind cs R K root letter).n))[(ffind cs R K root letter).i]?=some f∧f.2=(ffind cs R K root letter).k:=by
 obtain ⟨n,_,hn,h0,i,_,hi,e⟩:=ffind_at h
 rw [e]
 simp only []
 exact ⟨_,List.getElem?_eq_getElem hi,by rw [List.getElem?_eq_getElem hi]; rfl⟩
theorem get_meet {cs:Sch} {p:PH} {r:DH} (h:Sim cs p r) (root letter:Int) :
  (fnum (ffind cs p.R p.K root letter)).e=(fnum (ffind cs r.R r.K root letter)).e∧((fnum (ffind cs p.R p.K root letter)).e=0→p.N (ffind cs p.R p.K root letter).n (ffind cs p.R p.K root letter).i=r.C (ffind cs r.R r.K root letter).n (ffind cs r.R r.K root letter).i):=by
 obtain ⟨M,h⟩:=h
 obtain ⟨h1,h2,h3,h4⟩:=find_meet h root letter
 refine ⟨fnum_e _ _ h1 h3,fun h0=>?_⟩
 obtain ⟨a1,a2,_⟩:=fnum_e0 h0
 obtain ⟨f,hf,hk⟩:=ffind_fld a1
 rw [← h2]
 exact h.num _ _ (h4 a1) _ f hf (by rw [hk]; exact a2)
theorem put_meet {cs:Sch} {p:PH} {r:DH} (h:Sim cs p r) (root letter v:Int) (h0:(fnum (ffind cs p.R p.K root letter)).e=0) :
  Sim cs { p with N:=set2 p.N (ffind cs p.R p.K root letter).n (ffind cs p.R p.K root letter).i v } { r with C:=set2 r.C (ffind cs r.R r.K root letter).n (ffind cs r.R r.K root letter).i v }:=by
 obtain ⟨M,h⟩:=h
 obtain ⟨h1,h2,h3,h4⟩:=find_meet h root letter
 obtain ⟨a1,a2,_⟩:=fnum_e0 h0
 obtain ⟨f,hf,hk⟩:=ffind_fld a1
 rw [← h2]
 exact ⟨M,h.setNum (h4 a1) _ v f hf (by rw [hk]; exact a2)⟩
theorem ref_meet {cs:Sch} {p:PH} {r:DH} (h:Sim cs p r) (root letter:Int):(fref (ffind cs p.R p.K root letter)).e=(fref (ffind cs r.R r.K root letter)).e:=by
 obtain ⟨M,h⟩:=h
 obtain ⟨h1,h2,h3,h4⟩:=find_meet h root letter
 exact fref_e _ _ h1 h3
theorem follow_meet {cs:Sch} {p:PH} {r:DH} (h:Sim cs p r) (root letter:Int) (to:Nat) (h0:(fref (ffind cs p.R p.K root letter)).e=0) :
  Sim cs { p with R:=set1 p.R to (p.F (ffind cs p.R p.K root letter).n (ffind cs p.R p.K root letter).i) } { r with R:=set1 r.R to (r.C (ffind cs r.R r.K root letter).n (ffind cs r.R r.K root letter).i).toNat }:=by
 obtain ⟨M,h⟩:=h
 obtain ⟨h1,h2,h3,h4⟩:=find_meet h root letter
 obtain ⟨a1,a2,_⟩:=fref_e0 h0
 obtain ⟨f,hf,hk⟩:=ffind_fld a1
 rw [← h2]
 refine ⟨M,h.setRoot to _ _ ?_⟩
 rcases h.ref _ _ (h4 a1) _ f hf (by rw [hk]; exact a2) with ⟨e1,e2⟩ | ⟨c,e1,e2⟩
 ·left; rw [e2]; exact ⟨e1,rfl⟩
 ·right; rw [e1]; exact e2
theorem link_meet {cs:Sch} {p:PH} {r:DH} (h:Sim cs p r) (root letter:Int) (fr:Nat) (hfr:fr < 8) (h0:(fref (ffind cs p.R p.K root letter)).e=0) :
  Sim cs { p with F:=set2 p.F (ffind cs p.R p.K root letter).n (ffind cs p.R p.K root letter).i (p.R fr) } { r with C:=set2 r.C (ffind cs r.R r.K root letter).n (ffind cs r.R r.K root letter).i (r.R fr:Int) }:=by
 obtain ⟨M,h⟩:=h
 obtain ⟨h1,h2,h3,h4⟩:=find_meet h root letter
 obtain ⟨a1,a2,_⟩:=fref_e0 h0
 obtain ⟨f,hf,hk⟩:=ffind_fld a1
 rw [← h2]
 exact ⟨M,h.setRef (h4 a1) _ _ _ (h.root fr hfr) f hf (by rw [hk]; exact a2)⟩
theorem copy_meet {cs:Sch} {p:PH} {r:DH} (h:Sim cs p r) (i to:Nat) (hi:i < 8):Sim cs { p with R:=set1 p.R to (p.R i) } { r with R:=set1 r.R to (r.R i) }:=by
 obtain ⟨M,h⟩:=h
 exact ⟨M,h.setRoot to _ _ (h.root i hi)⟩
theorem clear_meet {cs:Sch} {p:PH} {r:DH} (h:Sim cs p r) (i:Nat):Sim cs { p with R:=set1 p.R i 0 } { r with R:=set1 r.R i 0 }:=by
 obtain ⟨M,h⟩:=h
 exact ⟨M,h.setRoot i 0 0 (.inl ⟨rfl,rfl⟩)⟩
theorem same_meet {cs:Sch} {p:PH} {r:DH} (h:Sim cs p r) (i j:Nat) (hi:i < 8) (hj:j < 8):p.R i=p.R j↔r.R i=r.R j:=by
 obtain ⟨M,h⟩:=h
 rcases h.root i hi with ⟨a1,a2⟩ | a <;> rcases h.root j hj with ⟨b1,b2⟩ | b
 ·simp [a1,a2,b1,b2]
 ·have:=h.pos _ _ b; omega
 ·have:=h.pos _ _ a; omega
 ·constructor
  ·intro e; rw [e] at a; exact h.fn _ _ _ a b
  ·intro e; rw [e] at a; exact h.inj _ _ _ a b
theorem class_meet' {cs:Sch} {p:PH} {r:DH} (h:Sim cs p r) (i:Nat) (hi:i < 8):(p.R i=0↔r.R i=0)∧(p.R i≠0→p.K (p.R i)=r.K (r.R i)):=by
 obtain ⟨M,h⟩:=h
 rcases h.root i hi with ⟨a1,a2⟩ | a
 ·exact ⟨by simp [a1,a2],fun h=>absurd a1 h⟩
 ·have:=h.pos _ _ a
  exact ⟨by omega,fun _=>h.cls _ _ a⟩
theorem sim_new (cs:Sch) (p:PH) (r:DH) (h1:∀ i,i < 8→p.R i=0) (h2:∀ i,i < 8→r.R i=0):Sim cs p r :=
 ⟨fun _ _=>False,⟨fun _ _ _ h=>h.elim,fun _ _ _ h=>h.elim,fun _ _ h=>h.elim,fun i hi=>.inl ⟨h1 i hi,h2 i hi⟩,fun _ _ h=>h.elim,fun _ _ h=>h.elim,fun _ _ h=>h.elim,fun _ _ h=>h.elim,fun _ _ h=>h.elim⟩⟩
end Go.Proofs.YtbgilndohccicaaGreatDoor
namespace Go.Proofs.YtbgilndohccicaaGreatDoor
open Go.RowKit
structure RowK (w:World) (g j:Nat) (n k:Int):Prop where
 c0:w.cell? ⟨g,j * 7,none⟩=some (.int .u8 n)
 c1:w.cell? ⟨g,j * 7+1,none⟩=some (.int .u8 k)
theorem RowK.keep {w w':World} {g j:Nat} {n k:Int} (h:RowK w g j n k) (e:w'.heap[g]?=w.heap[g]?):RowK w' g j n k :=
 ⟨(World.cell?_of_block (a:=⟨g,_,none⟩) e).trans h.c0,(World.cell?_of_block (a:=⟨g,_,none⟩) e).trans h.c1⟩
theorem RowK.below {w w':World} {g j:Nat} {n k:Int} (h:RowK w g j n k) (hb:Below w.heap.size w w') (hg:g < w.heap.size):RowK w' g j n k:=h.keep (hb.block g hg)
structure RowC (w:World) (g i:Nat) (n:Int) (a:Option Addr) (l c:Nat):Prop where
 c0:w.cell? ⟨g,i * 5,none⟩=some (.int .u8 n)
 c4:w.cell? ⟨g,i * 5+4,none⟩=some (.slice a l c)
theorem RowC.keep {w w':World} {g i:Nat} {n:Int} {a:Option Addr} {l c:Nat} (h:RowC w g i n a l c) (e:w'.heap[g]?=w.heap[g]?):RowC w' g i n a l c :=
 ⟨(World.cell?_of_block (a:=⟨g,_,none⟩) e).trans h.c0,(World.cell?_of_block (a:=⟨g,_,none⟩) e).trans h.c4⟩
theorem RowC.below {w w':World} {g i:Nat} {n:Int} {a:Option Addr} {l c:Nat} (h:RowC w g i n a l c) (hb:Below w.heap.size w w') (hg:g < w.heap.size):RowC w' g i n a l c:=h.keep (hb.block g hg)
structure KX where
 g:Nat
 cap:Nat
 FA:Nat→Option Addr
 FG:Nat→Nat
 FC:Nat→Nat
def cat (cs:Sch) (i:Nat):Int×List (Int×Int):=cs[i]?.getD (0,[])
structure KC (w:World) (x:KX) (cs:Sch):Prop where
 lt:x.g < w.heap.size
 row:∀ i,i < cs.length→RowC w x.g i (cat cs i).1 (x.FA i) (cat cs i).2.length (x.FC i)
 fld:∀ i j,i < cs.length→j < (cat cs i).2.length→x.FA i=some ⟨x.FG i,0,none⟩∧x.FG i < w.heap.size∧RowK w (x.FG i) j ((cat cs i).2[j]?.getD (0,0)).1 ((cat cs i).2[j]?.getD (0,0)).2
def KX.has (x:KX) (cs:Sch) (b:Nat):Prop:=b=x.g∨∃ i,i < cs.length∧0 < (cat cs i).2.length∧b=x.FG i
theorem KC.keep {w w':World} {x:KX} {cs:Sch} (h:KC w x cs) (hs:w.heap.size≤w'.heap.size) (e:∀ b,x.has cs b→w'.heap[b]?=w.heap[b]?):KC w' x cs:=by
 refine ⟨Nat.lt_of_lt_of_le h.lt hs,fun i hi=>(h.row i hi).keep (e _ (.inl rfl)),fun i j hi hj=>?_⟩
 obtain ⟨h1,h2,h3⟩:=h.fld i j hi hj
 exact ⟨h1,Nat.lt_of_lt_of_le h2 hs,h3.keep (e _ (.inr ⟨i,hi,by omega,rfl⟩))⟩
theorem KC.has_lt {w:World} {x:KX} {cs:Sch} (h:KC w x cs) {b:Nat} (hb:x.has cs b):b < w.heap.size:=by
 rcases hb with rfl | ⟨i,hi,h0,rfl⟩
 ·exact h.lt
 ·exact (h.fld i 0 hi h0).2.1
theorem KC.below {w w':World} {x:KX} {cs:Sch} (h:KC w x cs) (hb:Below w.heap.size w w'):KC w' x cs:=h.keep hb.size fun b hx=>hb.block b (h.has_lt hx)
structure KF (w:World) (a:Option Addr) (g:Nat) (fs:List (Int×Int)):Prop where
 a:0 < fs.length→a=some ⟨g,0,none⟩∧g < w.heap.size
 row:∀ j,j < fs.length→RowK w g j (fs[j]?.getD (0,0)).1 (fs[j]?.getD (0,0)).2
theorem KF.below {w w':World} {a:Option Addr} {g:Nat} {fs:List (Int×Int)} (h:KF w a g fs) (hb:Below w.heap.size w w'):KF w' a g fs :=
 ⟨fun h0=>⟨(h.a h0).1,Nat.lt_of_lt_of_le (h.a h0).2 hb.size⟩,fun j hj=>(h.row j hj).below hb (h.a (by omega)).2⟩
theorem fof_hit {cs:Sch} {c:Int} {i:Nat} (hi:i < cs.length) (h:(cat cs i).1=c) (hno:∀ j,j < i→¬ (cat cs j).1=c):fof cs c=(cat cs i).2∧(cs.any fun x=>x.1==c)=true:=by
 have e:cs.find? (fun x=>x.1==c)=some cs[i]:=by
  rw [List.find?_eq_some_iff_getElem]
  refine ⟨by simpa [cat,List.getElem?_eq_getElem hi] using h,i,hi,rfl,fun j hj=>?_⟩
  have:=hno j hj
  have hj':j < cs.length:=by omega
  simpa [cat,List.getElem?_eq_getElem hj'] using this
 constructor
 ·unfold fof; rw [e]; simp [cat,List.getElem?_eq_getElem hi]
 ·simp only [List.any_eq_true]; exact ⟨cs[i],List.getElem_mem hi,by simpa [cat,List.getElem?_eq_getElem hi] using h⟩
theorem fof_no {cs:Sch} {c:Int} (hno:∀ j,j < cs.length→¬ (cat cs j).1=c):fof cs c=[]∧(cs.any fun x=>x.1==c)=false:=by
 have h:∀ p∈cs,(p.1==c)=false:=by
  intro p hp
  obtain ⟨j,hj,rfl⟩:=List.getElem_of_mem hp
  have:=hno j hj
  simpa [cat,List.getElem?_eq_getElem hj] using this
 constructor
 ·have:cs.find? (fun x=>x.1==c)=none:=by rw [List.find?_eq_none]; intro p hp; simp [h p hp]
  unfold fof; rw [this]; rfl
 ·simp only [List.any_eq_false]; intro p hp; simp [h p hp]
def kidx (cs:Sch) (c:Int):Nat:=cs.findIdx (fun p=>p.1==c)
def knA (x:KX) (cs:Sch) (c:Int):Option Addr:=if kidx cs c < cs.length then x.FA (kidx cs c) else none
def knC (x:KX) (cs:Sch) (c:Int):Nat:=if kidx cs c < cs.length then x.FC (kidx cs c) else 0
theorem kidx_hit {cs:Sch} {c:Int} {i:Nat} (hi:i < cs.length) (h:(cat cs i).1=c) (hno:∀ j,j < i→¬ (cat cs j).1=c):kidx cs c=i:=by
 unfold kidx
 rw [List.findIdx_eq hi]
 refine ⟨by simpa [cat,List.getElem?_eq_getElem hi] using h,fun j hj=>?_⟩
 have:=hno j hj
 have hj':j < cs.length:=by omega
 simpa [cat,List.getElem?_eq_getElem hj'] using this
theorem kidx_no {cs:Sch} {c:Int} (hno:∀ j,j < cs.length→¬ (cat cs j).1=c):kidx cs c=cs.length:=by
 unfold kidx
 rw [List.findIdx_eq_length]
 intro p hp
 obtain ⟨j,hj,rfl⟩:=List.getElem_of_mem hp
 have:=hno j hj
 simpa [cat,List.getElem?_eq_getElem hj] using this
theorem kidx_or (cs:Sch) (c:Int):(∃ i,i < cs.length∧(cat cs i).1=c∧∀ j,j < i→¬ (cat cs j).1=c)∨(∀ j,j < cs.length→¬ (cat cs j).1=c):=by
 by_cases h:kidx cs c < cs.length
 ·left
  have h1:(cs[kidx cs c].1==c)=true:=List.findIdx_getElem (xs:=cs) (p:=fun (p:Int×List (Int×Int))=>p.1==c) (w:=h)
  refine ⟨kidx cs c,h,by simpa [cat,List.getElem?_eq_getElem h] using h1,fun j hj=>?_⟩
  have:=List.not_of_lt_findIdx (xs:=cs) (p:=fun (p:Int×List (Int×Int))=>p.1==c) hj
  have hj':j < cs.length:=by omega
  simpa [cat,List.getElem?_eq_getElem hj'] using this
 ·right
  intro j hj
  have:=List.not_of_lt_findIdx (xs:=cs) (p:=fun (p:Int×List (Int×Int))=>p.1==c) (i:=j) (by show j < kidx cs c; omega)
  simpa [cat,List.getElem?_eq_getElem hj] using this
theorem KC.kf {w:World} {x:KX} {cs:Sch} (h:KC w x cs) (c:Int):KF w (knA x cs c) (x.FG (kidx cs c)) (fof cs c)∧(0 < (fof cs c).length→x.has cs (x.FG (kidx cs c))):=by
 rcases kidx_or cs c with ⟨i,hi,h1,h2⟩ | hno
 ·obtain ⟨e1,e2⟩:=fof_hit hi h1 h2
  have e3:=kidx_hit hi h1 h2
  rw [e1,e3,knA,e3,if_pos hi]
  exact ⟨⟨fun h0=>⟨(h.fld i 0 hi h0).1,(h.fld i 0 hi h0).2.1⟩,fun j hj=>(h.fld i j hi hj).2.2⟩,fun h0=>.inr ⟨i,hi,h0,rfl⟩⟩
 ·obtain ⟨e1,e2⟩:=fof_no hno
  rw [e1]
  exact ⟨⟨fun h=>by simp at h,fun j hj=>by simp at hj⟩,fun h=>by simp at h⟩
end Go.Proofs.YtbgilndohccicaaGreatDoor
namespace Go.Proofs.YtbgilndohccicaaGreatDoor
open Go.RowKit
set_option maxRecDepth 20000 in
set_option maxHeartbeats 1000000 in
theorem known_any (x:KX) (cs:Sch) (c:Int) (w:World) (h:KC w x cs) (hm:cs.length≤1000) :
  Calls Tryz.prog 72 #[.slice (some ⟨x.g,0,none⟩) cs.length x.cap,.int .u8 c] w fun e w'=>e=.returned (.tuple #[.slice (knA x cs c) (fof cs c).length (knC x cs c),.bool (cs.any fun x=>x.1==c)])∧w'=w:=by
 obtain ⟨m,hm0⟩:∃ m,m=cs.length:=⟨_,rfl⟩
 have HM:Hid (m=cs.length):=hm0
 have HK:Hid (KC w x cs):=h
 have hg:=h.lt
 rw [← hm0] at hm ⊢
 clear hm0 h
 go_enter Tryz.func72,Tryz.ntmps72
 go_wp2
 go_loopw [6] (fun iv wr=>∃ i:Nat,i≤m∧iv=.int .i64 i∧Hid (∀ j,j < i→¬ (cat cs j).1=c)∧wr=w) (fun iv _=>m - (intOf iv).toNat)
 case atStart=>exact ⟨0,by omega,rfl,fun j h=>by omega,rfl⟩
 case round =>
  obtain ⟨i,hi,rfl,HN,rfl⟩:=hrel
  by_cases hlt:i < m
  ·obtain ⟨c0,c4⟩:=HK.out.row i (by rw [← HM.out]; exact hlt)
   by_cases he:(cat cs i).1=c
   ·have he':((cat cs i).1==c)=true:=by simpa using he
    have hi':i < cs.length:=by rw [← HM.out]; exact hlt
    have HH:=fof_hit hi' he HN.out
    have H2:Hid ((.returned (.tuple #[.slice (x.FA i) (cat cs i).2.length (x.FC i),.bool true]):Ending)=.returned (.tuple #[.slice (knA x cs c) (fof cs c).length (knC x cs c),.bool (cs.any fun x=>x.1==c)])):=by
     show (_:Ending)=_
     have e3:=kidx_hit hi' he HN.out
     rw [HH.1,HH.2,knA,knC,e3,if_pos hi',if_pos hi']
    clear HH he
    go_wp2
    go_ret2
    exact ⟨H2.out,rfl⟩
   ·have he':((cat cs i).1==c)=false:=by simpa using he
    have HN2:Hid (∀ j,j < i+1→¬ (cat cs j).1=c):=fun j hj=>by
     rcases Nat.lt_succ_iff_lt_or_eq.1 hj with hj | rfl
     ·exact HN.out j hj
     ·exact he
    clear he
    go_wp2
    go_roundw
    case rel=>exact ⟨i+1,by omega,by go_num,HN2,trivial⟩
    case measure=>simp [intOf]; omega
  ·have hge:m≤i:=by omega
   have hno:∀ j,j < cs.length→¬ (cat cs j).1=c:=fun j hj=>HN.out j (by rw [← HM.out] at hj; omega)
   have HH:=fof_no hno
   have H2:Hid ((.returned (.tuple #[.slice none 0 0,.bool false]):Ending)=.returned (.tuple #[.slice (knA x cs c) (fof cs c).length (knC x cs c),.bool (cs.any fun x=>x.1==c)])):=by
    show (_:Ending)=_
    have e3:=kidx_no hno
    rw [HH.1,HH.2,knA,knC,e3,if_neg (by omega),if_neg (by omega)]; rfl
   clear hlt HH hno
   go_wp2
   go_ret2
   exact ⟨H2.out,rfl⟩
end Go.Proofs.YtbgilndohccicaaGreatDoor
namespace Go.Proofs.YtbgilndohccicaaGreatDoor
open Go.RowKit
set_option maxHeartbeats 400000 in
theorem rroot_any (x:Int) (w:World):Calls Tryz.prog 71 #[.int .i64 x] w fun e w'=>e=.returned (.bool (rtB x))∧w'=w:=by
 unfold rtB
 by_cases h:0≤x
 ·go_enter Tryz.func71,Tryz.ntmps71
  go_wp2
  go_ret
  exact ⟨by rw [decide_eq_true h]; simp; omega,rfl⟩
 ·go_enter Tryz.func71,Tryz.ntmps71
  go_wp2
  go_ret
  exact ⟨by rw [decide_eq_false (by omega)]; rfl,rfl⟩
theorem rroot_rs {x:Int} {w:World} (y:Bool) (hy:rtB x=y):Calls Tryz.prog 71 #[.int .i64 x] w fun e w'=>e=.returned (.bool y)∧w'=w:=by
 subst hy; exact rroot_any x w
theorem KC.drewN {w:World} {x:KX} {cs:Sch} (h:KC w x cs) (n:Nat):KC (w.drewN n) x cs:=h.keep (Nat.le_refl _) fun _ _=>rfl
structure RX where
 kx:KX
 ov:SV
 G:Nat→Nat
 Q:Nat→Nat
 nx:SV
 pd:Bool
 rd:Bool
 sp:Int
def objs (cs:Sch) (x:RX) (r:DH):List (Int×SV):=(List.range r.n).map fun o=>(r.K (o+1),⟨some ⟨x.G o,0,none⟩,(fof cs (r.K (o+1))).length,x.Q o⟩)
structure OB (w:World) (x:RX) (cs:Sch) (r:DH) (o:Nat):Prop where
 lt:x.G o < w.heap.size
 cell:∀ k,k < (fof cs (r.K (o+1))).length→w.cell? ⟨x.G o,k,none⟩=some (.int .i64 (r.C (o+1) k))
 frz:∀ k,w.frozen? ⟨x.G o,k,none⟩=false
structure RP (w:World) (rb:Nat) (x:RX) (cs:Sch) (sz:Int) (r:DH):Prop where
 c0:w.cell? ⟨rb,0,none⟩=some (.slice (some ⟨x.kx.g,0,none⟩) cs.length x.kx.cap)
 c1:w.cell? ⟨rb,1,none⟩=some (.int .i64 sz)
 c2:w.cell? ⟨rb,2,none⟩=some (.slice x.ov.a r.n x.ov.c)
 root:∀ i,i < 8→w.cell? ⟨rb,3+i,none⟩=some (.int .i64 (r.R i))
 c11:w.cell? ⟨rb,11,none⟩=some (.slice x.nx.a x.nx.n x.nx.c)
 c12:w.cell? ⟨rb,12,none⟩=some (.bool x.pd)
 c13:w.cell? ⟨rb,13,none⟩=some (.bool x.rd)
 c14:w.cell? ⟨rb,14,none⟩=some (.int .i64 x.sp)
 frz:∀ o,w.frozen? ⟨rb,o,none⟩=false
 kc:KC w x.kx cs
 own:w.ownsRow 0 113 2 (.slice x.ov.a r.n x.ov.c) r.n (flatC (objs cs x r))
 ob:∀ o,o < r.n→OB w x cs r o
 apart:∀ o o',o < r.n→o' < r.n→x.G o=x.G o'→o=o'
 nrb:∀ o,o < r.n→x.G o≠rb
 nov:∀ o,o < r.n→∀ g,x.ov.a=some ⟨g,0,none⟩→x.G o≠g
 nkx:∀ o,o < r.n→¬ x.kx.has cs (x.G o)
 rkx:¬ x.kx.has cs rb
 rov:∀ g,x.ov.a=some ⟨g,0,none⟩→rb≠g∧¬ x.kx.has cs g
theorem objs_len (cs:Sch) (x:RX) (r:DH):(objs cs x r).length=r.n:=by simp [objs]
theorem objs_get (cs:Sch) (x:RX) (r:DH) (o:Nat) (h:o < r.n):(objs cs x r)[o]?.getD noC=(r.K (o+1),⟨some ⟨x.G o,0,none⟩,(fof cs (r.K (o+1))).length,x.Q o⟩):=by
 simp [objs,List.getElem?_map,List.getElem?_range h]
structure OR (w:World) (g o:Nat) (k:Int) (b l c:Nat):Prop where
 c0:w.cell? ⟨g,o * 2,none⟩=some (.int .u8 k)
 c1:w.cell? ⟨g,o * 2+1,none⟩=some (.slice (some ⟨b,0,none⟩) l c)
theorem RP.lt {w:World} {rb:Nat} {x:RX} {cs:Sch} {sz:Int} {r:DH} (h:RP w rb x cs sz r):rb < w.heap.size:=World.block_lt_of_cell? w ⟨rb,1,none⟩ h.c1
theorem RP.row {w:World} {rb:Nat} {x:RX} {cs:Sch} {sz:Int} {r:DH} (h:RP w rb x cs sz r) (h0:0 < r.n) :
  ∃ g,x.ov.a=some ⟨g,0,none⟩∧g < w.heap.size∧∀ o,o < r.n→OR w g o (r.K (o+1)) (x.G o) (fof cs (r.K (o+1))).length (x.Q o):=by
 rcases h.own.2 with ⟨e,hn⟩ | ⟨g,cap,cur,e,_,hg,_⟩
 ·omega
 ·have ea:x.ov.a=some ⟨g,0,none⟩:=by injection e
  refine ⟨g,ea,(Array.getElem?_eq_some_iff.1 hg).1,fun o ho=>?_⟩
  have c:=World.ownsRow.cells h.own (g:=g) (by rw [ea]; rfl)
  have e:∀ j,(⟨g,0,none⟩:Addr).add j=⟨g,j,none⟩:=fun j=>by unfold Addr.add; split <;> simp_all
  have c0:=c (o * 2) _ (flatC_even (objs cs x r) o (by rw [objs_len]; exact ho))
  have c1:=c (o * 2+1) _ (flatC_odd (objs cs x r) o (by rw [objs_len]; exact ho))
  rw [e,objs_get cs x r o ho] at c0 c1
  exact ⟨c0,c1⟩
theorem row_keep {w w':World} {base:Nat} {e:TypeId} {size:Nat} {v:Value} {n:Nat} {xs:List Value} (h:w.ownsRow base e size v n xs) (hk:∀ g,v.ownBlock=some g→w'.heap[g]?=w.heap[g]?):w'.ownsRow base e size v n xs:=by
 obtain ⟨h1,h2⟩:=h
 refine ⟨h1,h2.imp id ?_⟩
 rintro ⟨g,cap,cur,rfl,h0,hg,r⟩
 exact ⟨g,cap,cur,rfl,h0,by rw [hk g rfl]; exact hg,r⟩
def RX.has (x:RX) (cs:Sch) (n rb b:Nat):Prop:=b=rb∨x.kx.has cs b∨(∃ g,x.ov.a=some ⟨g,0,none⟩∧b=g)∨∃ o,o < n∧b=x.G o
theorem RP.keep {w w':World} {rb:Nat} {x:RX} {cs:Sch} {sz:Int} {r:DH} (h:RP w rb x cs sz r) (hs:w.heap.size≤w'.heap.size) (e:∀ b,x.has cs r.n rb b→w'.heap[b]?=w.heap[b]?):RP w' rb x cs sz r:=by
 have eb:=e rb (.inl rfl)
 have ec:∀ o,w'.cell? ⟨rb,o,none⟩=w.cell? ⟨rb,o,none⟩:=fun o=>World.cell?_of_block (a:=⟨rb,o,none⟩) eb
 have ef:∀ o,w'.frozen? ⟨rb,o,none⟩=w.frozen? ⟨rb,o,none⟩:=fun o=>World.frozen?_of_block (a:=⟨rb,o,none⟩) eb
 refine ⟨by rw [ec]; exact h.c0,by rw [ec]; exact h.c1,by rw [ec]; exact h.c2,fun i hi=>by rw [ec]; exact h.root i hi,by rw [ec]; exact h.c11,by rw [ec]; exact h.c12,by rw [ec]; exact h.c13,by rw [ec]; exact h.c14,fun o=>by rw [ef]; exact h.frz o,
  h.kc.keep hs fun b hb=>e b (.inr (.inl hb)),row_keep h.own fun g hg=>e g (.inr (.inr (.inl ⟨g,?_,rfl⟩))),fun o ho=>?_,h.apart,h.nrb,h.nov,h.nkx,h.rkx,h.rov⟩
 ·rcases h.own.2 with ⟨e,hn⟩ | ⟨g',cap,cur,e,_,hg',_⟩
  ·rw [e] at hg; cases hg
  ·have ea:x.ov.a=some ⟨g',0,none⟩:=by injection e
   rw [ea] at hg ⊢
   have:g'=g:=by simpa [Value.ownBlock] using hg
   rw [this]
 ·have eo:=e (x.G o) (.inr (.inr (.inr ⟨o,ho,rfl⟩)))
  exact ⟨Nat.lt_of_lt_of_le (h.ob o ho).lt hs,fun k hk=>(World.cell?_of_block (a:=⟨x.G o,k,none⟩) eo).trans ((h.ob o ho).cell k hk),fun k=>(World.frozen?_of_block (a:=⟨x.G o,k,none⟩) eo).trans ((h.ob o ho).frz k)⟩
theorem RP.has_lt {w:World} {rb:Nat} {x:RX} {cs:Sch} {sz:Int} {r:DH} (h:RP w rb x cs sz r) {b:Nat} (hb:x.has cs r.n rb b):b < w.heap.size:=by
 rcases hb with rfl | hb | ⟨g,hg,rfl⟩ | ⟨o,ho,rfl⟩
 ·exact h.lt
 ·exact h.kc.has_lt hb
 ·rcases h.own.2 with ⟨e,hn⟩ | ⟨g',cap,cur,e,_,hg',_⟩
  ·have ea:x.ov.a=none:=by injection e
   rw [ea] at hg; cases hg
  ·have ea:x.ov.a=some ⟨g',0,none⟩:=by injection e
   rw [ea] at hg
   have:g'=b:=by injection hg with hg; injection hg
   subst this
   exact (Array.getElem?_eq_some_iff.1 hg').1
 ·exact (h.ob o ho).lt
theorem RP.below {w w':World} {rb:Nat} {x:RX} {cs:Sch} {sz:Int} {r:DH} (h:RP w rb x cs sz r) (hb:Below w.heap.size w w'):RP w' rb x cs sz r:=h.keep hb.size fun b hx=>hb.block b (h.has_lt hx)
end Go.Proofs.YtbgilndohccicaaGreatDoor
namespace Go.Proofs.YtbgilndohccicaaGreatDoor
open Go.RowKit
def fsel (ref:Bool) (f:FF):FF:=if ref=true then fref f else fnum f
def SpPost (f:FF) (w:World) (e:Ending) (w':World):Prop:=e=.returned (.tuple #[.int .i64 ((f.n - 1:Nat):Int),.int .i64 f.i,.int .i64 f.e])∧∃ n,w'=w.drewN n
theorem fsel_bad (ref:Bool) (x:Int) (h:x≠0):fsel ref ⟨0,0,0,x⟩=⟨0,0,0,x⟩:=by
 unfold fsel fref fnum; cases ref <;> simp [h]
theorem fsel_ok (ref:Bool) (n i:Nat) (k:Int):fsel ref ⟨n,i,k,0⟩=if decide (k=114)=ref then ⟨n,i,k,0⟩ else ⟨0,0,0,6⟩:=by
 unfold fsel fref fnum
 by_cases h:k=114 <;> cases ref <;> simp [h]
theorem ffind_of {cs:Sch} {R:Nat→Nat} {K:Nat→Int} {r:Nat} {letter:Int} (h8:r < 8) (h0:R r≠0):ffind cs R K r letter =
  if idxF (fof cs (K (R r))) letter < 0 then ⟨0,0,0,5⟩ else ⟨R r,(idxF (fof cs (K (R r))) letter).toNat,((fof cs (K (R r)))[(idxF (fof cs (K (R r))) letter).toNat]?.getD (0,0)).2,0⟩:=by
 have h1:¬ rtB (r:Int)=false:=by unfold rtB; simp; omega
 unfold ffind; rw [if_neg h1,Int.toNat_natCast,if_neg h0]
set_option maxRecDepth 20000 in
set_option maxHeartbeats 1000000 in
theorem spot_any (rb:Nat) (x:RX) (cs:Sch) (sz:Int) (r:DH) (w:World) (h:RP w rb x cs sz r) (hR:∀ i,i < 8→r.R i≤r.n) (hcs:cs.length≤1000) (h6:∀ c∈cs,c.2.length≤6) (hn:r.n≤4398046511104) (root name:Int) (ref:Bool) :
  Calls Tryz.prog 74 #[.pointer (some ⟨rb,0,none⟩),.int .i64 root,.int .u8 name,.bool ref] w (SpPost (fsel ref (ffind cs r.R r.K root name)) w):=by
 have hrb:=h.lt
 cases h1:rtB root with
 | false =>
  have e:ffind cs r.R r.K root name=⟨0,0,0,8⟩:=by unfold ffind; rw [if_pos h1]
  rw [e,fsel_bad ref 8 (by decide)]; clear e
  go_enter Tryz.func74,Tryz.ntmps74
  go_wp2_with (go_at_call 71; refine (rroot_rs false h1).mono ?_; rintro e w' ⟨rfl,rfl⟩)
  go_ret3
  exact ⟨rfl,0,rfl⟩
 | true =>
  obtain ⟨q,rfl,hq8⟩:=rtB_nat h1
  have cr:=h.root q hq8
  have hi:(0:Int)≤(q:Int)∧(q:Int) < 8:=by omega
  have hRq:=hR q hq8
  by_cases h2:r.R q=0
  ·have e:ffind cs r.R r.K q name=⟨0,0,0,9⟩:=by unfold ffind; rw [if_neg (by rw [h1]; decide),Int.toNat_natCast,if_pos h2]
   rw [e,fsel_bad ref 9 (by decide)]; clear e
   rw [h2] at cr
   go_enter Tryz.func74,Tryz.ntmps74
   go_wp2_with (go_at_call 71; refine (rroot_rs true h1).mono ?_; rintro e w' ⟨rfl,rfl⟩)
   go_ret3
   exact ⟨rfl,0,rfl⟩
  ·obtain ⟨o,ho⟩:∃ o,r.R q=o+1:=⟨r.R q - 1,by omega⟩
   have ho':o < r.n:=by omega
   rw [ho] at cr
   have cr':w.cell? ⟨rb,3+q,none⟩=some (.int .i64 ((o:Int)+1)):=by rw [cr]; simp
   obtain ⟨g,hga,hg,hrow⟩:=h.row (by omega)
   obtain ⟨o0,o1⟩:=hrow o ho'
   have c0:=h.c0
   have c2:=h.c2
   rw [hga] at c2
   have hob:(0:Int)≤(o:Int)∧(o:Int) < (r.n:Int):=by omega
   have hsb:((o:Int)+1) - 1=o:=by omega
   rw [ffind_of hq8 h2,ho]
   have hfl:=fof_le h6 (r.K (o+1))
   obtain ⟨fs,hfs⟩:∃ fs,fs=fof cs (r.K (o+1)):=⟨_,rfl⟩
   have FK:∀ W:World,KC W x.kx cs→Calls Tryz.prog 72 #[.slice (some ⟨x.kx.g,0,none⟩) cs.length x.kx.cap,.int .u8 (r.K (o+1))] W fun e w'=>e=.returned (.tuple #[.slice (knA x.kx cs (r.K (o+1))) fs.length (knC x.kx cs (r.K (o+1))),.bool (cs.any fun y=>y.1==r.K (o+1))])∧w'=W:=by
    intro W hW
    rw [hfs]
    exact known_any x.kx cs (r.K (o+1)) W hW hcs
   have KF0:=(h.kc.kf (r.K (o+1))).1
   rw [← hfs] at KF0
   have HKC:Hid (KC w x.kx cs):=h.kc
   rw [← hfs] at hfl ⊢
   clear cr hrow hfs h2 ho
   obtain ⟨m,hm⟩:∃ m,m=fs.length:=⟨_,rfl⟩
   rw [← hm] at FK hfl
   generalize knA x.kx cs (r.K (o+1))=fa at FK KF0
   generalize knC x.kx cs (r.K (o+1))=fcap at FK
   generalize x.kx.FG (kidx cs (r.K (o+1)))=fg at KF0
   have HKF:Hid (KF w fa fg fs):=KF0
   clear KF0
   have HM:Hid (m=fs.length):=hm
   clear hm
   obtain ⟨ff,hff⟩:∃ ff,ff=fsel ref (if idxF fs name < 0 then ⟨0,0,0,5⟩ else ⟨o+1,(idxF fs name).toNat,(fs[(idxF fs name).toNat]?.getD (0,0)).2,0⟩):=⟨_,rfl⟩
   rw [← hff]
   have HFF:Hid (ff=fsel ref (if idxF fs name < 0 then ⟨0,0,0,5⟩ else ⟨o+1,(idxF fs name).toNat,(fs[(idxF fs name).toNat]?.getD (0,0)).2,0⟩)):=hff
   clear hff
   go_enter Tryz.func74,Tryz.ntmps74
   go_wp2_with (go_at_call 71; refine (rroot_rs true h1).mono ?_; rintro e w' ⟨rfl,rfl⟩)
   go_quiet ((go_at_call 72; exact Calls.quiet_of_same (FK _ (HKC.out.drewN _))))
   ·clear FK HKC
    go_wp2
    go_loopw [15] (fun iv wr=>∃ k:Nat,k≤m∧iv=.int .i64 k∧Hid (∀ j,j < k→¬ (fs[j]?.getD (0,0)).1=name)∧∃ nd,wr=w'.drewN nd) (fun iv _=>m - (intOf iv).toNat)
    case atStart=>exact ⟨0,by omega,rfl,fun j h=>by omega,_,rfl⟩
    case round =>
     obtain ⟨k,hk,rfl,HN,nd,rfl⟩:=hrel
     by_cases hlt:k < m
     ·have hlt':k < fs.length:=by rw [← HM.out]; exact hlt
      obtain ⟨ea,hfg⟩:=HKF.out.a (by omega)
      obtain ⟨k0,k1⟩:=HKF.out.row k hlt'
      subst ea
      by_cases he:(fs[k]?.getD (0,0)).1=name
      ·have he':((fs[k]?.getD (0,0)).1==name)=true:=by simpa using he
       have hix:idxF fs name=k:=idxF_hit fs name k hlt' HN.out he'
       rw [he] at k0
       clear he'
       have HF2:=HFF.out
       rw [hix,if_neg (by omega),Int.toNat_natCast,fsel_ok] at HF2
       clear hix he
       obtain ⟨kd,hkd⟩:∃ kd,kd=(fs[k]?.getD (0,0)).2:=⟨_,rfl⟩
       rw [← hkd] at k1 HF2
       have HF3:Hid (ff=if decide (kd=114)=ref then ⟨o+1,k,kd,0⟩ else ⟨0,0,0,6⟩):=HF2
       clear hkd HF2
       by_cases hk114:kd=114
       ·subst hk114
        cases ref with
        | true =>
         go_wp2
         go_ret3
         exact ⟨by rw [HF3.out,if_pos (by decide)]; simp,_,rfl⟩
        | false =>
         go_wp2
         go_ret3
         exact ⟨by rw [HF3.out,if_neg (by decide)]; rfl,_,rfl⟩
       ·have hk':(kd==114)=false:=by simpa using hk114
        cases ref with
        | true =>
         go_wp2
         go_ret3
         exact ⟨by rw [HF3.out,if_neg (by simp [hk114])]; rfl,_,rfl⟩
        | false =>
         go_wp2
         go_ret3
         exact ⟨by rw [HF3.out,if_pos (by simp [hk114])]; simp,_,rfl⟩
      ·have he':((fs[k]?.getD (0,0)).1==name)=false:=by simpa using he
       have HN2:Hid (∀ j,j < k+1→¬ (fs[j]?.getD (0,0)).1=name):=no_step HN.out he'
       obtain ⟨nm,hnm⟩:∃ nm,nm=(fs[k]?.getD (0,0)).1:=⟨_,rfl⟩
       rw [← hnm] at k0 he'
       clear he hnm k1
       go_wp2
       go_roundw
       case rel=>exact ⟨k+1,by omega,by go_num,HN2,_,rfl⟩
       case measure=>simp [intOf]; omega
     ·have hge:m≤k:=by omega
      have hix:idxF fs name=-1:=idxF_none fs name (fun j hj=>HN.out j (by rw [← HM.out] at hj; omega))
      have HF3:Hid (ff=⟨0,0,0,5⟩):=by
       show _=_
       rw [HFF.out,hix,if_pos (by decide),fsel_bad ref 5 (by decide)]
      clear hlt hix
      go_wp2
      go_ret3
      exact ⟨by rw [HF3.out]; rfl,_,rfl⟩
end Go.Proofs.YtbgilndohccicaaGreatDoor
