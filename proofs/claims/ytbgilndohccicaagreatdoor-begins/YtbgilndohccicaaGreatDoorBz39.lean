import Derived.Test.YtbgilndohccicaaGreatDoorBz37
import Derived.Test.YtbgilndohccicaaGreatDoorBz38
namespace Go.Proofs.YtbgilndohccicaaGreatDoor
open Go.RowKit
theorem flds_first {s:ByteArray} {fs:List (Int×Int)} (K:KP fs):∀ (gf:List GFd) (gs:List GU) (lo hi:Nat),FMs s lo hi gf gs→hi≤s.size→Fst (fun i=>jFs fs (i:Nat) gs) (lo+4) hi (gFlds fs gf):=by
 intro gf
 induction gf with
 | nil =>
  intro gs lo hi h _
  cases gs with
  | nil=>exact ⟨fun i h=>absurd rfl h,fun _ _=>rfl,fun h=>absurd rfl h⟩
  | cons g gs=>exact h.elim
 | cons f gf ih =>
  intro gs lo hi h hh
  cases gs with
  | nil=>exact h.elim
  | cons g gs =>
   obtain ⟨k,e,h1,h2,h3⟩:=h
   have hle:=FMs_le h3
   have hle2:=h2.le
   have A:=fld_first K h2 (by omega)
   have B:=ih gs e hi h3 hh
   have hJ:∀ i:Nat,jFs fs (i:Nat) (g :: gs)=if jF1 fs (i:Nat) g≠0 then jF1 fs (i:Nat) g else jFs fs (i:Nat) gs:=fun i=>rfl
   refine ⟨fun i hi'=>?_,fun hG i=>?_,fun hG=>?_⟩
   ·have hi'':jFs fs (i:Nat) (g :: gs)≠0:=hi'
    rw [hJ] at hi''
    by_cases hc:jF1 fs (i:Nat) g≠0
    ·have:=A.sup i hc; omega
    ·rw [if_neg hc] at hi''
     have:=B.sup i hi''; omega
   ·show jFs fs (i:Nat) (g :: gs)=0
    rw [gFlds] at hG
    by_cases hc:(fFld fs f).1≠0
    ·rw [if_pos hc] at hG; exact absurd hG hc
    ·rw [if_neg hc] at hG
     have a0:jF1 fs (i:Nat) g=0:=A.none_ (by simpa using hc) i
     rw [hJ,if_neg (by simpa using a0)]
     exact B.none_ hG i
   ·rw [gFlds] at hG ⊢
    by_cases hc:(fFld fs f).1≠0
    ·rw [if_pos hc] at hG ⊢
     obtain ⟨i,i1,i2,i3⟩:=A.some_ hc
     have i2':jF1 fs (i:Nat) g=(fFld fs f).1:=i2
     have hs:=A.sup i (by show jF1 fs (i:Nat) g≠0; rw [i2']; exact hc)
     refine ⟨i,i1,?_,fun i' hi'=>?_⟩
     ·show jFs fs (i:Nat) (g :: gs)=_
      rw [hJ,if_pos (by rw [i2']; exact hc)]; exact i2
     ·show jFs fs (i':Nat) (g :: gs)=0
      have a0:jF1 fs (i':Nat) g=0:=i3 i' hi'
      rw [hJ,if_neg (by simpa using a0)]
      apply Classical.byContradiction
      intro hb
      have:=B.sup i' hb; omega
    ·rw [if_neg hc] at hG ⊢
     obtain ⟨i,i1,i2,i3⟩:=B.some_ hG
     have a0:∀ i:Nat,jF1 fs (i:Nat) g=0:=A.none_ (by simpa using hc)
     refine ⟨i,i1,?_,fun i' hi'=>?_⟩
     ·show jFs fs (i:Nat) (g :: gs)=_
      rw [hJ,if_neg (by simpa using a0 i)]; exact i2
     ·show jFs fs (i':Nat) (g :: gs)=0
      rw [hJ,if_neg (by simpa using a0 i')]; exact i3 i' hi'
def gC1 (os:Sch) (c:GCd):Int×Int:=if c.fl≠0∧hasC (vsO os) (srcI (vsO os) c.l c.fl)=false then (4,c.fp) else gFlds (fof os (srcI (vsO os) c.l c.fl)) c.fs
theorem cls_first {s:ByteArray} {os:Sch} (K:∀ x,KP (fof os x)) {k e:Nat} {c:GCd} {h:HC} (C:CM s k e c h) (he:e≤s.size):Fst (fun i=>jC os h (i:Nat)) k e (gC1 os c):=by
 have B:=flds_first (K (srcI (vsO os) c.l c.fl)) c.fs h.l (k+2) e C.fs he
 have hle:=C.le
 unfold gC1
 by_cases h0:c.fl=0
 ·rw [if_neg (fun h'=>h'.1 h0)]
  have hJ:∀ i:Nat,jC os h (i:Nat)=jFs (fof os (srcI (vsO os) c.l c.fl)) (i:Nat) h.l:=by
   intro i; unfold jC; rw [if_neg (fun h'=>h'.1 (by rw [C.s_]; exact h0)),C.n,C.s_]
  refine ⟨fun i hi=>?_,fun hG i=>?_,fun hG=>?_⟩
  ·have hi':jC os h (i:Nat)≠0:=hi
   rw [hJ] at hi'
   have:=B.sup i hi'; omega
  ·show jC os h (i:Nat)=0
   rw [hJ]; exact B.none_ hG i
  ·obtain ⟨i,i1,i2,i3⟩:=B.some_ hG
   exact ⟨i,i1,by show jC os h (i:Nat)=_; rw [hJ]; exact i2,fun i' hi'=>by show jC os h (i':Nat)=0; rw [hJ]; exact i3 i' hi'⟩
 ·have hs:srcI (vsO os) c.l c.fl=c.fl:=by unfold srcI; rw [if_pos h0]
  obtain ⟨hsa,hfp⟩:=C.src h0
  rw [hs] at B ⊢
  have hb2:jFs (fof os c.fl) ((k+2:Nat):Int) h.l=0:=by
   apply Classical.byContradiction
   intro hb
   have:=B.sup (k+2) hb; omega
  have hJ:∀ i:Nat,jC os h (i:Nat)=if i=k+2 then (if hasC (vsO os) c.fl=true then 0 else 4) else jFs (fof os c.fl) (i:Nat) h.l:=by
   intro i
   unfold jC
   rw [C.s_,C.n,hs,hsa]
   by_cases hi:i=k+2
   ·rw [if_pos ⟨h0,by rw [hi]⟩,if_pos hi]
   ·rw [if_neg (fun h'=>hi (by have:=h'.2; omega)),if_neg hi]
  by_cases hh:hasC (vsO os) c.fl=true
  ·rw [if_neg (fun h'=>by rw [hh] at h'; exact absurd h'.2 (by decide))]
   have hJ2:∀ i:Nat,jC os h (i:Nat)=jFs (fof os c.fl) (i:Nat) h.l:=by
    intro i
    rw [hJ]
    by_cases hi:i=k+2
    ·rw [if_pos hi,if_pos hh,hi,hb2]
    ·rw [if_neg hi]
   refine ⟨fun i hi=>?_,fun hG i=>?_,fun hG=>?_⟩
   ·have hi':jC os h (i:Nat)≠0:=hi
    rw [hJ2] at hi'
    have:=B.sup i hi'; omega
   ·show jC os h (i:Nat)=0
    rw [hJ2]; exact B.none_ hG i
   ·obtain ⟨i,i1,i2,i3⟩:=B.some_ hG
    exact ⟨i,i1,by show jC os h (i:Nat)=_; rw [hJ2]; exact i2,fun i' hi'=>by show jC os h (i':Nat)=0; rw [hJ2]; exact i3 i' hi'⟩
  ·rw [if_pos ⟨h0,by simpa using hh⟩]
   have hke:k+2 < e∨k+2=e:=by omega
   refine ⟨fun i hi=>?_,fun hG=>absurd hG (by show ¬ (4:Int)=0; decide),fun _=>⟨k+2,hfp,?_,fun i' hi'=>?_⟩⟩
   ·have hi':jC os h (i:Nat)≠0:=hi
    rw [hJ] at hi'
    by_cases hi2:i=k+2
    ·rcases hke with h' | h'
     ·omega
     ·exact absurd (C.srclt h0) (by omega)
    ·rw [if_neg hi2] at hi'
     have:=B.sup i hi'; omega
   ·show jC os h ((k+2:Nat):Int)=4
    rw [hJ,if_pos rfl,if_neg hh]
   ·show jC os h (i':Nat)=0
    rw [hJ,if_neg (by omega)]
    apply Classical.byContradiction
    intro hb
    have:=B.sup i' hb; omega
def jAll (os:Sch) (i:Nat):List HC→Int
 | []=>0
 | h :: r=>if jC os h (i:Nat)≠0 then jC os h (i:Nat) else jAll os i r
theorem gFault_cons (os:Sch) (c:GCd) (r:List GCd):gFault (vsO os) os (c :: r)=if (gC1 os c).1≠0 then gC1 os c else gFault (vsO os) os r:=by
 rw [gFault]
 unfold gC1
 by_cases h:c.fl≠0∧hasC (vsO os) (srcI (vsO os) c.l c.fl)=false
 ·rw [if_pos h,if_pos h,if_pos (by show (4:Int)≠0; decide)]
 ·rw [if_neg h,if_neg h]
theorem all_first {s:ByteArray} {os:Sch} (K:∀ x,KP (fof os x)):∀ (cs:List GCd) (hs:List HC) (lo hi:Nat),CMs s lo hi cs hs→hi≤s.size→Fst (fun i=>jAll os i hs) lo hi (gFault (vsO os) os cs):=by
 intro cs
 induction cs with
 | nil =>
  intro hs lo hi h _
  cases hs with
  | nil=>exact ⟨fun i h=>absurd rfl h,fun _ _=>rfl,fun h=>absurd rfl h⟩
  | cons g gs=>exact h.elim
 | cons c cs ih =>
  intro hs lo hi h hh
  cases hs with
  | nil=>exact h.elim
  | cons g gs =>
   obtain ⟨k,e,h1,h2,h3⟩:=h
   have hle:=CMs_le h3
   have hle2:=h2.le
   have A:=cls_first K h2 (by omega)
   have B:=ih gs (e+1) hi h3 hh
   have hJ:∀ i:Nat,jAll os i (g :: gs)=if jC os g (i:Nat)≠0 then jC os g (i:Nat) else jAll os i gs:=fun i=>rfl
   rw [gFault_cons]
   refine ⟨fun i hi'=>?_,fun hG i=>?_,fun hG=>?_⟩
   ·have hi'':jAll os i (g :: gs)≠0:=hi'
    rw [hJ] at hi''
    by_cases hc:jC os g (i:Nat)≠0
    ·have:=A.sup i hc; omega
    ·rw [if_neg hc] at hi''
     have:=B.sup i hi''; omega
   ·show jAll os i (g :: gs)=0
    by_cases hc:(gC1 os c).1≠0
    ·rw [if_pos hc] at hG; exact absurd hG hc
    ·rw [if_neg hc] at hG
     have a0:jC os g (i:Nat)=0:=A.none_ (by simpa using hc) i
     rw [hJ,if_neg (by simpa using a0)]
     exact B.none_ hG i
   ·by_cases hc:(gC1 os c).1≠0
    ·rw [if_pos hc] at hG ⊢
     obtain ⟨i,i1,i2,i3⟩:=A.some_ hc
     have i2':jC os g (i:Nat)=(gC1 os c).1:=i2
     have hs:=A.sup i (by show jC os g (i:Nat)≠0; rw [i2']; exact hc)
     refine ⟨i,i1,?_,fun i' hi'=>?_⟩
     ·show jAll os i (g :: gs)=_
      rw [hJ,if_pos (by rw [i2']; exact hc)]; exact i2
     ·show jAll os i' (g :: gs)=0
      have a0:jC os g (i':Nat)=0:=i3 i' hi'
      rw [hJ,if_neg (by simpa using a0)]
      apply Classical.byContradiction
      intro hb
      have:=B.sup i' hb; omega
    ·rw [if_neg hc] at hG ⊢
     obtain ⟨i,i1,i2,i3⟩:=B.some_ hG
     have a0:∀ i:Nat,jC os g (i:Nat)=0:=A.none_ (by simpa using hc)
     refine ⟨i,i1,?_,fun i' hi'=>?_⟩
     ·show jAll os i (g :: gs)=_
      rw [hJ,if_neg (by simpa using a0 i)]; exact i2
     ·show jAll os i' (g :: gs)=0
      rw [hJ,if_neg (by simpa using a0 i')]; exact i3 i' hi'
theorem jAll_zero {os:Sch} {i:Nat}:∀ {hs:List HC},(∀ c∈hs,jC os c (i:Nat)=0)→jAll os i hs=0:=by
 intro hs
 induction hs with
 | nil=>intro _; rfl
 | cons h r ih =>
  intro hz
  rw [jAll,if_neg (by simpa using hz h (List.mem_cons_self ..))]
  exact ih fun c hc=>hz c (List.mem_cons_of_mem _ hc)
theorem jAll_hit {os:Sch} {i:Nat} {E:Int} (hE:E≠0):∀ {hs:List HC} {k:Nat} {c:HC},hs[k]?=some c→jC os c (i:Nat)=E→(∀ (k':Nat) c',k' < k→hs[k']?=some c'→jC os c' (i:Nat)=0)→jAll os i hs=E:=by
 intro hs
 induction hs with
 | nil=>intro k c h; simp at h
 | cons h r ih =>
  intro k c hk hc hb
  cases k with
  | zero =>
   simp at hk
   subst hk
   rw [jAll,if_pos (by rw [hc]; exact hE)]; exact hc
  | succ k =>
   rw [jAll,if_neg (by have:=hb 0 h (by omega) rfl; simpa using this)]
   exact ih (by simpa using hk) hc fun k' c' h1 h2=>hb (k'+1) c' (by omega) (by simpa using h2)
theorem first_agree {s:ByteArray} {os:Sch} (K:∀ x,KP (fof os x)) {cs:List GCd} {hs:List HC} (C:CMs s 0 s.size cs hs) {E P:Int} (h:FirstF os hs s.size E P) :
  E=(gFault (vsO os) os cs).1∧P=if (gFault (vsO os) os cs).1≠0 then (gFault (vsO os) os cs).2 else 0:=by
 have A:=all_first K cs hs 0 s.size C (Nat.le_refl _)
 generalize gFault (vsO os) os cs=G at A ⊢
 rcases h with ⟨hE,i,k,c,hi,rfl,hk,hc,hb,hz⟩ | ⟨rfl,rfl,hz⟩
 ·have hJ:=jAll_hit hE hk hc hb
  have hJ0:∀ i',i' < i→jAll os i' hs=0:=fun i' hi'=>jAll_zero (hz i' hi')
  have hG:G.1≠0:=fun h=>hE (by rw [← hJ]; exact A.none_ h i)
  obtain ⟨i0,j1,j2,j3⟩:=A.some_ hG
  have j2':jAll os i0 hs=G.1:=j2
  have:i=i0:=by
   rcases Nat.lt_trichotomy i i0 with h | h | h
   ·exact absurd (j3 i h) (by show jAll os i hs≠0; rw [hJ]; exact hE)
   ·exact h
   ·exact absurd (hJ0 i0 h) (by rw [j2']; exact hG)
  subst this
  exact ⟨by rw [← hJ,j2'],by rw [if_pos hG,j1]⟩
 ·have hG:G.1=0:=by
   apply Classical.byContradiction
   intro hG
   obtain ⟨i0,j1,j2,j3⟩:=A.some_ hG
   have j2':jAll os i0 hs=G.1:=j2
   have hs':=A.sup i0 (by show jAll os i0 hs≠0; rw [j2']; exact hG)
   rw [jAll_zero (hz i0 hs'.2)] at j2'
   exact hG j2'.symm
  exact ⟨hG.symm,by rw [if_neg (by simpa using hG)]⟩
theorem Uq.kp {os:Sch} (h:Uq os) (x:Int):KP (fof os x):=by
 have key:∀ y,(kdF (fof os x) y).2=true→(kdF (fof os x) y).1≠0∧isLw y=true:=by
  intro y hy
  by_cases hex:∃ i,i < os.length∧(cat os i).1=x
  ·obtain ⟨i,hi,hc⟩:=hex
   have hf:=(fof_hit hi hc (fun j hj h'=>by have:=h.c j i (by omega) hi (h'.trans hc.symm); omega)).1
   rw [hf] at hy ⊢
   unfold kdF at hy ⊢
   split at hy
   ·cases hy
   ·rename_i h0
    rw [if_neg h0]
    unfold idxF at h0 ⊢
    cases he:(cat os i).2.findIdx? (fun p=>p.1==y) with
    | none=>rw [he] at h0; simp at h0
    | some j =>
     rw [he] at h0
     simp only [Int.toNat_natCast]
     rw [List.findIdx?_eq_some_iff_getElem] at he
     obtain ⟨hj,e1,_⟩:=he
     have hp:=h.p i j hi hj
     have hl:=h.l i j hi hj
     have e2:(cat os i).2[j]?.getD (0,0)=(cat os i).2[j]:=by rw [List.getElem?_eq_getElem hj]; rfl
     rw [e2] at hp hl ⊢
     have e3:(cat os i).2[j].1=y:=by simpa using e1
     rw [e3] at hl
     exact ⟨by omega,hl⟩
  ·rw [(fof_no (c:=x) fun j hj hc=>hex ⟨j,hj,hc⟩).1] at hy
   cases hy
 exact ⟨fun y hy=>(key y hy).1,fun y hy=>(key y hy).2⟩
end Go.Proofs.YtbgilndohccicaaGreatDoor
namespace Go.Proofs.YtbgilndohccicaaGreatDoor
open Go.RowKit
def WF (p:Int):List Int→List GU→Prop
 | _,[]=>False
 | ls,g :: r=>(g.n∈ls∧p=g.p)∨WF p (ls++[g.n]) r
def W1 (p:Int):List Int→List HC→Prop
 | _,[]=>False
 | ls,h :: r=>(h.n∈ls∧p=h.p)∨WF p [] h.l∨W1 p (ls++[h.n]) r
def W2 (os:Sch) (p:Int):List Int→List HC→Prop
 | _,[]=>False
 | ls,h :: r=>(srcI (vsO os) h.n h.s≠0∧srcI (vsO os) h.n h.s∈ls∧p=h.p)∨W2 os p (ls++[srcI (vsO os) h.n h.s]) r
theorem any_mem (ls:List Int) (x:Int):ls.any (fun p=>p==x)=true↔x∈ls:=by
 rw [List.any_eq_true]
 constructor
 ·rintro ⟨y,hy,h⟩; rw [beq_iff_eq] at h; rw [← h]; exact hy
 ·intro h; exact ⟨x,h,by simp⟩
theorem fms_pos {s:ByteArray}:∀ {fs:List GFd} {gs:List GU} {lo hi:Nat},FMs s lo hi fs gs→okP fs:=by
 intro fs
 induction fs with
 | nil=>intro gs lo hi _ f hf; simp at hf
 | cons f fs ih=>intro gs lo hi h; cases gs with
  | nil=>exact h.elim
  | cons g gs =>
   obtain ⟨k,e,h1,h2,h3⟩:=h
   intro f' hf'
   rcases List.mem_cons.1 hf' with rfl | hf'
   ·rw [h2.p]; omega
   ·exact ih h3 f' hf'
theorem wf_least {s:ByteArray}:∀ (fs:List GFd) (gs:List GU) (lo hi:Nat) (ls:List Int),FMs s lo hi fs gs→Least (fun p=>WF p ls gs) ((twFs ls fs).getD (-1))∧∀ p,WF p ls gs→(lo:Int)≤p∧p < hi:=by
 intro fs
 induction fs with
 | nil =>
  intro gs lo hi ls h
  cases gs with
  | nil=>exact ⟨.inl ⟨rfl,fun p h=>h⟩,fun p h=>h.elim⟩
  | cons g gs=>exact h.elim
 | cons f fs ih =>
  intro gs lo hi ls h
  cases gs with
  | nil=>exact h.elim
  | cons g gs =>
   obtain ⟨k,e,h1,h2,h3⟩:=h
   have hle:=FMs_le h3
   have hle2:=h2.le
   obtain ⟨I1,I2⟩:=ih gs e hi (ls++[f.l]) h3
   have hn:=h2.n
   have hgp:=h2.gp
   have hp:=h2.p
   have hW:∀ p,WF p ls (g :: gs)↔(f.l∈ls∧p=(k:Int))∨WF p (ls++[f.l]) gs:=fun p=>by rw [WF,hn,hgp]
   refine ⟨?_,fun p hpp=>?_⟩
   ·rw [twFs]
    by_cases hc:ls.any (fun p=>p==f.l)=true
    ·rw [if_pos hc]
     refine .inr ⟨by rw [hp]; simp,(hW _).2 (.inl ⟨(any_mem _ _).1 hc,by rw [hp]; rfl⟩),fun p hpp=>?_⟩
     rcases (hW p).1 hpp with ⟨_,rfl⟩ | h
     ·rw [hp]; exact Int.le_refl _
     ·have:=(I2 p h).1; rw [hp]; simp only [Option.getD_some]; omega
    ·rw [if_neg hc]
     refine I1.congr fun p=>?_
     rw [hW]
     exact ⟨.inr,fun h=>h.elim (fun h=>absurd ((any_mem _ _).2 h.1) hc) id⟩
   ·rcases (hW p).1 hpp with ⟨_,rfl⟩ | h
    ·omega
    ·have:=I2 p h; omega
theorem w1_least {s:ByteArray}:∀ (cs:List GCd) (hs:List HC) (lo hi:Nat) (ls:List Int),CMs s lo hi cs hs→Least (fun p=>W1 p ls hs) ((twCs ls cs).getD (-1))∧∀ p,W1 p ls hs→(lo:Int)≤p:=by
 intro cs
 induction cs with
 | nil =>
  intro hs lo hi ls h
  cases hs with
  | nil=>exact ⟨.inl ⟨rfl,fun p h=>h⟩,fun p h=>h.elim⟩
  | cons g gs=>exact h.elim
 | cons c cs ih =>
  intro hs lo hi ls h
  cases hs with
  | nil=>exact h.elim
  | cons g gs =>
   obtain ⟨k,e,h1,h2,h3⟩:=h
   have hle2:=h2.le
   obtain ⟨I1,I2⟩:=ih gs (e+1) hi (ls++[c.l]) h3
   obtain ⟨F1,F2⟩:=wf_least c.fs g.l (k+2) e [] h2.fs
   have hn:=h2.n
   have hgp:=h2.hp
   have hp:=h2.p
   have hW:∀ p,W1 p ls (g :: gs)↔(c.l∈ls∧p=(k:Int))∨WF p [] g.l∨W1 p (ls++[c.l]) gs:=fun p=>by rw [W1,hn,hgp]
   refine ⟨?_,fun p hpp=>?_⟩
   ·rw [twCs]
    by_cases hc:ls.any (fun p=>p==c.l)=true
    ·rw [if_pos hc]
     refine .inr ⟨by rw [hp]; simp,(hW _).2 (.inl ⟨(any_mem _ _).1 hc,by rw [hp]; rfl⟩),fun p hpp=>?_⟩
     simp only [Option.getD_some]
     rcases (hW p).1 hpp with ⟨_,rfl⟩ | h | h
     ·omega
     ·have:=(F2 p h).1; omega
     ·have:=I2 p h; omega
    ·rw [if_neg hc]
     cases hf:twFs [] c.fs with
     | some q =>
      rw [hf] at F1
      simp only [Option.getD_some] at F1 ⊢
      rcases F1 with ⟨f1,f2⟩ | ⟨f1,f2,f3⟩
      ·exfalso
       have hpos:=twFs_pos hf (fms_pos h2.fs)
       omega
      ·refine .inr ⟨f1,(hW q).2 (.inr (.inl f2)),fun p hpp=>?_⟩
       have hq:=(F2 q f2).2
       rcases (hW p).1 hpp with ⟨h,_⟩ | h | h
       ·exact absurd ((any_mem _ _).2 h) hc
       ·exact f3 p h
       ·have:=I2 p h; omega
     | none =>
      rw [hf] at F1
      simp only [Option.getD_none] at F1 ⊢
      have fno:∀ p,¬ WF p [] g.l:=by
       rcases F1 with ⟨_,f2⟩ | ⟨f1,_⟩
       ·exact f2
       ·omega
      refine I1.congr fun p=>?_
      rw [hW]
      exact ⟨fun h=>.inr (.inr h),fun h=>h.elim (fun h=>absurd ((any_mem _ _).2 h.1) hc) fun h=>h.elim (fun h=>absurd h (fno p)) id⟩
   ·rcases (hW p).1 hpp with ⟨_,rfl⟩ | h | h
    ·omega
    ·have:=(F2 p h).1; omega
    ·have:=I2 p h; omega
theorem w2_least {s:ByteArray} (os:Sch):∀ (cs:List GCd) (hs:List HC) (lo hi:Nat) (ls:List Int),CMs s lo hi cs hs→Least (fun p=>W2 os p ls hs) (stw (vsO os) ls cs)∧∀ p,W2 os p ls hs→(lo:Int)≤p:=by
 intro cs
 induction cs with
 | nil =>
  intro hs lo hi ls h
  cases hs with
  | nil=>exact ⟨.inl ⟨rfl,fun p h=>h⟩,fun p h=>h.elim⟩
  | cons g gs=>exact h.elim
 | cons c cs ih =>
  intro hs lo hi ls h
  cases hs with
  | nil=>exact h.elim
  | cons g gs =>
   obtain ⟨k,e,h1,h2,h3⟩:=h
   have hle2:=h2.le
   obtain ⟨I1,I2⟩:=ih gs (e+1) hi (ls++[srcI (vsO os) c.l c.fl]) h3
   have hp:=h2.p
   have hW:∀ p,W2 os p ls (g :: gs)↔(srcI (vsO os) c.l c.fl≠0∧srcI (vsO os) c.l c.fl∈ls∧p=(k:Int))∨W2 os p (ls++[srcI (vsO os) c.l c.fl]) gs:=fun p=>by rw [W2,h2.n,h2.s_,h2.hp]
   refine ⟨?_,fun p hpp=>?_⟩
   ·rw [stw]
    by_cases hc:srcI (vsO os) c.l c.fl≠0∧ls.any (fun p=>p==srcI (vsO os) c.l c.fl)=true
    ·rw [if_pos hc]
     refine .inr ⟨by rw [hp]; simp,(hW _).2 (.inl ⟨hc.1,(any_mem _ _).1 hc.2,hp⟩),fun p hpp=>?_⟩
     rcases (hW p).1 hpp with ⟨_,_,rfl⟩ | h
     ·rw [hp]; exact Int.le_refl _
     ·have:=I2 p h; rw [hp]; omega
    ·rw [if_neg hc]
     refine I1.congr fun p=>?_
     rw [hW]
     exact ⟨.inr,fun h=>h.elim (fun h=>absurd ⟨h.1,(any_mem _ _).2 h.2.1⟩ hc) id⟩
   ·rcases (hW p).1 hpp with ⟨_,_,rfl⟩ | h
    ·omega
    ·have:=I2 p h; omega
theorem both_least {V1 V2:Int→Prop} {a b:Int} (h1:Least V1 a) (h2:Least V2 b):Least (fun p=>V1 p∨V2 p) (if a=-1∨(b≠-1∧b < a) then b else a):=by
 rcases h1 with ⟨a1,a2⟩ | ⟨a1,a2,a3⟩
 ·rw [if_pos (.inl a1)]
  exact h2.congr fun p=>⟨.inr,fun h=>h.elim (fun h=>absurd h (a2 p)) id⟩
 ·rcases h2 with ⟨b1,b2⟩ | ⟨b1,b2,b3⟩
  ·rw [if_neg (by rintro (h | ⟨h,_⟩); omega; exact h b1)]
   exact .inr ⟨a1,.inl a2,fun p h=>h.elim (a3 p) fun h=>absurd h (b2 p)⟩
  ·by_cases hc:b < a
   ·rw [if_pos (.inr ⟨by omega,hc⟩)]
    exact .inr ⟨b1,.inr b2,fun p h=>h.elim (fun h=>by have:=a3 p h; omega) (b3 p)⟩
   ·rw [if_neg (by rintro (h | ⟨_,h⟩); omega; exact hc h)]
    exact .inr ⟨a1,.inl a2,fun p h=>h.elim (a3 p) fun h=>by have:=b3 p h; omega⟩
theorem wf_iff (p:Int):∀ (gs:List GU) (ls:List Int),WF p ls gs↔∃ i,i < gs.length∧((gs[i]?.getD noGU).n∈ls∨∃ k,k < i∧(gs[i]?.getD noGU).n=(gs[k]?.getD noGU).n)∧p=(gs[i]?.getD noGU).p:=by
 intro gs
 induction gs with
 | nil=>intro ls; exact ⟨fun h=>h.elim,fun ⟨i,hi,_⟩=>by simp at hi⟩
 | cons g gs ih =>
  intro ls
  rw [WF,ih]
  constructor
  ·rintro (⟨h1,h2⟩ | ⟨i,hi,h1,h2⟩)
   ·exact ⟨0,by simp,.inl h1,h2⟩
   ·refine ⟨i+1,by simp; omega,?_,by simpa using h2⟩
    simp only [List.getElem?_cons_succ]
    rcases h1 with h1 | ⟨k,hk,h1⟩
    ·rcases List.mem_append.1 h1 with h1 | h1
     ·exact .inl h1
     ·simp at h1; exact .inr ⟨0,by omega,by simpa using h1⟩
    ·exact .inr ⟨k+1,by omega,by simpa using h1⟩
  ·rintro ⟨i,hi,h1,h2⟩
   cases i with
   | zero =>
    left
    rcases h1 with h1 | ⟨k,hk,_⟩
    ·exact ⟨h1,h2⟩
    ·omega
   | succ i =>
    right
    simp only [List.getElem?_cons_succ] at h1 h2
    refine ⟨i,by simpa using hi,?_,h2⟩
    rcases h1 with h1 | ⟨k,hk,h1⟩
    ·exact .inl (List.mem_append_left _ h1)
    ·cases k with
     | zero=>left; rw [h1]; simp
     | succ k=>exact .inr ⟨k,by omega,by simpa using h1⟩
theorem w_iff (os:Sch) (p:Int):∀ (hs:List HC) (ls ms:List Int),(W1 p ls hs∨W2 os p ms hs)↔∃ i,i < hs.length ∧
  ((((hs[i]?.getD noHC).n∈ls∨(srcI (vsO os) (hs[i]?.getD noHC).n (hs[i]?.getD noHC).s≠0∧srcI (vsO os) (hs[i]?.getD noHC).n (hs[i]?.getD noHC).s∈ms) ∨
   ∃ k,k < i∧((hs[i]?.getD noHC).n=(hs[k]?.getD noHC).n∨(srcI (vsO os) (hs[i]?.getD noHC).n (hs[i]?.getD noHC).s≠0∧srcI (vsO os) (hs[i]?.getD noHC).n (hs[i]?.getD noHC).s=srcI (vsO os) (hs[k]?.getD noHC).n (hs[k]?.getD noHC).s)))∧p=((hs[i]?.getD noHC).p:Int))∨WF p [] (hs[i]?.getD noHC).l):=by
 intro hs
 induction hs with
 | nil=>intro ls ms; exact ⟨fun h=>h.elim (fun h=>h.elim) fun h=>h.elim,fun ⟨i,hi,_⟩=>by simp at hi⟩
 | cons h hs ih =>
  intro ls ms
  have I:=ih (ls++[h.n]) (ms++[srcI (vsO os) h.n h.s])
  rw [W1,W2]
  constructor
  ·intro hh
   have hr:((h.n∈ls∨(srcI (vsO os) h.n h.s≠0∧srcI (vsO os) h.n h.s∈ms))∧p=(h.p:Int))∨WF p [] h.l∨(W1 p (ls++[h.n]) hs∨W2 os p (ms++[srcI (vsO os) h.n h.s]) hs):=by
    rcases hh with (⟨a,b⟩ | a | a) | ⟨a,b,c⟩ | a
    ·exact .inl ⟨.inl a,b⟩
    ·exact .inr (.inl a)
    ·exact .inr (.inr (.inl a))
    ·exact .inl ⟨.inr ⟨a,b⟩,c⟩
    ·exact .inr (.inr (.inr a))
   rcases hr with ⟨a,b⟩ | a | a
   ·refine ⟨0,by simp,.inl ⟨?_,b⟩⟩
    rcases a with a | a
    ·exact .inl a
    ·exact .inr (.inl a)
   ·exact ⟨0,by simp,.inr a⟩
   ·obtain ⟨i,hi,h1⟩:=I.1 a
    refine ⟨i+1,by simp; omega,?_⟩
    simp only [List.getElem?_cons_succ]
    rcases h1 with ⟨h1,h2⟩ | h1
    ·left
     refine ⟨?_,h2⟩
     rcases h1 with h1 | ⟨h1,h3⟩ | ⟨k,hk,h1⟩
     ·rcases List.mem_append.1 h1 with h1 | h1
      ·exact .inl h1
      ·simp at h1; exact .inr (.inr ⟨0,by omega,.inl (by simpa using h1)⟩)
     ·rcases List.mem_append.1 h3 with h3 | h3
      ·exact .inr (.inl ⟨h1,h3⟩)
      ·simp at h3; exact .inr (.inr ⟨0,by omega,.inr ⟨h1,by simpa using h3⟩⟩)
     ·exact .inr (.inr ⟨k+1,by omega,by simpa using h1⟩)
    ·exact .inr h1
  ·rintro ⟨i,hi,h1⟩
   cases i with
   | zero =>
    rcases h1 with ⟨h1,h2⟩ | h1
    ·rcases h1 with h1 | h1 | ⟨k,hk,_⟩
     ·exact .inl (.inl ⟨h1,h2⟩)
     ·exact .inr (.inl ⟨h1.1,h1.2,h2⟩)
     ·omega
    ·exact .inl (.inr (.inl h1))
   | succ i =>
    simp only [List.getElem?_cons_succ] at h1
    have:W1 p (ls++[h.n]) hs∨W2 os p (ms++[srcI (vsO os) h.n h.s]) hs:=by
     refine I.2 ⟨i,by simpa using hi,?_⟩
     rcases h1 with ⟨h1,h2⟩ | h1
     ·left
      refine ⟨?_,h2⟩
      rcases h1 with h1 | ⟨h1,h3⟩ | ⟨k,hk,h1⟩
      ·exact .inl (List.mem_append_left _ h1)
      ·exact .inr (.inl ⟨h1,List.mem_append_left _ h3⟩)
      ·cases k with
       | zero =>
        rcases h1 with h1 | ⟨h1,h3⟩
        ·left; rw [h1]; simp
        ·right; left; refine ⟨h1,?_⟩; rw [h3]; simp
       | succ k=>exact .inr (.inr ⟨k,by omega,by simpa using h1⟩)
     ·exact .inr h1
    rcases this with h | h
    ·exact .inl (.inr (.inr h))
    ·exact .inr (.inr h)
theorem urep_w (os:Sch) (hs:List HC) (p:Int):URepN (nO os) os.length hs p↔W1 p [] hs∨W2 os p [] hs:=by
 rw [w_iff]
 unfold URepN VDs
 have hm:∀ x s,madeI (nO os) os.length x s=srcI (vsO os) x s:=fun x s=>madeI_src os x s
 simp only [hm]
 constructor
 ·rintro ⟨i,hi,h⟩
  refine ⟨i,hi,?_⟩
  rcases h with ⟨k,hk,h1,h2⟩ | h
  ·exact .inl ⟨.inr (.inr ⟨k,hk,h1⟩),h2⟩
  ·right
   rw [wf_iff]
   obtain ⟨j,hj,k,hk,h1,h2⟩:=h
   exact ⟨j,hj,.inr ⟨k,hk,h1⟩,h2⟩
 ·rintro ⟨i,hi,h⟩
  refine ⟨i,hi,?_⟩
  rcases h with ⟨h1,h2⟩ | h
  ·rcases h1 with h1 | ⟨_,h1⟩ | ⟨k,hk,h1⟩
   ·simp at h1
   ·simp at h1
   ·exact .inl ⟨k,hk,h1,h2⟩
  ·right
   rw [wf_iff] at h
   obtain ⟨j,hj,h1,h2⟩:=h
   rcases h1 with h1 | ⟨k,hk,h1⟩
   ·simp at h1
   ·exact ⟨j,hj,k,hk,h1,h2⟩
theorem twice_agree {s:ByteArray} (os:Sch) {cs:List GCd} {hs:List HC} {hi:Nat} (C:CMs s 0 hi cs hs):Least (URepN (nO os) os.length hs) (fTw (vsO os) cs):=by
 have h1:=(w1_least cs hs 0 hi [] C).1
 have h2:=(w2_least os cs hs 0 hi [] C).1
 exact (both_least h1 h2).congr fun p=>(urep_w os hs p).symm
theorem uagree {os:Sch} (hU:Uq os) {s:ByteArray} {E P:Int} (h:UpRef os s E P):E=uE os s∧P=uP os s:=by
 unfold uE uP
 rcases h with ⟨h,rfl,rfl⟩ | ⟨h,h'⟩
 ·have e1:gdE (uR s) s=1:=by unfold gdE; rw [if_pos h]
  have e2:gdP (uR s) s=0:=by unfold gdP; rw [if_pos h]
  rw [e1,e2,if_pos (by decide),if_pos (by decide)]; exact ⟨rfl,rfl⟩
 ·have hn:¬ 200 < s.size:=by omega
  rcases h' with ⟨hs,rfl,rfl⟩ | ⟨hs,hsome,h'⟩
  ·rcases uread_meet s with ⟨h1,_⟩ | ⟨_,_,h2,_⟩
   ·have e1:gdE (uR s) s=2:=by unfold gdE; rw [if_neg hn,if_pos h1]
    have e2:gdP (uR s) s=((uR s).at_:Int):=by unfold gdP; rw [if_neg hn,if_pos h1]
    rw [e1,e2,if_pos (by decide),if_pos (by decide),(uread_accepts s).2 h1,uwrong_is s s.size 0 (by omega) (Nat.zero_le _)]
    exact ⟨rfl,rfl⟩
   ·rw [hs] at h2; cases h2
  ·rcases uread_meet s with ⟨_,h2⟩ | ⟨hs',h1,h2,C⟩
   ·rw [hsome] at h2; cases h2
   ·rw [hsome] at h2
    injection h2 with h2
    subst h2
    have e1:gdE (uR s) s=0:=by unfold gdE; rw [if_neg hn,if_neg (by rw [h1]; decide)]
    have T:=twice_agree os C
    have n0:¬ ((0:Int)≠0):=by decide
    rw [e1,if_neg n0,if_neg n0]
    rcases h' with ⟨h0,rfl,hL⟩ | ⟨hL,hF⟩
    ·have e:=least_unique T hL
     have t1:fTw (vsO os) (uR s).cs≠-1:=by rw [e]; omega
     rw [if_pos t1,if_pos t1,e]; exact ⟨rfl,rfl⟩
    ·have e:=least_unique T hL
     have t1:¬ fTw (vsO os) (uR s).cs≠-1:=by rw [e]; decide
     rw [if_neg t1,if_neg t1]
     exact first_agree hU.kp C hF
end Go.Proofs.YtbgilndohccicaaGreatDoor
