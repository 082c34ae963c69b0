import Derived.Test.YtbgilndohccicaaGreatDoorBz33
import Derived.Test.YtbgilndohccicaaGreatDoorBz09
import Derived.Test.YtbgilndohccicaaGreatDoorBz34
import Derived.Test.YtbgilndohccicaaGreatDoorBz10
namespace Go.Proofs.YtbgilndohccicaaGreatDoor
open Go.RowKit
structure USt where
 k:Nat
 c:Nat
 f:Nat
 q:Nat×Nat×Nat
def U (k c f:Nat):USt:=⟨k,c,f,(0,0,0)⟩
def ufin (c f:Nat) (x:Int):Option USt:=if x=125 then some (U 0 (c+1) 0) else if x=44∧f < 6 then some (U 6 c f) else none
def USt.go (u:USt) (x:Int):Option USt :=
 match u.k with
 | 0=>if u.c < 6∧upr x then some (U 1 u.c 0) else none
 | 1=>if x=123 then some (U 2 u.c 0) else if x=60 then some (U 9 u.c 0) else none
 | 2=>if x=125 then some (U 0 (u.c+1) 0) else if lwr x then some (U 3 u.c 0) else none
 | 3=>if x=58 then some (U 4 u.c u.f) else none
 | 4=>if isKindB x=true then some (U 5 u.c (u.f+1)) else none
 | 5=>if x=61 then some (U 7 u.c u.f) else ufin u.c u.f x
 | 6=>if lwr x then some (U 3 u.c u.f) else none
 | 7=>match stp 6 u.q x with
  | some q=>some ⟨7,u.c,u.f,q⟩
  | none=>if u.q.1≠0∧u.q.2.1=0 then (if x=33 then some (U 8 u.c u.f) else ufin u.c u.f x) else none
 | 8=>ufin u.c u.f x
 | 9=>if upr x then some (U 10 u.c 0) else none
 | _=>if x=123 then some (U 2 u.c 0) else none
theorem gu0 (c f:Nat) (x:Int):(U 0 c f).go x=if c < 6∧upr x then some (U 1 c 0) else none:=rfl
theorem gu1 (c f:Nat) (x:Int):(U 1 c f).go x=if x=123 then some (U 2 c 0) else if x=60 then some (U 9 c 0) else none:=rfl
theorem gu2 (c f:Nat) (x:Int):(U 2 c f).go x=if x=125 then some (U 0 (c+1) 0) else if lwr x then some (U 3 c 0) else none:=rfl
theorem gu3 (c f:Nat) (x:Int):(U 3 c f).go x=if x=58 then some (U 4 c f) else none:=rfl
theorem gu4 (c f:Nat) (x:Int):(U 4 c f).go x=if isKindB x=true then some (U 5 c (f+1)) else none:=rfl
theorem gu5 (c f:Nat) (x:Int):(U 5 c f).go x=if x=61 then some (U 7 c f) else ufin c f x:=rfl
theorem gu6 (c f:Nat) (x:Int):(U 6 c f).go x=if lwr x then some (U 3 c f) else none:=rfl
theorem gu7 (c f:Nat) (q:Nat×Nat×Nat) (x:Int):(USt.mk 7 c f q).go x=match stp 6 q x with
  | some q=>some ⟨7,c,f,q⟩
  | none=>if q.1≠0∧q.2.1=0 then (if x=33 then some (U 8 c f) else ufin c f x) else none:=rfl
theorem gu8 (c f:Nat) (x:Int):(U 8 c f).go x=ufin c f x:=rfl
theorem gu9 (c f:Nat) (x:Int):(U 9 c f).go x=if upr x then some (U 10 c 0) else none:=rfl
theorem gu10 (c f:Nat) (x:Int):(U 10 c f).go x=if x=123 then some (U 2 c 0) else none:=rfl
def USt.acc (u:USt):Bool:=decide (u.k=0) && decide (0 < u.c)
theorem ufin_pos {c f:Nat} {x:Int} {u:USt} (h:ufin c f x=some u):0 < x:=by
 unfold ufin at h
 split at h
 ·omega
 ·split at h
  ·omega
  ·cases h
theorem ugo_pos {u u':USt} {x:Int} (h:u.go x=some u'):0 < x:=by
 unfold USt.go at h
 split at h
 ·split at h
  ·rename_i h'; have:=h'.2.1; omega
  ·cases h
 ·split at h
  ·omega
  ·split at h
   ·omega
   ·cases h
 ·split at h
  ·omega
  ·split at h
   ·rename_i h'; have:=h'.1; omega
   ·cases h
 ·split at h
  ·omega
  ·cases h
 ·split at h
  ·rename_i h'; exact isKindB_pos h'
  ·cases h
 ·split at h
  ·omega
  ·exact ufin_pos h
 ·split at h
  ·rename_i h'; have:=h'.1; omega
  ·cases h
 ·split at h
  ·rename_i h'; have:=stp_byte h'; omega
  ·split at h
   ·split at h
    ·omega
    ·exact ufin_pos h
   ·cases h
 ·exact ufin_pos h
 ·split at h
  ·rename_i h'; have:=h'.1; omega
  ·cases h
 ·split at h
  ·omega
  ·cases h
def udN (s:ByteArray):Nat→Nat→USt→Nat×USt
 | 0,i,q=>(i,q)
 | n+1,i,q=>match q.go (nextB s i) with
  | none=>(i,q)
  | some q'=>udN s n (i+1) q'
def ud (s:ByteArray) (i:Nat) (q:USt):Nat×USt:=udN s (s.size - i) i q
theorem ud_end {s:ByteArray} {i:Nat} {q:USt} (h:¬ i < s.size):ud s i q=(i,q):=by
 have:s.size - i=0:=by omega
 simp [ud,this,udN]
theorem ud_stop {s:ByteArray} {i:Nat} {q:USt} (h:q.go (nextB s i)=none):ud s i q=(i,q):=by
 by_cases hi:i < s.size
 ·have:s.size - i=(s.size - (i+1))+1:=by omega
  simp [ud,this,udN,h]
 ·exact ud_end hi
theorem ud_step {s:ByteArray} {i:Nat} {q q':USt} (h:q.go (nextB s i)=some q'):ud s i q=ud s (i+1) q':=by
 have hi:i < s.size:=nextB_pos (ugo_pos h)
 have:s.size - i=(s.size - (i+1))+1:=by omega
 simp [ud,this,udN,h]
theorem ds_stuck (s:ByteArray):∀ n i q,i+n=s.size→stp 6 (ds s i q).2 (nextB s (ds s i q).1)=none:=by
 intro n
 induction n with
 | zero =>
  intro i q hn
  rw [ds_end (by omega)]
  cases h:stp 6 q (nextB s i) with
  | none=>rfl
  | some q'=>rw [nextB_out (by omega)] at h; have:=stp_byte h; omega
 | succ n ih =>
  intro i q hn
  cases hq:stp 6 q (nextB s i) with
  | none=>rw [ds_stop hq]; exact hq
  | some q1=>rw [ds_step hq]; exact ih (i+1) q1 (by omega)
theorem ud_sum (s:ByteArray) (c f:Nat):∀ n i q,i+n=s.size→ud s i ⟨7,c,f,q⟩=ud s (ds s i q).1 ⟨7,c,f,(ds s i q).2⟩:=by
 intro n
 induction n with
 | zero=>intro i q hn; rw [ds_end (by omega)]
 | succ n ih =>
  intro i q hn
  cases hq:stp 6 q (nextB s i) with
  | none=>rw [ds_stop hq]
  | some q1 =>
   rw [ds_step hq,ud_step (q':=⟨7,c,f,q1⟩) (by rw [gu7,hq])]
   exact ih (i+1) q1 (by omega)
theorem rule_ud (s:ByteArray) (k c f:Nat) :
  ((upRule s k).ok=true→∃ u,ud s k (U 5 c f)=ud s (upRule s k).at_ u∧u.go (nextB s (upRule s k).at_)=ufin c f (nextB s (upRule s k).at_)∧u.acc=false) ∧
  ((upRule s k).ok=false→∃ u,ud s k (U 5 c f)=((upRule s k).at_,u)∧u.acc=false):=by
 unfold upRule
 by_cases h:nextB s k=61
 ·rw [if_pos h]
  have hk:k < s.size:=nextB_pos (by omega)
  have e1:ud s k (U 5 c f)=ud s (k+1) (U 7 c f):=ud_step (by rw [gu5,if_pos h])
  have e2:=ud_sum s c f (s.size - (k+1)) (k+1) (0,0,0) (by omega)
  have e3:=ds_stuck s (s.size - (k+1)) (k+1) (0,0,0) (by omega)
  cases hok:(sumRL s 6 (k+1) []).ok with
  | true =>
   rw [if_pos rfl]
   refine ⟨fun _=>?_,(fun h=>by cases h)⟩
   obtain ⟨m,kk,hm,e⟩:=sum_yes hok
   rw [e] at e2 e3
   simp only [] at e2 e3 ⊢
   by_cases h33:nextB s (sumRL s 6 (k+1) []).at_=33
   ·rw [if_pos h33]
    refine ⟨U 8 c f,?_,gu8 _ _ _,rfl⟩
    rw [e1]
    show ud s (k+1) ⟨7,c,f,(0,0,0)⟩=_
    rw [e2]
    exact ud_step (by rw [gu7,e3]; simp only []; rw [if_pos ⟨hm,trivial⟩,if_pos h33])
   ·rw [if_neg h33]
    refine ⟨⟨7,c,f,(m,0,kk)⟩,?_,?_,rfl⟩
    ·rw [e1]; exact e2
    ·rw [gu7,e3]; simp only []; rw [if_pos ⟨hm,trivial⟩,if_neg h33]
  | false =>
   rw [if_neg (by decide)]
   refine ⟨(fun h=>by cases h),fun _=>?_⟩
   obtain ⟨q,e,hq⟩:=sum_no hok
   rw [e] at e2 e3
   simp only [] at e2 e3 ⊢
   refine ⟨⟨7,c,f,q⟩,?_,rfl⟩
   rw [e1]
   show ud s (k+1) ⟨7,c,f,(0,0,0)⟩=_
   rw [e2]
   exact ud_stop (by rw [gu7,e3]; simp only []; rw [if_neg (by omega)])
 ·rw [if_neg h]
  exact ⟨fun _=>⟨U 5 c f,rfl,by simp only []; rw [gu5,if_neg h],rfl⟩,(fun h=>by cases h)⟩
theorem from_ud (s:ByteArray) (k c:Nat) :
  ((upFrom s k).ok=true→∃ u,ud s k (U 1 c 0)=ud s (upFrom s k).at_ u∧u.go (nextB s (upFrom s k).at_)=(if nextB s (upFrom s k).at_=123 then some (U 2 c 0) else none)∧u.acc=false) ∧
  ((upFrom s k).ok=false→∃ u,ud s k (U 1 c 0)=((upFrom s k).at_,u)∧u.acc=false):=by
 unfold upFrom
 by_cases h:nextB s k=60
 ·rw [if_pos h]
  have e1:ud s k (U 1 c 0)=ud s (k+1) (U 9 c 0):=ud_step (by rw [gu1,if_neg (by omega),if_pos h])
  by_cases h2:65≤nextB s (k+1)∧nextB s (k+1)≤90
  ·rw [if_pos h2]
   refine ⟨fun _=>⟨U 10 c 0,?_,gu10 _ _ _,rfl⟩,(fun h=>by cases h)⟩
   rw [e1]
   exact ud_step (by rw [gu9,if_pos h2])
  ·rw [if_neg h2]
   refine ⟨(fun h=>by cases h),fun _=>⟨U 9 c 0,?_,rfl⟩⟩
   rw [e1]
   exact ud_stop (by rw [gu9,if_neg h2])
 ·rw [if_neg h]
  refine ⟨fun _=>⟨U 1 c 0,rfl,?_,rfl⟩,(fun h=>by cases h)⟩
  simp only []
  rw [gu1,if_neg h]
theorem ufield_ud (s:ByteArray) (k c f:Nat) :
  ((gdField upRule s k).ok=true→∃ u,ud s k (U 6 c f)=ud s (gdField upRule s k).at_ u∧u.go (nextB s (gdField upRule s k).at_)=ufin c (f+1) (nextB s (gdField upRule s k).at_)∧u.acc=false) ∧
  ((gdField upRule s k).ok=false→∃ u,ud s k (U 6 c f)=((gdField upRule s k).at_,u)∧u.acc=false):=by
 unfold gdField
 by_cases h0:lwr (nextB s k)
 ·rw [if_neg (by simp only [Bool.and_eq_false_iff,decide_eq_false_iff_not]; rintro (h | h); exact h h0.1; exact h h0.2)]
  have s1:ud s k (U 6 c f)=ud s (k+1) (U 3 c f):=ud_step (by rw [gu6,if_pos h0])
  by_cases h1:nextB s (k+1)=58
  ·rw [if_neg (by simp [h1])]
   have s2:ud s (k+1) (U 3 c f)=ud s (k+1+1) (U 4 c f):=ud_step (by rw [gu3,if_pos h1])
   by_cases h2:isKindB (nextB s (k+1+1))=true
   ·rw [if_neg (by rw [h2]; decide)]
    have s3:ud s (k+1+1) (U 4 c f)=ud s (k+1+1+1) (U 5 c (f+1)):=ud_step (by rw [gu4,if_pos h2])
    have R:=rule_ud s (k+1+1+1) c (f+1)
    rw [s1,s2,s3]
    generalize upRule s (k+1+1+1)=r at R ⊢
    cases hr:r.ok with
    | false =>
     rw [if_pos rfl]
     exact ⟨(fun h=>by cases h),fun _=>R.2 hr⟩
    | true =>
     rw [if_neg (by decide)]
     exact ⟨fun _=>R.1 hr,(fun h=>by cases h)⟩
   ·rw [if_pos (by simpa using h2)]
    refine ⟨(fun h=>by cases h),fun _=>⟨U 4 c f,?_,rfl⟩⟩
    rw [s1,s2]
    exact ud_stop (by rw [gu4,if_neg h2])
  ·rw [if_pos (by simp [h1])]
   refine ⟨(fun h=>by cases h),fun _=>⟨U 3 c f,?_,rfl⟩⟩
   rw [s1]
   exact ud_stop (by rw [gu3,if_neg h1])
 ·rw [if_pos (by simp only [Bool.and_eq_false_iff,decide_eq_false_iff_not]; unfold lwr at h0; omega)]
  exact ⟨(fun h=>by cases h),fun _=>⟨U 6 c f,ud_stop (by rw [gu6,if_neg h0]),rfl⟩⟩
theorem uloop_ud (s:ByteArray) (c:Nat):∀ n fs k,fs.length+n=6→0 < n →
  ((gdLoop upRule s n fs k).ok=true→ud s k (U 6 c fs.length)=ud s (gdLoop upRule s n fs k).at_ (U 0 (c+1) 0)) ∧
  ((gdLoop upRule s n fs k).ok=false→∃ u,ud s k (U 6 c fs.length)=((gdLoop upRule s n fs k).at_,u)∧u.acc=false):=by
 intro n
 induction n with
 | zero=>intro fs k _ h; omega
 | succ n ih =>
  intro fs k hl _
  have F:=ufield_ud s k c fs.length
  rw [gdLoop]
  generalize gdField upRule s k=r at F ⊢
  by_cases h0:r.ok=false
  ·rw [if_pos h0]
   exact ⟨(fun h=>by cases h),fun _=>F.2 h0⟩
  rw [if_neg h0]
  obtain ⟨u,e1,e2,e3⟩:=F.1 (by simpa using h0)
  by_cases h1:nextB s r.at_=125
  ·rw [if_pos h1]
   refine ⟨fun _=>?_,(fun h=>by cases h)⟩
   rw [e1]
   exact ud_step (by rw [e2,ufin,if_pos h1])
  rw [if_neg h1]
  by_cases h2:fs.length=5∨nextB s r.at_≠44
  ·rw [if_pos h2]
   refine ⟨(fun h=>by cases h),fun _=>⟨u,(by rw [e1]; exact ud_stop (by rw [e2,ufin,if_neg h1,if_neg (by omega)])),e3⟩⟩
  ·rw [if_neg h2]
   have e4:ud s r.at_ u=ud s (r.at_+1) (U 6 c (fs.length+1)):=ud_step (by rw [e2,ufin,if_neg h1,if_pos (by omega)])
   have:=ih (fs++[r.f]) (r.at_+1) (by simp; omega) (by omega)
   rw [e1,e4]
   simpa using this
theorem ufields_ud (s:ByteArray) (c k:Nat) :
  ((gdFields upRule s k).ok=true→ud s k (U 2 c 0)=ud s (gdFields upRule s k).at_ (U 0 (c+1) 0)) ∧
  ((gdFields upRule s k).ok=false→∃ u,ud s k (U 2 c 0)=((gdFields upRule s k).at_,u)∧u.acc=false):=by
 unfold gdFields
 by_cases h:nextB s k=125
 ·rw [if_pos h]
  exact ⟨fun _=>ud_step (by rw [gu2,if_pos h]),(fun h=>by cases h)⟩
 rw [if_neg h]
 have L:=uloop_ud s c 6 [] k rfl (by omega)
 by_cases h1:lwr (nextB s k)
 ·have e:ud s k (U 2 c 0)=ud s k (U 6 c 0):=by
   rw [ud_step (q':=U 3 c 0) (by rw [gu2,if_neg h,if_pos h1]),ud_step (q:=U 6 c 0) (q':=U 3 c 0) (by rw [gu6,if_pos h1])]
  rw [e]; exact L
 ·have e:gdLoop upRule s 6 [] k=⟨false,k,[]⟩:=by
   have e1:gdField upRule s k=⟨false,k,zF⟩:=by
    unfold gdField; rw [if_pos (by simp only [Bool.and_eq_false_iff,decide_eq_false_iff_not]; unfold lwr at h1; omega)]
   rw [gdLoop,e1]; rfl
  rw [e]
  exact ⟨(fun h=>by cases h),fun _=>⟨U 2 c 0,ud_stop (by rw [gu2,if_neg h,if_neg h1]),rfl⟩⟩
theorem uclass_ud (s:ByteArray) (c k:Nat) (hc:c < 6) :
  ((gdClass upRule upFrom s k).ok=true→ud s k (U 0 c 0)=ud s (gdClass upRule upFrom s k).at_ (U 0 (c+1) 0)) ∧
  ((gdClass upRule upFrom s k).ok=false→(∃ u,ud s k (U 0 c 0)=((gdClass upRule upFrom s k).at_,u)∧u.acc=false)∨(ud s k (U 0 c 0)=(k,U 0 c 0)∧(gdClass upRule upFrom s k).at_=k)):=by
 unfold gdClass
 by_cases h0:upr (nextB s k)
 ·rw [if_neg (by simp only [Bool.and_eq_false_iff,decide_eq_false_iff_not]; rintro (h | h); exact h h0.1; exact h h0.2)]
  have s1:ud s k (U 0 c 0)=ud s (k+1) (U 1 c 0):=ud_step (by rw [gu0,if_pos ⟨hc,h0⟩])
  have F:=from_ud s (k+1) c
  rw [s1]
  generalize upFrom s (k+1)=r at F ⊢
  cases hr:r.ok with
  | false =>
   rw [if_pos rfl]
   exact ⟨(fun h=>by cases h),fun _=>.inl (F.2 hr)⟩
  | true =>
   rw [if_neg (by decide)]
   obtain ⟨u,e1,e2,e3⟩:=F.1 hr
   by_cases h1:nextB s r.at_=123
   ·rw [if_neg (by simp [h1])]
    have s2:ud s r.at_ u=ud s (r.at_+1) (U 2 c 0):=ud_step (by rw [e2,if_pos h1])
    have L:=ufields_ud s c (r.at_+1)
    rw [e1,s2]
    generalize gdFields upRule s (r.at_+1)=x at L ⊢
    cases hx:x.ok with
    | false=>rw [if_pos rfl]; exact ⟨(fun h=>by cases h),fun _=>.inl (L.2 hx)⟩
    | true=>rw [if_neg (by decide)]; exact ⟨fun _=>L.1 hx,(fun h=>by cases h)⟩
   ·rw [if_pos (by simp [h1])]
    exact ⟨(fun h=>by cases h),fun _=>.inl ⟨u,by rw [e1]; exact ud_stop (by rw [e2,if_neg h1]),e3⟩⟩
 ·rw [if_pos (by simp only [Bool.and_eq_false_iff,decide_eq_false_iff_not]; unfold upr at h0; omega)]
  exact ⟨(fun h=>by cases h),fun _=>.inr ⟨ud_stop (by rw [gu0,if_neg (fun h=>h0 h.2)]),rfl⟩⟩
theorem uloop_end (s:ByteArray):∀ n fs k,(gdLoop upRule s n fs k).ok=true→∃ j,j < s.size∧nextB s j=125∧(gdLoop upRule s n fs k).at_=j+1:=by
 intro n
 induction n with
 | zero=>intro fs k h; simp [gdLoop] at h
 | succ n ih =>
  intro fs k h
  rw [gdLoop] at h ⊢
  split at h
  ·cases h
  ·rename_i h0
   rw [if_neg h0]
   split at h
   ·rename_i h1
    rw [if_pos h1]; exact ⟨_,nextB_pos (by omega),h1,rfl⟩
   ·rename_i h1
    rw [if_neg h1]
    split at h
    ·cases h
    ·rename_i h2
     rw [if_neg h2]; exact ih _ _ h
theorem uclass_end (s:ByteArray) (k:Nat) (h:(gdClass upRule upFrom s k).ok=true):∃ j,j < s.size∧nextB s j=125∧(gdClass upRule upFrom s k).at_=j+1:=by
 unfold gdClass at h ⊢
 split at h
 ·cases h
 ·rename_i h0
  rw [if_neg h0]
  split at h
  ·cases h
  ·rename_i h1
   rw [if_neg h1]
   split at h
   ·cases h
   ·rename_i h2
    rw [if_neg h2]
    split at h
    ·cases h
    ·rename_i h3
     rw [if_neg h3]
     have h4:(gdFields upRule s ((upFrom s (k+1)).at_+1)).ok=true:=by simpa using h3
     unfold gdFields at h4 ⊢
     split at h4
     ·rename_i h5
      rw [if_pos h5]; exact ⟨_,nextB_pos (by omega),h5,rfl⟩
     ·rename_i h5
      rw [if_neg h5]; exact uloop_end s _ _ _ h4
def uaccepts (s:ByteArray):Prop:=(ud s 0 (U 0 0 0)).1=s.size∧(ud s 0 (U 0 0 0)).2.acc=true
theorem gc_ud (s:ByteArray):∀ n cs k,cs.length+n=6→(k < s.size∨cs=[]) →
  ((gcLoop upRule upFrom s n cs k).ok=true→ud s k (U 0 cs.length 0)=(s.size,U 0 ((gcLoop upRule upFrom s n cs k).cs.length) 0)∧0 < (gcLoop upRule upFrom s n cs k).cs.length) ∧
  ((gcLoop upRule upFrom s n cs k).ok=false→∃ u,ud s k (U 0 cs.length 0)=((gcLoop upRule upFrom s n cs k).at_,u)∧(u.acc=true→(gcLoop upRule upFrom s n cs k).at_ < s.size)):=by
 intro n
 induction n with
 | zero =>
  intro cs k hl hk
  rw [gcLoop]
  refine ⟨(fun h=>by cases h),fun _=>⟨U 0 cs.length 0,ud_stop (by rw [gu0,if_neg (by omega)]),fun _=>?_⟩⟩
  rcases hk with h | h
  ·exact h
  ·subst h; simp at hl
 | succ n ih =>
  intro cs k hl hk
  have C:=uclass_ud s cs.length k (by omega)
  have D:=uclass_end s k
  rw [gcLoop]
  generalize gdClass upRule upFrom s k=r at C D ⊢
  by_cases h0:r.ok=false
  ·rw [if_pos h0]
   refine ⟨(fun h=>by cases h),fun _=>?_⟩
   rcases C.2 h0 with ⟨q,e,ha⟩ | ⟨e,ea⟩
   ·exact ⟨q,e,fun h=>by rw [ha] at h; cases h⟩
   ·refine ⟨_,by rw [e,ea],fun h=>?_⟩
    rcases hk with h' | h'
    ·show r.at_ < s.size; omega
    ·subst h'; simp [USt.acc,U] at h
  rw [if_neg h0]
  have e1:=C.1 (by simpa using h0)
  by_cases h1:r.at_=s.size
  ·rw [if_pos h1]
   refine ⟨fun _=>⟨?_,by simp⟩,(fun h=>by cases h)⟩
   rw [e1,ud_end (by omega),h1]; simp
  ·rw [if_neg h1]
   obtain ⟨j,hj,_,hj'⟩:=D (by simpa using h0)
   have:=ih (cs++[r.c]) r.at_ (by simp; omega) (.inl (by omega))
   rw [e1]
   simpa using this
theorem uread_accepts (s:ByteArray):((uR s).ok=true↔uaccepts s)∧((uR s).ok=false→(uR s).at_=(ud s 0 (U 0 0 0)).1):=by
 have R:=gc_ud s 6 [] 0 rfl (.inr rfl)
 unfold uR uaccepts
 generalize gcLoop upRule upFrom s 6 [] 0=r at R ⊢
 cases h:r.ok with
 | true =>
  obtain ⟨e,h0⟩:=R.1 h
  simp only [List.length_nil] at e
  rw [e]
  refine ⟨⟨fun _=>⟨rfl,?_⟩,fun _=>rfl⟩,(fun h=>by cases h)⟩
  match hn:r.cs.length,h0 with
  | n+1,_=>rfl
 | false =>
  obtain ⟨q,e,hq⟩:=R.2 h
  simp only [List.length_nil] at e
  rw [e]
  refine ⟨⟨(fun h=>by cases h),fun ⟨h1,h2⟩=>?_⟩,fun _=>rfl⟩
  have:=hq h2
  simp only at h1
  omega
end Go.Proofs.YtbgilndohccicaaGreatDoor
namespace Go.Proofs.YtbgilndohccicaaGreatDoor
open Go.RowKit
theorem ba_ext {a b:ByteArray} (hs:a.size=b.size) (h:∀ j,j < a.size→nextB a j=nextB b j):a=b:=by
 cases a with | mk a=>cases b with | mk b =>
 congr
 apply Array.ext hs
 intro i h1 h2
 have:=h i h1
 rw [nextB_in (show i < (ByteArray.mk a).size from h1),nextB_in (show i < (ByteArray.mk b).size from h2)] at this
 exact UInt8.toNat_inj.1 (Int.ofNat.inj this)
theorem ext_size {s:ByteArray} {k e:Nat} (he:e≤s.size):(s.extract k e).size=e - k:=by
 have:(s.extract k e).size=min e s.size - k:=ByteArray.size_extract
 omega
theorem ext_ext {s:ByteArray} {k e a b:Nat} (he:e≤s.size) (hb:k+b≤e):(s.extract k e).extract a b=s.extract (k+a) (k+b):=by
 have h1:=ext_size (k:=k) he
 apply ba_ext
 ·rw [ext_size (by omega),ext_size (by omega)]; omega
 ·intro j hj
  rw [ext_size (by omega)] at hj
  rw [nextB_extract _ a b j (by omega),nextB_extract s k e _ he,nextB_extract s (k+a) (k+b) j (by omega),if_pos (by omega),if_pos (by omega),if_pos (by omega),Nat.add_assoc]
structure FM (s:ByteArray) (k e:Nat) (f:GFd) (g:GU):Prop where
 le:k+3≤e
 n:g.n=f.l
 k_:g.k=f.k
 p:f.p=k
 gp:g.p=k
 sum:(g.sm=false∧f.ts=[])∨(g.sm=true∧f.sp=(k+4:Nat)∧g.sa=(k+4:Nat)∧g.bg=f.ex∧(sumRL s 6 (k+4) []).ok=true∧f.ts=(sumRL s 6 (k+4) []).ts∧g.su=s.extract (k+4) (sumRL s 6 (k+4) []).at_∧(sumRL s 6 (k+4) []).at_≤e)
theorem lwr_b {x:Int} (h:lwr x):¬ (decide (97≤x) && decide (x≤122))=false:=by
 simp only [Bool.and_eq_false_iff,decide_eq_false_iff_not]; rintro (h' | h'); exact h' h.1; exact h' h.2
theorem lwr_nb {x:Int} (h:¬ lwr x):(decide (97≤x) && decide (x≤122))=false:=by
 simp only [Bool.and_eq_false_iff,decide_eq_false_iff_not]; unfold lwr at h; omega
theorem rn_bytes {M:Nat}:∀ {l:List Int} {q q':Nat×Nat×Nat},rn M q l=some q'→∀ x∈l,(40≤x∧x≤43)∨x=45∨(48≤x∧x≤57)∨(97≤x∧x≤122):=by
 intro l
 induction l with
 | nil=>intro q q' _ x hx; simp at hx
 | cons c r ih =>
  intro q q' h x hx
  simp only [rn] at h
  cases hs:stp M q c with
  | none=>rw [hs] at h; cases h
  | some q1 =>
   rw [hs] at h
   rcases List.mem_cons.1 hx with rfl | hx
   ·exact stp_byte hs
   ·exact ih h x hx
theorem bl_mem {s:ByteArray} {a b j:Nat} (h1:a≤j) (h2:j < b) (hb:b≤s.size):nextB s j∈bl (s.extract a b):=by
 have hz:j - a < (s.extract a b).size:=by rw [ext_size hb]; omega
 have:=bl_at hz
 rw [nextB_extract s a b _ hb,if_pos (by omega),show a+(j - a)=j by omega] at this
 exact List.mem_of_getElem? this
theorem sum_is {s:ByteArray} {a:Nat} (ha:a≤s.size) (h:(sumRL s 6 a []).ok=true) :
  a < (sumRL s 6 a []).at_∧(sumRL s 6 a []).at_≤s.size∧acc 6 (bl (s.extract a (sumRL s 6 a []).at_))∧(∀ j,a≤j→j < (sumRL s 6 a []).at_→nextB s j≠44∧nextB s j≠125∧nextB s j≠33):=by
 obtain ⟨m,kk,hm,e⟩:=sum_yes h
 have R:=ds_rn s (s.size - a) a (0,0,0) (by omega)
 rw [e] at R
 simp only [] at R
 obtain ⟨r1,r2,r3⟩:=R
 generalize (sumRL s 6 a []).at_=x at r1 r2 r3 ⊢
 refine ⟨?_,r2,⟨m,kk,r3,hm⟩,fun j h1 h2=>?_⟩
 ·rcases Nat.eq_or_lt_of_le r1 with rfl | h'
  ·rw [bl_nil,rn] at r3
   injection r3 with r3
   exact absurd (congrArg (·.1) r3).symm hm
  ·exact h'
 ·have:=rn_bytes r3 _ (bl_mem h1 h2 r2)
  omega
theorem sum_of {s:ByteArray} {a e:Nat} (hae:a≤e) (he:e≤s.size) (h:acc 6 (bl (s.extract a e))) (hx:nextB s e=33∨nextB s e=44∨nextB s e=125):(sumRL s 6 a []).ok=true∧(sumRL s 6 a []).at_=e:=by
 obtain ⟨m,kk,hr,hm⟩:=h
 have e1:=rn_ds s (e - a) a e (0,0,0) _ (by omega) he hr
 have e2:ds s e (m,0,kk)=(e,(m,0,kk)):=ds_stop (by
  cases hs:stp 6 (m,0,kk) (nextB s e) with
  | none=>rfl
  | some q=>have:=stp_byte hs; omega)
 rw [e2] at e1
 cases hok:(sumRL s 6 a []).ok with
 | true =>
  obtain ⟨m',kk',_,e3⟩:=sum_yes hok
  rw [e1] at e3
  exact ⟨rfl,(congrArg (·.1) e3).symm⟩
 | false =>
  obtain ⟨q,e3,hq⟩:=sum_no hok
  rw [e1] at e3
  injection e3 with _ e4
  rw [← e4] at hq
  simp only [] at hq
  omega
set_option maxHeartbeats 1000000 in
theorem field_yes (s:ByteArray) (k:Nat) (hok:(gdField upRule s k).ok=true) :
  (gdField upRule s k).at_≤s.size∧(∀ j,k≤j→j < (gdField upRule s k).at_→nextB s j≠44∧nextB s j≠125) ∧
  ∃ g,fieldU (s.extract k (gdField upRule s k).at_) k=some g∧FM s k (gdField upRule s k).at_ (gdField upRule s k).f g:=by
 unfold gdField at hok ⊢
 by_cases h0:lwr (nextB s k)
 rotate_left
 ·rw [if_pos (lwr_nb h0)] at hok; cases hok
 rw [if_neg (lwr_b h0)] at hok ⊢
 by_cases h1:nextB s (k+1)=58
 rotate_left
 ·rw [if_pos (by simp [h1])] at hok; cases hok
 rw [if_neg (by simp [h1])] at hok ⊢
 by_cases h2:isKindB (nextB s (k+1+1))=true
 rotate_left
 ·rw [if_pos (by simpa using h2)] at hok; cases hok
 rw [if_neg (by rw [h2]; decide)] at hok ⊢
 by_cases h3:(upRule s (k+1+1+1)).ok=false
 ·rw [if_pos h3] at hok; cases hok
 rw [if_neg h3]
 have h3':(upRule s (k+1+1+1)).ok=true:=by simpa using h3
 clear hok h3
 have hk2:k+1+1 < s.size:=nextB_pos (isKindB_pos h2)
 have hkd:nextB s (k+1+1)≠44∧nextB s (k+1+1)≠125:=by
  constructor <;> (intro h; rw [h] at h2; simp [isKindB] at h2)
 have hpre:∀ j,k≤j→j < k+3→nextB s j≠44∧nextB s j≠125:=by
  intro j j1 j2
  have:j=k∨j=k+1∨j=k+1+1:=by omega
  rcases this with rfl | rfl | rfl
  ·unfold lwr at h0; omega
  ·omega
  ·exact hkd
 unfold upRule at h3' ⊢
 by_cases h61:nextB s (k+1+1+1)=61
 ·rw [if_pos h61] at h3' ⊢
  have hk3:k+1+1+1 < s.size:=nextB_pos (by omega)
  by_cases hs:(sumRL s 6 (k+1+1+1+1) []).ok=true
  rotate_left
  ·rw [if_neg hs] at h3'; cases h3'
  rw [if_pos hs]
  have e4:k+1+1+1+1=k+4:=by omega
  rw [e4] at hs ⊢
  obtain ⟨q1,q2,q3,q4⟩:=sum_is (a:=k+4) (by omega) hs
  generalize hx:(sumRL s 6 (k+4) []).at_=x at q1 q2 q3 q4 ⊢
  have hno:∀ j,k≤j→j < x→nextB s j≠44∧nextB s j≠125:=by
   intro j j1 j2
   rcases Nat.lt_or_ge j (k+3) with h | h
   ·exact hpre j j1 h
   ·rcases Nat.lt_or_ge j (k+4) with h' | h'
    ·have:j=k+1+1+1:=by omega
     rw [this]; omega
    ·exact ⟨(q4 j h' j2).1,(q4 j h' j2).2.1⟩
  simp only []
  by_cases h33:nextB s x=33
  ·rw [if_pos h33]
   have hx1:x < s.size:=nextB_pos (by omega)
   refine ⟨by omega,fun j j1 j2=>?_,?_⟩
   ·rcases Nat.lt_or_ge j x with h | h
    ·exact hno j j1 h
    ·have:j=x:=by omega
     rw [this]; omega
   ·have hz:(s.extract k (x+1)).size=x+1 - k:=ext_size (by omega)
    have n0:nextB (s.extract k (x+1)) 0=nextB s k:=by rw [nextB_extract s k (x+1) 0 (by omega),if_pos (by omega)]; rfl
    have n1:nextB (s.extract k (x+1)) 1=nextB s (k+1):=by rw [nextB_extract s k (x+1) 1 (by omega),if_pos (by omega)]
    have n2:nextB (s.extract k (x+1)) 2=nextB s (k+1+1):=by rw [nextB_extract s k (x+1) 2 (by omega),if_pos (by omega)]
    have n3:nextB (s.extract k (x+1)) 3=nextB s (k+1+1+1):=by rw [nextB_extract s k (x+1) 3 (by omega),if_pos (by omega)]
    have so:sumOf (s.extract k (x+1))=s.extract (k+4) (x+1):=by
     unfold sumOf; rw [ext_ext (by omega) (by omega),show k+(s.extract k (x+1)).size=x+1 by omega]
    have sz:(s.extract (k+4) (x+1)).size=x+1 - (k+4):=ext_size (by omega)
    have hbang:bangB (s.extract k (x+1))=true:=by
     unfold bangB
     rw [so,sz,nextB_extract s (k+4) (x+1) _ (by omega),if_pos (by omega),show k+4+(x+1 - (k+4) - 1)=x by omega,h33]
     simp; omega
    have hcut:cutOf (s.extract k (x+1))=s.extract (k+4) x:=by
     unfold cutOf; rw [so,sz,ext_ext (by omega) (by omega),Nat.add_zero,show k+4+(x+1 - (k+4) - 1)=x by omega]
    have hsum:sumB (s.extract (k+4) x) 6=true:=(sumB_acc _ _).2 q3
    refine ⟨⟨nextB s k,nextB s (k+1+1),k,(k:Int)+4,true,true,s.extract (k+4) x⟩,?_,⟨by omega,rfl,rfl,rfl,rfl,.inr ⟨rfl,by first | rfl | (simp only []; omega) | omega,by first | rfl | (simp only []; omega) | omega,by simp [h33],hs,rfl,by rw [hx],by omega⟩⟩⟩
    unfold fieldU
    rw [if_neg (by omega),n0,if_neg (lwr_b h0),n1,if_neg (by simp [h1]),n2,if_neg (by rw [h2]; decide),if_neg (by omega),n3,if_neg (by simp [h61]),if_pos hbang,hcut,if_pos hsum]
  ·rw [if_neg h33]
   refine ⟨q2,hno,?_⟩
   have hz:(s.extract k x).size=x - k:=ext_size (by omega)
   have n0:nextB (s.extract k x) 0=nextB s k:=by rw [nextB_extract s k x 0 (by omega),if_pos (by omega)]; rfl
   have n1:nextB (s.extract k x) 1=nextB s (k+1):=by rw [nextB_extract s k x 1 (by omega),if_pos (by omega)]
   have n2:nextB (s.extract k x) 2=nextB s (k+1+1):=by rw [nextB_extract s k x 2 (by omega),if_pos (by omega)]
   have n3:nextB (s.extract k x) 3=nextB s (k+1+1+1):=by rw [nextB_extract s k x 3 (by omega),if_pos (by omega)]
   have so:sumOf (s.extract k x)=s.extract (k+4) x:=by
    unfold sumOf; rw [ext_ext (by omega) (by omega),show k+(s.extract k x).size=x by omega]
   have sz:(s.extract (k+4) x).size=x - (k+4):=ext_size (by omega)
   have hbang:¬ bangB (s.extract k x)=true:=by
    unfold bangB
    rw [so,sz,nextB_extract s (k+4) x _ (by omega),if_pos (by omega),show k+4+(x - (k+4) - 1)=x - 1 by omega]
    have:=(q4 (x - 1) (by omega) (by omega)).2.2
    simp [this]
   have hsum:sumB (s.extract (k+4) x) 6=true:=(sumB_acc _ _).2 q3
   refine ⟨⟨nextB s k,nextB s (k+1+1),k,(k:Int)+4,true,false,s.extract (k+4) x⟩,?_,⟨by omega,rfl,rfl,rfl,rfl,.inr ⟨rfl,by first | rfl | (simp only []; omega) | omega,by first | rfl | (simp only []; omega) | omega,by simp [h33],hs,rfl,by rw [hx],by omega⟩⟩⟩
   unfold fieldU
   rw [if_neg (by omega),n0,if_neg (lwr_b h0),n1,if_neg (by simp [h1]),n2,if_neg (by rw [h2]; decide),if_neg (by omega),n3,if_neg (by simp [h61]),if_neg hbang,so,if_pos hsum]
 ·rw [if_neg h61]
  simp only []
  refine ⟨by omega,fun j j1 j2=>hpre j j1 (by omega),?_⟩
  have hz:(s.extract k (k+1+1+1)).size=3:=by rw [ext_size (by omega)]; omega
  have n0:nextB (s.extract k (k+1+1+1)) 0=nextB s k:=by rw [nextB_extract s k _ 0 (by omega),if_pos (by omega)]; rfl
  have n1:nextB (s.extract k (k+1+1+1)) 1=nextB s (k+1):=by rw [nextB_extract s k _ 1 (by omega),if_pos (by omega)]
  have n2:nextB (s.extract k (k+1+1+1)) 2=nextB s (k+1+1):=by rw [nextB_extract s k _ 2 (by omega),if_pos (by omega)]
  refine ⟨⟨nextB s k,nextB s (k+1+1),k,0,false,false,⟨#[]⟩⟩,?_,⟨by omega,rfl,rfl,rfl,rfl,.inl ⟨rfl,rfl⟩⟩⟩
  unfold fieldU
  rw [if_neg (by omega),n0,if_neg (lwr_b h0),n1,if_neg (by simp [h1]),n2,if_neg (by rw [h2]; decide),if_pos hz]
set_option maxHeartbeats 1000000 in
theorem field_of (s:ByteArray) (k e:Nat) (hke:k≤e) (he:e≤s.size) (hx:nextB s e=44∨nextB s e=125) (g:GU) (hg:fieldU (s.extract k e) k=some g):(gdField upRule s k).ok=true∧(gdField upRule s k).at_=e:=by
 have hz:(s.extract k e).size=e - k:=ext_size he
 unfold fieldU at hg
 by_cases hs:(s.extract k e).size < 3
 ·rw [if_pos hs] at hg; cases hg
 rw [if_neg hs] at hg
 have n0:nextB (s.extract k e) 0=nextB s k:=by rw [nextB_extract s k e 0 he,if_pos (by omega)]; rfl
 have n1:nextB (s.extract k e) 1=nextB s (k+1):=by rw [nextB_extract s k e 1 he,if_pos (by omega)]
 have n2:nextB (s.extract k e) 2=nextB s (k+1+1):=by rw [nextB_extract s k e 2 he,if_pos (by omega)]
 rw [n0,n1,n2] at hg
 by_cases h0:lwr (nextB s k)
 rotate_left
 ·rw [if_pos (lwr_nb h0)] at hg; cases hg
 rw [if_neg (lwr_b h0)] at hg
 by_cases h1:nextB s (k+1)=58
 rotate_left
 ·rw [if_pos (by simp [h1])] at hg; cases hg
 rw [if_neg (by simp [h1])] at hg
 by_cases h2:isKindB (nextB s (k+1+1))=true
 rotate_left
 ·rw [if_pos (by simpa using h2)] at hg; cases hg
 rw [if_neg (by rw [h2]; decide)] at hg
 unfold gdField
 rw [if_neg (lwr_b h0),if_neg (by simp [h1]),if_neg (by rw [h2]; decide)]
 suffices hr:(upRule s (k+1+1+1)).ok=true∧(upRule s (k+1+1+1)).at_=e by
  rw [if_neg (by rw [hr.1]; decide)]; exact ⟨rfl,hr.2⟩
 unfold upRule
 by_cases h3:(s.extract k e).size=3
 ·have:k+1+1+1=e:=by omega
  rw [this,if_neg (by omega)]
  exact ⟨rfl,rfl⟩
 rw [if_neg h3] at hg
 have n3:nextB (s.extract k e) 3=nextB s (k+1+1+1):=by rw [nextB_extract s k e 3 he,if_pos (by omega)]
 rw [n3] at hg
 by_cases h61:nextB s (k+1+1+1)=61
 rotate_left
 ·rw [if_pos (by simp [h61])] at hg; cases hg
 rw [if_neg (by simp [h61])] at hg
 rw [if_pos h61]
 have so:sumOf (s.extract k e)=s.extract (k+4) e:=by
  unfold sumOf; rw [ext_ext (by omega) (by omega),show k+(s.extract k e).size=e by omega]
 have sz:(s.extract (k+4) e).size=e - (k+4):=ext_size he
 have e4:k+1+1+1+1=k+4:=by omega
 rw [e4]
 by_cases hb:bangB (s.extract k e)=true
 ·rw [if_pos hb] at hg
  have hcut:cutOf (s.extract k e)=s.extract (k+4) (e - 1):=by
   unfold cutOf; rw [so,sz]
   by_cases h4:k+4 < e
   ·rw [ext_ext (by omega) (by omega),Nat.add_zero,show k+4+(e - (k+4) - 1)=e - 1 by omega]
   ·unfold bangB at hb
    rw [so,sz,show e - (k+4)=0 by omega] at hb
    simp at hb
  rw [hcut] at hg
  by_cases hsum:sumB (s.extract (k+4) (e - 1)) 6=true
  rotate_left
  ·rw [if_neg hsum] at hg; cases hg
  unfold bangB at hb
  rw [so,sz] at hb
  simp only [Bool.and_eq_true,decide_eq_true_eq,beq_iff_eq] at hb
  rw [nextB_extract s (k+4) e _ he,if_pos (by omega),show k+4+(e - (k+4) - 1)=e - 1 by omega] at hb
  obtain ⟨a1,a2⟩:=sum_of (a:=k+4) (e:=e - 1) (by omega) (by omega) ((sumB_acc _ _).1 hsum) (.inl hb.2)
  rw [if_pos a1]
  simp only []
  rw [a2,if_pos hb.2]
  exact ⟨trivial,by omega⟩
 ·rw [if_neg hb,so] at hg
  by_cases hsum:sumB (s.extract (k+4) e) 6=true
  rotate_left
  ·rw [if_neg hsum] at hg; cases hg
  obtain ⟨a1,a2⟩:=sum_of (a:=k+4) (e:=e) (by omega) he ((sumB_acc _ _).1 hsum) (by omega)
  rw [if_pos a1]
  simp only []
  rw [a2,if_neg (by omega)]
  exact ⟨trivial,rfl⟩
end Go.Proofs.YtbgilndohccicaaGreatDoor
