import Derived.Test.YtbgilndohccicaaGreatDoorBz09
import Derived.Test.YtbgilndohccicaaGreatDoorBz01
import Derived.Test.YtbgilndohccicaaGreatDoorBz02
namespace Go.Proofs.YtbgilndohccicaaGreatDoor
open Go.RowKit
def Nf (l:List GF) (j:Nat):Int:=(l[j]?.getD noGF).n
def Pf (l:List GF) (j:Nat):Int:=(l[j]?.getD noGF).p
def DF (l:List GF) (p:Int):Prop:=VXs (Nf l) (Pf l) l.length p
theorem VX_congr {N P N' P':Nat→Int} {i k:Nat} {p:Int} (h:N i=N' i∧P i=P' i) (h':∀ j,j < k→N j=N' j):VX N P i k p↔VX N' P' i k p:=by
 constructor
 ·rintro ⟨j,h1,h2,h3⟩; exact ⟨j,h1,by rw [← h.1,← h' j h1]; exact h2,by rw [← h.2]; exact h3⟩
 ·rintro ⟨j,h1,h2,h3⟩; exact ⟨j,h1,by rw [h.1,h' j h1]; exact h2,by rw [h.2]; exact h3⟩
theorem VXs_congr {N P N' P':Nat→Int} {n:Nat} {p:Int} (h:∀ j,j < n→N j=N' j∧P j=P' j):VXs N P n p↔VXs N' P' n p:=by
 constructor
 ·rintro ⟨j,h1,h2⟩; exact ⟨j,h1,(VX_congr (h j h1) (fun i hi=>(h i (by omega)).1)).1 h2⟩
 ·rintro ⟨j,h1,h2⟩; exact ⟨j,h1,(VX_congr (h j h1) (fun i hi=>(h i (by omega)).1)).2 h2⟩
theorem get_snoc_lt {α:Type} (l:List α) (x d:α) (j:Nat) (h:j < l.length):(l++[x])[j]?.getD d=l[j]?.getD d:=by rw [List.getElem?_append_left h]
theorem get_snoc_len {α:Type} (l:List α) (x d:α):(l++[x])[l.length]?.getD d=x:=by simp
theorem DF_nil (p:Int):¬ DF [] p:=fun ⟨_,h,_⟩=>by simp at h
theorem DF_snoc (l:List GF) (f:GF) (p:Int):DF (l++[f]) p↔DF l p∨((∃ g∈l,g.n=f.n)∧p=f.p):=by
 have e:(l++[f]).length=l.length+1:=by simp
 have c:VXs (Nf (l++[f])) (Pf (l++[f])) l.length p↔DF l p:=VXs_congr fun j hj=>⟨by simp only [Nf]; rw [get_snoc_lt _ _ _ _ hj],by simp only [Pf]; rw [get_snoc_lt _ _ _ _ hj]⟩
 unfold DF
 rw [e,VXs_succ,c]
 refine or_congr Iff.rfl ?_
 constructor
 ·rintro ⟨k,hk,h1,h2⟩
  simp only [Nf,Pf] at h1 h2
  rw [get_snoc_len] at h1 h2
  rw [get_snoc_lt _ _ _ _ hk] at h1
  exact ⟨⟨l[k],List.getElem_mem hk,by rw [List.getElem?_eq_getElem hk] at h1; exact h1.symm⟩,h2⟩
 ·rintro ⟨⟨g,hg,h1⟩,h2⟩
  obtain ⟨k,hk,rfl⟩:=List.getElem_of_mem hg
  refine ⟨k,hk,?_,?_⟩
  ·simp only [Nf]; rw [get_snoc_len,get_snoc_lt _ _ _ _ hk,List.getElem?_eq_getElem hk]; exact h1.symm
  ·simp only [Pf]; rw [get_snoc_len]; exact h2
theorem Rep_nil (p:Int):¬ Rep [] p:=fun ⟨_,h,_⟩=>by simp at h
theorem Rep_snoc (cs:List GC) (c:GC) (p:Int):Rep (cs++[c]) p↔(Rep cs p∨((∃ g∈cs,g.n=c.n)∧p=c.p))∨DF c.l p:=by
 have e:(cs++[c]).length=cs.length+1:=by simp
 unfold Rep
 rw [e,VCs_succ]
 refine or_congr (or_congr ?_ ?_) ?_
 ·constructor
  ·rintro ⟨i,hi,h⟩
   refine ⟨i,hi,?_⟩
   rcases h with h | h
   ·exact .inl ((VX_congr ⟨by rw [get_snoc_lt _ _ _ _ hi],by rw [get_snoc_lt _ _ _ _ hi]⟩ (fun j hj=>by rw [get_snoc_lt _ _ _ _ (by omega)])).1 h)
   ·right; simpa only [get_snoc_lt _ _ _ _ hi] using h
  ·rintro ⟨i,hi,h⟩
   refine ⟨i,hi,?_⟩
   rcases h with h | h
   ·exact .inl ((VX_congr ⟨by rw [get_snoc_lt _ _ _ _ hi],by rw [get_snoc_lt _ _ _ _ hi]⟩ (fun j hj=>by rw [get_snoc_lt _ _ _ _ (by omega)])).2 h)
   ·right; simpa only [get_snoc_lt _ _ _ _ hi] using h
 ·constructor
  ·rintro ⟨k,hk,h1,h2⟩
   simp only [get_snoc_len] at h1 h2
   rw [get_snoc_lt _ _ _ _ hk,List.getElem?_eq_getElem hk] at h1
   exact ⟨⟨cs[k],List.getElem_mem hk,h1.symm⟩,h2⟩
  ·rintro ⟨⟨g,hg,h1⟩,h2⟩
   obtain ⟨k,hk,rfl⟩:=List.getElem_of_mem hg
   refine ⟨k,hk,?_,?_⟩
   ·simp only [get_snoc_len]; rw [get_snoc_lt _ _ _ _ hk,List.getElem?_eq_getElem hk]; exact h1.symm
   ·simp only [get_snoc_len]; exact h2
 ·simp only [get_snoc_len]; exact Iff.rfl
theorem Least.note {V:Int→Prop} {tw:Int} {k:Nat} (h:Least V tw) (hb:∀ p,V p→p < k):Least (fun p=>V p∨p=k) (noteI tw k):=by
 simp only [noteI]
 rcases h with ⟨h1,h2⟩ | ⟨h1,h2,h3⟩
 ·rw [if_pos h1]
  exact .inr ⟨by omega,.inr rfl,fun p hp=>by rcases hp with hp | hp; exact absurd hp (h2 p); omega⟩
 ·rw [if_neg (by omega)]
  exact .inr ⟨h1,.inl h2,fun p hp=>by rcases hp with hp | hp; exact h3 p hp; have:=hb tw h2; omega⟩
theorem Least.noteIf {V:Int→Prop} {tw:Int} {k:Nat} {c:Prop} [Decidable c] (h:Least V tw) (hb:∀ p,V p→p < k):Least (fun p=>V p∨(c∧p=k)) (if c then noteI tw k else tw):=by
 by_cases hc:c
 ·rw [if_pos hc]; exact (h.note hb).congr fun p=>by simp [hc]
 ·rw [if_neg hc]; exact h.congr fun p=>by simp [hc]
theorem idxF_iff (fs:List (Int×Int)) (x:Int):0≤idxF fs x↔∃ f∈fs,f.1=x:=by
 simp only [idxF]
 cases h:fs.findIdx? (fun p=>p.1==x) with
 | none =>
  rw [List.findIdx?_eq_none_iff] at h
  constructor
  ·intro h'; simp at h'
  ·rintro ⟨f,hf,rfl⟩; have:=h f hf; simp at this
 | some i =>
  rw [List.findIdx?_eq_some_iff_getElem] at h
  obtain ⟨hi,h1,_⟩:=h
  constructor
  ·intro _; exact ⟨fs[i],List.getElem_mem hi,by simpa using h1⟩
  ·intro _; simp
theorem gf_jump (t:ByteArray) (p:Int) (fr:Nat) (l:List GF):∀ d i,(∀ j,i≤j→j < i+d→j < t.size∧nextB t j≠44)→gfLoop t p (t.size+1 - i) i fr l=gfLoop t p (t.size+1 - (i+d)) (i+d) fr l:=by
 intro d
 induction d with
 | zero=>intro i _; rfl
 | succ d ih =>
  intro i h
  have h0:=h i (Nat.le_refl _) (by omega)
  have e:t.size+1 - i=(t.size+1 - (i+1))+1:=by omega
  rw [e,gfLoop,if_pos h0,ih (i+1) (fun j h1 h2=>h j (by omega) (by omega))]
  congr 1 <;> omega
theorem gf_at (t:ByteArray) (p:Int) (fr c:Nat) (l:List GF) (hc:c≤t.size) (h:c < t.size→nextB t c=44) :
  gfLoop t p (t.size+1 - c) c fr l=if fieldB (t.extract fr c)=false∨l.length=6 then none else gfLoop t p (t.size+1 - (c+1)) (c+1) (c+1) (l++[⟨nextB (t.extract fr c) 0,nextB (t.extract fr c) 2,p+fr⟩]):=by
 have e:t.size+1 - c=(t.size+1 - (c+1))+1:=by omega
 rw [e,gfLoop,if_neg (fun h'=>h'.2 (h h'.1))]
theorem next_comma (t:ByteArray):∀ n fr,fr+n=t.size→∃ c,fr≤c∧c≤t.size∧(∀ j,fr≤j→j < c→nextB t j≠44)∧(c < t.size→nextB t c=44):=by
 intro n
 induction n with
 | zero=>intro fr h; exact ⟨fr,Nat.le_refl _,by omega,fun j h1 h2=>by omega,fun h'=>by omega⟩
 | succ n ih =>
  intro fr h
  by_cases h0:nextB t fr=44
  ·exact ⟨fr,Nat.le_refl _,by omega,fun j h1 h2=>by omega,fun _=>h0⟩
  ·obtain ⟨c,h1,h2,h3,h4⟩:=ih (fr+1) (by omega)
   refine ⟨c,by omega,h2,fun j hj1 hj2=>?_,h4⟩
   rcases Nat.eq_or_lt_of_le hj1 with rfl | h'
   ·exact h0
   ·exact h3 j h' hj2
theorem gf_from (t:ByteArray) (p:Int) (fr c:Nat) (l:List GF) (h1:fr≤c) (h2:c≤t.size) (h3:∀ j,fr≤j→j < c→nextB t j≠44) (h4:c < t.size→nextB t c=44) :
  gfLoop t p (t.size+1 - fr) fr fr l=if fieldB (t.extract fr c)=false∨l.length=6 then none else gfLoop t p (t.size+1 - (c+1)) (c+1) (c+1) (l++[⟨nextB (t.extract fr c) 0,nextB (t.extract fr c) 2,p+fr⟩]):=by
 have:=gf_jump t p fr l (c - fr) fr (fun j a b=>⟨by omega,h3 j a (by omega)⟩)
 rw [this,show fr+(c - fr)=c by omega]
 exact gf_at t p fr c l h2 h4
theorem fieldB_iff (t:ByteArray) (fr c:Nat) (hc:c≤t.size):fieldB (t.extract fr c)=true↔c=fr+3∧97≤nextB t fr∧nextB t fr≤122∧nextB t (fr+1)=58∧isKindB (nextB t (fr+2))=true:=by
 have hsz:(t.extract fr c).size=min c t.size - fr:=ByteArray.size_extract
 simp only [fieldB,Bool.and_eq_true,decide_eq_true_eq,nextB_extract t fr c _ hc]
 constructor
 ·rintro ⟨⟨⟨⟨h1,h2⟩,h3⟩,h4⟩,h5⟩
  have e:c=fr+3:=by omega
  rw [if_pos (by omega)] at h2 h3 h4 h5
  exact ⟨e,h2,h3,h4,h5⟩
 ·rintro ⟨rfl,h2,h3,h4,h5⟩
  rw [if_pos (by omega),if_pos (by omega),if_pos (by omega)]
  exact ⟨⟨⟨⟨by omega,h2⟩,h3⟩,h4⟩,h5⟩
def gk (f:GF):Int×Int:=(f.n,f.k)
theorem fields_meet (s t:ByteArray) (a m:Nat) (hm:m < s.size) (hm125:nextB s m=125) (hno:∀ j,a≤j→j < m→nextB s j≠125) (ham:a≤m) (hts:t.size=m - a) (htn:∀ j,j < t.size→nextB t j=nextB s (a+j)) (A:Int→Prop) :
  ∀ n fr l tw,l.length+n=6→0 < n→fr≤t.size→Least (fun p=>A p∨DF l p) tw→(∀ p,A p∨DF l p→p < (a+fr:Nat)) →
   ((rdLoop s n (l.map gk) (a+fr) tw).ok=false∧gfLoop t a (t.size+1 - fr) fr fr l=none) ∨
   (∃ l',(rdLoop s n (l.map gk) (a+fr) tw).ok=true∧gfLoop t a (t.size+1 - fr) fr fr l=some l'∧(rdLoop s n (l.map gk) (a+fr) tw).at_=m+1∧(rdLoop s n (l.map gk) (a+fr) tw).fs=l'.map gk ∧
    Least (fun p=>A p∨DF l' p) (rdLoop s n (l.map gk) (a+fr) tw).tw∧(∀ p,A p∨DF l' p→p < (m:Nat))):=by
 intro n
 induction n with
 | zero=>intro fr l tw _ h; omega
 | succ n ih =>
  intro fr l tw hl _ hfr hL hB
  obtain ⟨c,c1,c2,c3,c4⟩:=next_comma t (t.size - fr) fr (by omega)
  have G:=gf_from t a fr c l c1 c2 c3 c4
  have FB:=fieldB_iff t fr c c2
  rw [rdLoop]
  by_cases h0:(rdField s (l.map gk) (a+fr) tw).ok=false
  ·rw [if_pos h0]
   refine .inl ⟨rfl,?_⟩
   suffices hfalse:fieldB (t.extract fr c)=false by rw [G,if_pos (.inl hfalse)]
   cases hf:fieldB (t.extract fr c) with
   | false=>rfl
   | true =>
    obtain ⟨rfl,f1,f2,f3,f4⟩:=FB.1 hf
    rw [htn fr (by omega)] at f1 f2
    rw [htn (fr+1) (by omega)] at f3
    rw [htn (fr+2) (by omega)] at f4
    rw [field_is s (l.map gk) (a+fr) tw f1 f2 (by rw [← f3]; congr 1) (by rw [← f4]; congr 2)] at h0
    cases h0
  rw [if_neg h0]
  obtain ⟨f1,f2,f3,f4,fe⟩:=field_at s (l.map gk) (a+fr) tw (by simpa using h0)
  rw [fe]
  simp only []
  have k1:isKindB (nextB s (a+fr+2))=true:=f4
  have kd:=isKindB_pos f4
  have kne:nextB s (a+fr+2)≠125∧nextB s (a+fr+2)≠44:=by
   constructor <;> (intro h; rw [h] at k1; simp [isKindB] at k1)
  have hq:a+fr+3≤m:=by
   rcases Nat.lt_or_ge m (a+fr+3) with h | h
   ·have hm':a+fr≤m:=by omega
    have:m=a+fr∨m=a+fr+1∨m=a+fr+2:=by omega
    rcases this with rfl | rfl | rfl
    ·omega
    ·omega
    ·exact absurd hm125 kne.1
   ·exact h
  have t0:nextB t fr=nextB s (a+fr):=htn fr (by omega)
  have t1:nextB t (fr+1)=nextB s (a+fr+1):=htn (fr+1) (by omega)
  have t2:nextB t (fr+2)=nextB s (a+fr+2):=htn (fr+2) (by omega)
  have hc3:fr+3≤c:=by
   rcases Nat.lt_or_ge c (fr+3) with h | h
   ·have hct:c < t.size:=by omega
    have:=c4 hct
    have h':c=fr∨c=fr+1∨c=fr+2:=by omega
    rcases h' with rfl | rfl | rfl
    ·omega
    ·omega
    ·rw [t2] at this; exact absurd this kne.2
   ·exact h
  have hstep:Least (fun p=>A p∨DF (l++[⟨nextB s (a+fr),nextB s (a+fr+2),((a+fr:Nat):Int)⟩]) p) (if 0≤idxF (l.map gk) (nextB s (a+fr)) then noteI tw (a+fr) else tw):=by
   refine (hL.noteIf (c:=0≤idxF (l.map gk) (nextB s (a+fr))) hB).congr fun p=>?_
   rw [DF_snoc,idxF_iff]
   simp only [List.mem_map,gk]
   constructor
   ·rintro ((h | h) | ⟨⟨_,⟨g,hg,rfl⟩,h1⟩,h2⟩)
    ·exact .inl h
    ·exact .inr (.inl h)
    ·exact .inr (.inr ⟨⟨g,hg,h1⟩,h2⟩)
   ·rintro (h | h | ⟨⟨g,hg,h1⟩,h2⟩)
    ·exact .inl (.inl h)
    ·exact .inl (.inr h)
    ·exact .inr ⟨⟨_,⟨g,hg,rfl⟩,h1⟩,h2⟩
  have hB':∀ p,A p∨DF (l++[⟨nextB s (a+fr),nextB s (a+fr+2),((a+fr:Nat):Int)⟩]) p→p < (a+fr+1:Nat):=by
   intro p hp
   rw [DF_snoc] at hp
   rcases hp with h | h | ⟨_,h⟩
   ·have:=hB p (.inl h); omega
   ·have:=hB p (.inr h); omega
   ·simp only at h; omega
  have hl6:¬ l.length=6:=by omega
  by_cases h125:nextB s (a+fr+3)=125
  ·have hme:a+fr+3=m:=by
    rcases Nat.lt_or_ge (a+fr+3) m with h | h
    ·exact absurd h125 (hno _ (by omega) h)
    ·omega
   have hce:c=fr+3:=by omega
   subst hce
   have hfb:fieldB (t.extract fr (fr+3))=true:=FB.2 ⟨rfl,by rw [t0]; exact f1,by rw [t0]; exact f2,by rw [t1]; exact f3,by rw [t2]; exact f4⟩
   rw [if_pos h125]
   refine .inr ⟨l++[⟨nextB s (a+fr),nextB s (a+fr+2),((a+fr:Nat):Int)⟩],rfl,?_,by simp only []; omega,by simp [gk],hstep,fun p hp=>by have:=hB' p hp; omega⟩
   rw [G,if_neg (by rw [hfb]; simp [hl6])]
   have:t.size+1 - (fr+3+1)=0:=by omega
   rw [this,gfLoop,nextB_extract t fr (fr+3) 0 c2,nextB_extract t fr (fr+3) 2 c2,if_pos (by omega),if_pos (by omega)]
   simp only [Nat.add_zero,t0,t2]
   simp
  rw [if_neg h125]
  have hmlt:a+fr+3 < m:=by
   rcases Nat.lt_or_ge (a+fr+3) m with h | h
   ·exact h
   ·have:a+fr+3=m:=by omega
    rw [this] at h125; exact absurd hm125 h125
  have t3:nextB t (fr+3)=nextB s (a+fr+3):=htn (fr+3) (by omega)
  by_cases h44:nextB s (a+fr+3)=44
  ·have hce:c=fr+3:=by
    rcases Nat.lt_or_ge (fr+3) c with h | h
    ·exact absurd (by rw [t3]; exact h44) (c3 (fr+3) (by omega) h)
    ·omega
   subst hce
   have hfb:fieldB (t.extract fr (fr+3))=true:=FB.2 ⟨rfl,by rw [t0]; exact f1,by rw [t0]; exact f2,by rw [t1]; exact f3,by rw [t2]; exact f4⟩
   rw [if_neg (show ¬ (fieldB (t.extract fr (fr+3))=false∨l.length=6) by rw [hfb]; simp [hl6]),nextB_extract t fr (fr+3) 0 c2,nextB_extract t fr (fr+3) 2 c2,if_pos (by omega),if_pos (by omega)] at G
   simp only [Nat.add_zero,t0,t2] at G
   rw [G]
   have hcast:(a:Int)+(fr:Int)=((a+fr:Nat):Int):=by omega
   rw [hcast]
   by_cases h5:l.length=5
   ·simp only [List.length_map]
    rw [if_pos (.inl h5)]
    refine .inl ⟨rfl,?_⟩
    obtain ⟨d,d1,d2,d3,d4⟩:=next_comma t (t.size - (fr+3+1)) (fr+3+1) (by omega)
    rw [gf_from t a (fr+3+1) d _ d1 d2 d3 d4,if_pos (.inr (by simp; omega))]
   ·simp only [List.length_map]
    rw [if_neg (by simp [h5,h44])]
    have:=ih (fr+3+1) (l++[⟨nextB s (a+fr),nextB s (a+fr+2),((a+fr:Nat):Int)⟩]) _ (by simp; omega) (by omega) (by omega) hstep (fun p hp=>by have:=hB' p hp; omega)
    rw [show a+(fr+3+1)=a+fr+3+1 by omega] at this
    simpa [gk] using this
  ·simp only [List.length_map]
   rw [if_pos (.inr h44)]
   refine .inl ⟨rfl,?_⟩
   suffices hfalse:fieldB (t.extract fr c)=false by rw [G,if_pos (.inl hfalse)]
   cases hf:fieldB (t.extract fr c) with
   | false=>rfl
   | true =>
    obtain ⟨hce,_⟩:=FB.1 hf
    subst hce
    have:=c4 (by omega)
    rw [t3] at this
    exact absurd this h44
end Go.Proofs.YtbgilndohccicaaGreatDoor
namespace Go.Proofs.YtbgilndohccicaaGreatDoor
open Go.RowKit
theorem class_meet (s:ByteArray) (k m:Nat) (hm:m < s.size) (hkm:k≤m) (hm125:nextB s m=125) (hno:∀ j,k≤j→j < m→nextB s j≠125) (cs:List GC) (tw:Int) (hL:Least (Rep cs) tw) (hB:∀ p,Rep cs p→p < (k:Nat)) :
  ((rdClass s (cs.map (·.n)) k tw).ok=false∧gfClass (s.extract k m) k=none) ∨
  (∃ r:Int×List GF,(rdClass s (cs.map (·.n)) k tw).ok=true∧gfClass (s.extract k m) k=some r∧(rdClass s (cs.map (·.n)) k tw).at_=m+1∧(rdClass s (cs.map (·.n)) k tw).l=r.1∧(rdClass s (cs.map (·.n)) k tw).fs=r.2.map gk ∧
   Least (Rep (cs++[⟨r.1,k,r.2⟩])) (rdClass s (cs.map (·.n)) k tw).tw∧(∀ p,Rep (cs++[⟨r.1,k,r.2⟩]) p→p < (m:Nat))):=by
 have hu0:=nextB_extract s k m 0 (by omega)
 have hu1:=nextB_extract s k m 1 (by omega)
 simp only [Nat.add_zero] at hu0
 simp only [rdClass]
 by_cases h0:nextB s k < 65∨90 < nextB s k
 ·rw [if_pos h0]
  refine .inl ⟨rfl,gfClass_letter ?_⟩
  rintro ⟨h1,h2⟩
  rw [hu0] at h1 h2
  split at h1 <;> simp_all <;> omega
 rw [if_neg h0]
 have hk:k < m:=by
  rcases Nat.eq_or_lt_of_le hkm with rfl | h
  ·omega
  ·exact h
 rw [if_pos hk] at hu0
 by_cases h1:nextB s (k+1)=123
 ·rw [if_pos h1]
  have hk1:k+1 < m:=by
   rcases Nat.lt_or_ge (k+1) m with h | h
   ·exact h
   ·have:k+1=m:=by omega
    rw [this] at h1; omega
  rw [if_pos hk1] at hu1
  have hA:Least (fun p=>Rep cs p∨((∃ g∈cs,g.n=nextB s k)∧p=k)) (if (cs.map (·.n)).any (fun p=>p==nextB s k)=true then noteI tw k else tw):=by
   refine (hL.noteIf (c:=(cs.map (·.n)).any (fun p=>p==nextB s k)=true) hB).congr fun p=>?_
   simp [List.any_eq_true]
  have hAB:∀ p,(Rep cs p∨((∃ g∈cs,g.n=nextB s k)∧p=k))→p < (k+2:Nat):=by
   rintro p (h | ⟨_,h⟩)
   ·have:=hB p h; omega
   ·omega
  generalize (if (cs.map (·.n)).any (fun p=>p==nextB s k)=true then noteI tw k else tw)=tw1 at hA ⊢
  have hus:(s.extract k m).size=m - k:=by have:(s.extract k m).size=min m s.size - k:=ByteArray.size_extract; omega
  have hts:((s.extract k m).extract 2 (s.extract k m).size).size=m - (k+2):=by
   have:((s.extract k m).extract 2 (s.extract k m).size).size=min (s.extract k m).size (s.extract k m).size - 2:=ByteArray.size_extract
   omega
  have htn:∀ j,j < ((s.extract k m).extract 2 (s.extract k m).size).size→nextB ((s.extract k m).extract 2 (s.extract k m).size) j=nextB s (k+2+j):=by
   intro j hj
   rw [nextB_extract (s.extract k m) 2 (s.extract k m).size j (Nat.le_refl _),if_pos (by omega),nextB_extract s k m (2+j) (by omega),if_pos (by omega),show k+(2+j)=k+2+j by omega]
  have hG:gfClass (s.extract k m) k=(gfFields ((s.extract k m).extract 2 (s.extract k m).size) ((k+2:Nat):Int)).map (fun l=>(nextB s k,l)):=by
   simp only [gfClass]
   rw [if_pos ⟨by rw [hu0]; omega,by rw [hu0]; omega,by rw [hu1]; exact h1⟩,hu0,show ((k:Int)+1+1)=((k+2:Nat):Int) by omega]
  generalize (s.extract k m).extract 2 (s.extract k m).size=t at hts htn hG
  rw [hG]
  by_cases h2:nextB s (k+2)=125
  ·have hme:k+2=m:=by
    rcases Nat.lt_or_ge (k+2) m with h | h
    ·exact absurd h2 (hno _ (by omega) h)
    ·omega
   have e1:rdFields s (k+2) tw1=⟨true,k+2+1,tw1,[]⟩:=by simp only [rdFields]; rw [if_pos h2]
   rw [e1,if_pos rfl]
   have e:gfFields t ((k+2:Nat):Int)=some []:=by simp only [gfFields]; rw [if_pos (by omega)]
   rw [e]
   refine .inr ⟨(nextB s k,[]),rfl,rfl,by simp only []; omega,rfl,rfl,hA.congr fun p=>?_,fun p hp=>?_⟩
   ·rw [Rep_snoc]; simp [DF_nil]
   ·rw [Rep_snoc] at hp
    rcases hp with hp | hp
    ·have:=hAB p (by simpa using hp); omega
    ·exact absurd hp (DF_nil p)
  ·have hmlt:k+2 < m:=by
    rcases Nat.lt_or_ge (k+2) m with h | h
    ·exact h
    ·have:k+2=m:=by omega
     rw [this] at h2; exact absurd hm125 h2
   have e1:rdFields s (k+2) tw1=rdLoop s 6 [] (k+2) tw1:=by simp only [rdFields]; rw [if_neg h2]
   rw [e1]
   have e:gfFields t ((k+2:Nat):Int)=gfLoop t ((k+2:Nat):Int) (t.size+1) 0 0 []:=by simp only [gfFields]; rw [if_neg (by omega)]
   rw [e]
   have M:=fields_meet s t (k+2) m hm hm125 (fun j h1 h2=>hno j (by omega) h2) (by omega) hts htn (fun p=>Rep cs p∨((∃ g∈cs,g.n=nextB s k)∧p=k)) 6 0 [] tw1 rfl (by omega) (Nat.zero_le _)
    (hA.congr fun p=>by simp [DF_nil]) (fun p hp=>by rcases hp with hp | hp; exact hAB p hp; exact absurd hp (DF_nil p))
   simp only [Nat.add_zero,List.map_nil,Nat.sub_zero] at M
   rcases M with ⟨m1,m2⟩ | ⟨l',m1,m2,m3,m4,m5,m6⟩
   ·rw [m2,if_neg (by rw [m1]; simp)]
    exact .inl ⟨rfl,rfl⟩
   ·rw [m2,if_pos m1]
    refine .inr ⟨(nextB s k,l'),rfl,rfl,m3,rfl,m4,m5.congr fun p=>?_,fun p hp=>?_⟩
    ·rw [Rep_snoc]
    ·rw [Rep_snoc] at hp; exact m6 p hp
 ·rw [if_neg h1]
  refine .inl ⟨rfl,?_⟩
  simp only [gfClass]
  rw [if_neg]
  rintro ⟨_,_,h3⟩
  rw [hu1] at h3
  split at h3
  ·exact h1 h3
  ·omega
theorem ga_jump (s:ByteArray) (fr:Nat) (l:List GC):∀ d i,(∀ j,i≤j→j < i+d→j < s.size∧nextB s j≠125)→gaLoop s (s.size - i) i fr l=gaLoop s (s.size - (i+d)) (i+d) fr l:=by
 intro d
 induction d with
 | zero=>intro i _; rfl
 | succ d ih =>
  intro i h
  have h0:=h i (Nat.le_refl _) (by omega)
  have e:s.size - i=(s.size - (i+1))+1:=by omega
  rw [e,gaLoop,if_neg h0.2,ih (i+1) (fun j h1 h2=>h j (by omega) (by omega))]
  congr 1 <;> omega
theorem next_brace (s:ByteArray):∀ n k,k+n=s.size→(∃ m,k≤m∧m < s.size∧nextB s m=125∧∀ j,k≤j→j < m→nextB s j≠125)∨(∀ j,k≤j→nextB s j≠125):=by
 intro n
 induction n with
 | zero=>intro k h; exact .inr fun j hj=>by rw [nextB_out (by omega)]; omega
 | succ n ih =>
  intro k h
  by_cases h0:nextB s k=125
  ·exact .inl ⟨k,Nat.le_refl _,by omega,h0,fun j h1 h2=>by omega⟩
  ·rcases ih (k+1) (by omega) with ⟨m,h1,h2,h3,h4⟩ | h1
   ·refine .inl ⟨m,by omega,h2,h3,fun j hj1 hj2=>?_⟩
    rcases Nat.eq_or_lt_of_le hj1 with rfl | h'
    ·exact h0
    ·exact h4 j h' hj2
   ·refine .inr fun j hj=>?_
    rcases Nat.eq_or_lt_of_le hj with rfl | h'
    ·exact h0
    ·exact h1 j h'
theorem ga_none (s:ByteArray) (k:Nat) (l:List GC) (hk:k≤s.size) (h:∀ j,k≤j→nextB s j≠125):gaLoop s (s.size - k) k k l=some (l,k):=by
 have:=ga_jump s k l (s.size - k) k (fun j h1 h2=>⟨by omega,h j h1⟩)
 rw [this,show s.size - (k+(s.size - k))=0 by omega,gaLoop]
theorem ga_at (s:ByteArray) (k m:Nat) (l:List GC) (hkm:k≤m) (hm:m < s.size) (h125:nextB s m=125) (h:∀ j,k≤j→j < m→nextB s j≠125) :
  gaLoop s (s.size - k) k k l=match gfClass (s.extract k m) k with
   | none=>none
   | some r=>if l.length=6 then none else gaLoop s (s.size - (m+1)) (m+1) (m+1) (l++[⟨r.1,k,r.2⟩]):=by
 have:=ga_jump s k l (m - k) k (fun j h1 h2=>⟨by omega,h j h1 (by omega)⟩)
 rw [this,show k+(m - k)=m by omega,show s.size - m=(s.size - (m+1))+1 by omega,gaLoop,if_pos h125]
 cases gfClass (s.extract k m) k <;> rfl
def gaFin (s:ByteArray):Option (List GC×Nat)→Option (List GC)
 | none=>none
 | some r=>if 0 < r.1.length∧r.2=s.size then some r.1 else none
theorem gaAll_fin (s:ByteArray):gaAll s=gaFin s (gaLoop s s.size 0 0 []):=by
 simp only [gaAll]
 cases gaLoop s s.size 0 0 [] <;> rfl
def gcl (c:GC):Int×List (Int×Int):=(c.n,c.l.map gk)
theorem all_meet (s:ByteArray):∀ n cs k tw,cs.length+n=6→(k < s.size∨cs=[])→k≤s.size→Least (Rep cs) tw→(∀ p,Rep cs p→p < (k:Nat)) →
  ((rcLoop s n (cs.map gcl) k tw).ok=false∧gaFin s (gaLoop s (s.size - k) k k cs)=none) ∨
  (∃ cs',(rcLoop s n (cs.map gcl) k tw).ok=true∧gaFin s (gaLoop s (s.size - k) k k cs)=some cs'∧(rcLoop s n (cs.map gcl) k tw).cs=cs'.map gcl∧Least (Rep cs') (rcLoop s n (cs.map gcl) k tw).tw):=by
 intro n
 induction n with
 | zero =>
  intro cs k tw hl hk hks _ _
  have hk':k < s.size:=by
   rcases hk with h | h
   ·exact h
   ·subst h; simp at hl
  refine .inl ⟨rfl,?_⟩
  rcases next_brace s (s.size - k) k (by omega) with ⟨m,h1,h2,h3,h4⟩ | h1
  ·rw [ga_at s k m cs h1 h2 h3 h4]
   cases gfClass (s.extract k m) k with
   | none=>rfl
   | some r=>simp only []; rw [if_pos (by omega)]; rfl
  ·rw [ga_none s k cs hks h1]
   simp only [gaFin]
   rw [if_neg (by omega)]
 | succ n ih =>
  intro cs k tw hl hk hks hL hB
  have hmap:(cs.map gcl).map (·.1)=cs.map (·.n):=by simp [gcl,Function.comp_def]
  rw [rcLoop,hmap]
  rcases next_brace s (s.size - k) k (by omega) with ⟨m,h1,h2,h3,h4⟩ | h1
  ·have C:=class_meet s k m h2 h1 h3 h4 cs tw hL hB
   generalize rdClass s (cs.map (·.n)) k tw=r at C ⊢
   rw [ga_at s k m cs h1 h2 h3 h4]
   rcases C with ⟨c1,c2⟩ | ⟨g,c1,c2,c3,c4,c5,c6,c7⟩
   ·rw [c2,if_pos c1]; exact .inl ⟨rfl,rfl⟩
   ·rw [c2,if_neg (by rw [c1]; simp)]
    simp only []
    rw [if_neg (show ¬ cs.length=6 by omega),c3,c4,c5]
    by_cases he:m+1=s.size
    ·rw [if_pos he]
     refine .inr ⟨cs++[⟨g.1,k,g.2⟩],rfl,?_,by simp [gcl],c6⟩
     rw [show s.size - (m+1)=0 by omega,gaLoop]
     simp only [gaFin]
     rw [if_pos ⟨by simp,he⟩]
    ·rw [if_neg he]
     have:=ih (cs++[⟨g.1,k,g.2⟩]) (m+1) r.tw (by simp; omega) (.inl (by omega)) (by omega) c6 (fun p hp=>by have:=c7 p hp; omega)
     simpa [gcl] using this
  ·have hf:(rdClass s (cs.map (·.n)) k tw).ok=false:=by
    cases h:(rdClass s (cs.map (·.n)) k tw).ok with
    | false=>rfl
    | true =>
     obtain ⟨j,j1,_,j3,_⟩:=class_end s _ k tw h
     exact absurd j3 (h1 j j1)
   rw [if_pos hf,ga_none s k cs hks h1]
   refine .inl ⟨rfl,?_⟩
   simp only [gaFin]
   rw [if_neg]
   rintro ⟨h2,h3⟩
   rcases hk with h | h
   ·omega
   ·subst h; simp at h2
theorem read_meet (s:ByteArray):((readR s).ok=false∧gaAll s=none)∨(∃ cs,(readR s).ok=true∧gaAll s=some cs∧(readR s).cs=cs.map gcl∧Least (Rep cs) (readR s).tw):=by
 have:=all_meet s 6 [] 0 (-1) rfl (.inr rfl) (Nat.zero_le _) (.inl ⟨rfl,fun p=>Rep_nil p⟩) (fun p hp=>absurd hp (Rep_nil p))
 simp only [Nat.sub_zero,List.map_nil] at this
 rw [gaAll_fin]
 exact this
theorem ga_accepts (s:ByteArray):(gaAll s).isSome=true↔accepts s:=by
 rw [← (read_accepts s).1]
 rcases read_meet s with ⟨h1,h2⟩ | ⟨cs,h1,h2,_⟩ <;> rw [h1,h2] <;> simp
theorem begins_iff (p:ByteArray):beginsB p=true↔(dr p 0 (.q0 0)).1=p.size:=by
 constructor
 ·intro h
  have h':begin1 p∨begin2 p:=by
   by_cases h1:begin1 p
   ·exact .inl h1
   ·by_cases h2:begin2 p
    ·exact .inr h2
    ·rw [begins_no h1 h2] at h; cases h
  rcases h' with ⟨j,_,h⟩ | ⟨j,_,h | h⟩
  ·exact ahead_of_accepts ((ga_accepts _).1 h)
  ·exact ahead_of_accepts ((ga_accepts _).1 h)
  ·rw [ByteArray.append_assoc] at h
   exact ahead_of_accepts ((ga_accepts _).1 h)
 ·intro h
  obtain ⟨j,hj,ha⟩:=begins_of_ahead h
  exact begins_1 ⟨j,hj,(ga_accepts _).2 ha⟩
theorem ahead_goes (s:ByteArray) (i:Nat) (hi:i≤s.size):(dr (s.extract 0 i) 0 (.q0 0)).1=(s.extract 0 i).size↔i≤(dr s 0 (.q0 0)).1:=by
 have hsz:(s.extract 0 i).size=i:=by have:(s.extract 0 i).size=min i s.size - 0:=ByteArray.size_extract; omega
 have A:=dr_agree (s.extract 0 i) s (by omega) (fun j hj=>by rw [nextB_extract s 0 i j hi,if_pos (by omega),Nat.zero_add]) (.q0 0)
 rw [hsz] at A ⊢
 by_cases h:(dr (s.extract 0 i) 0 (.q0 0)).1 < i
 ·rw [A.1 h]
  omega
 ·have:=A.2 h
  have g:=dr_ge s i (dr (s.extract 0 i) 0 (.q0 0)).2 hi
  rw [this.1]
  omega
theorem wrong_is (s:ByteArray):∀ n i,i+n=s.size→i≤(dr s 0 (.q0 0)).1→wrongN s n i=(dr s 0 (.q0 0)).1:=by
 intro n
 induction n with
 | zero =>
  intro i hi h
  have:=(dr_ge s 0 (.q0 0) (Nat.zero_le _)).2
  rw [wrongN]; omega
 | succ n ih =>
  intro i hi h
  rw [wrongN]
  have P:=ahead_goes s (i+1) (by omega)
  rw [← begins_iff] at P
  by_cases hb:beginsB (s.extract 0 (i+1))=true
  ·rw [if_pos hb]
   exact ih (i+1) (by omega) (P.1 hb)
  ·rw [if_neg hb]
   have:¬ i+1≤(dr s 0 (.q0 0)).1:=fun h'=>hb (P.2 h')
   omega
theorem least_unique {V:Int→Prop} {a b:Int} (h:Least V a) (h':Least V b):a=b:=by
 rcases h with ⟨h1,h2⟩ | ⟨h1,h2,h3⟩ <;> rcases h' with ⟨g1,g2⟩ | ⟨g1,g2,g3⟩
 ·omega
 ·exact absurd g2 (h2 b)
 ·exact absurd h2 (g2 a)
 ·have:=h3 b g2; have:=g3 a h2; omega
theorem agree (s:ByteArray) (E P:Int) (h:SchemaR s E P):E=readE s∧P=readP s:=by
 simp only [readE,readP]
 rcases h with ⟨h,rfl,rfl⟩ | ⟨h,hn,rfl,rfl⟩ | ⟨h,cs,b,hs,hL,hb⟩
 ·rw [if_pos h,if_pos h]; exact ⟨rfl,rfl⟩
 ·rw [if_neg h,if_neg h]
  rcases read_meet s with ⟨h1,_⟩ | ⟨cs,_,h2,_⟩
  ·rw [if_pos h1,if_pos h1,(read_accepts s).2 h1,wrong_is s s.size 0 (by omega) (Nat.zero_le _)]
   exact ⟨rfl,rfl⟩
  ·rw [hn] at h2; cases h2
 ·rw [if_neg h,if_neg h]
  rcases read_meet s with ⟨_,h2⟩ | ⟨cs',h1,h2,_,h4⟩
  ·rw [hs] at h2; cases h2
  ·rw [hs] at h2
   injection h2 with h2
   subst h2
   have e:=least_unique hL h4
   have hne:¬ (readR s).ok=false:=by rw [h1]; simp
   rw [if_neg hne,if_neg hne,← e]
   rcases hb with ⟨h0,rfl,rfl⟩ | ⟨h0,rfl,rfl⟩
   ·rw [if_neg (by omega),if_neg (by omega)]; exact ⟨rfl,rfl⟩
   ·have hm:b=-1:=by
     rcases hL with ⟨h,_⟩ | ⟨h,_⟩
     ·exact h
     ·omega
    rw [if_pos hm,if_pos hm]; exact ⟨rfl,rfl⟩
end Go.Proofs.YtbgilndohccicaaGreatDoor
namespace Go.Proofs.YtbgilndohccicaaGreatDoor
def okF (f:Int×Int):Prop:=97≤f.1∧f.1≤122∧isKindB f.2=true
theorem rdField_fine (s:ByteArray) (fs:List (Int×Int)) (k:Nat) (tw:Int) (h:(rdField s fs k tw).ok≠false):okF ((rdField s fs k tw).l,(rdField s fs k tw).kd):=by
 unfold rdField at h ⊢
 split at h
 ·simp at h
 ·rename_i h1
  rw [if_neg h1]
  split at h
  ·rename_i h2
   rw [if_pos h2]
   split at h
   ·rename_i h3
    rw [if_pos h3]
    exact ⟨by simp only []; omega,by simp only []; omega,h3⟩
   ·simp at h
  ·simp at h
theorem rdLoop_fine (s:ByteArray):∀ n fs k tw,fs.length+n≤6→(∀ f∈fs,okF f)→(rdLoop s n fs k tw).fs.length≤6∧∀ f∈(rdLoop s n fs k tw).fs,okF f:=by
 intro n
 induction n with
 | zero=>intro fs k tw _ _; simp [rdLoop]
 | succ n ih =>
  intro fs k tw hl hf
  rw [rdLoop]
  split
  ·simp
  ·rename_i h1
   have hfine:=rdField_fine s fs k tw h1
   have hall:∀ f∈fs++[((rdField s fs k tw).l,(rdField s fs k tw).kd)],okF f:=by
    intro f hm
    rcases List.mem_append.1 hm with hm | hm
    ·exact hf f hm
    ·simp only [List.mem_singleton] at hm; rw [hm]; exact hfine
   split
   ·exact ⟨by simp; omega,hall⟩
   ·split
    ·simp
    ·exact ih _ _ _ (by simp; omega) hall
theorem rdFields_fine (s:ByteArray) (k:Nat) (tw:Int):(rdFields s k tw).fs.length≤6∧∀ f∈(rdFields s k tw).fs,okF f:=by
 unfold rdFields
 split
 ·simp
 ·exact rdLoop_fine s 6 [] k tw (by simp) (by simp)
def okC (c:Int×List (Int×Int)):Prop:=c.2.length≤6∧∀ f∈c.2,okF f
theorem rdClass_fine (s:ByteArray) (ls:List Int) (k:Nat) (tw:Int):okC ((rdClass s ls k tw).l,(rdClass s ls k tw).fs):=by
 unfold rdClass
 split
 ·exact ⟨by simp,by simp⟩
 ·split
  ·generalize (if (ls.any fun p=>p==nextB s k)=true then noteI tw k else tw)=t
   split
   ·exact rdFields_fine s _ _
   ·exact ⟨by simp,by simp⟩
  ·exact ⟨by simp,by simp⟩
theorem rcLoop_fine (s:ByteArray):∀ n cs k tw,cs.length+n≤6→(∀ c∈cs,okC c)→(rcLoop s n cs k tw).cs.length≤6∧∀ c∈(rcLoop s n cs k tw).cs,okC c:=by
 intro n
 induction n with
 | zero=>intro cs k tw _ _; simp [rcLoop]
 | succ n ih =>
  intro cs k tw hl hf
  rw [rcLoop]
  split
  ·simp
  ·have hfine:=rdClass_fine s (cs.map (·.1)) k tw
   have hall:∀ c∈cs++[((rdClass s (cs.map (·.1)) k tw).l,(rdClass s (cs.map (·.1)) k tw).fs)],okC c:=by
    intro f hm
    rcases List.mem_append.1 hm with hm | hm
    ·exact hf f hm
    ·simp only [List.mem_singleton] at hm; rw [hm]; exact hfine
   split
   ·exact ⟨by simp; omega,hall⟩
   ·exact ih _ _ _ (by simp; omega) hall
theorem readC_fine (s:ByteArray):(readC s).length≤6∧∀ c∈readC s,okC c:=by
 have h:(readR s).cs.length≤6∧∀ c∈(readR s).cs,okC c:=rcLoop_fine s 6 [] 0 (-1) (by simp) (by simp)
 unfold readC
 split
 ·simp
 ·split
  ·simp
  ·split
   ·exact h
   ·simp
end Go.Proofs.YtbgilndohccicaaGreatDoor
namespace Go.Proofs.YtbgilndohccicaaGreatDoor
open Go.RowKit
theorem RVcellsK {w:World} {base:Nat} {v:Value} {l:List GF} (h:RV w base v l) :
  ∃ a cap,v=.slice a l.length cap∧(0 < l.length→∃ g,a=some ⟨g,0,none⟩∧base≤g∧g < w.heap.size∧∀ i,i < l.length→RowK w g i (l[i]?.getD noGF).n (l[i]?.getD noGF).k):=by
 rcases h.2 with ⟨rfl,hn⟩ | ⟨g,cap,cur,rfl,hbg,hg,h1,h2,_⟩
 ·exact ⟨none,0,by rw [hn],fun h=>by omega⟩
 ·refine ⟨_,cap,rfl,fun _=>⟨g,rfl,hbg,(Array.getElem?_eq_some_iff.1 hg).1,fun i hi=>?_⟩⟩
  have c:=World.ownsRow.cells h (g:=g) rfl
  have e:∀ o u,o < 7→(GF.cells (l[i]?.getD noGF))[o]?=some u→w.cell? ⟨g,i * 7+o,none⟩=some u:=by
   intro o u ho hu
   rw [← add_off]
   refine c _ _ ?_
   rw [← hu]
   exact flat_get GF.cells 7 (fun _=>rfl) l noGF i o hi ho
  exact ⟨e 0 _ (by omega) rfl,e 1 _ (by omega) rfl⟩
def kxOf (vs:List GV) (g cap:Nat):KX:=⟨g,cap,fun i=>(vs[i]?.getD noGV).v.a,fun i=>match (vs[i]?.getD noGV).v.a with | some a=>a.block | none=>0,fun i=>(vs[i]?.getD noGV).v.c⟩
theorem cat_gcl (cs:List GC) (i:Nat) (hi:i < cs.length):cat (cs.map gcl) i=gcl (cs[i]?.getD noGC):=by
 unfold cat; rw [List.getElem?_map,List.getElem?_eq_getElem hi]; rfl
theorem gk_get (l:List GF) (j:Nat) (hj:j < l.length):(l.map gk)[j]?.getD (0,0)=((l[j]?.getD noGF).n,(l[j]?.getD noGF).k):=by
 rw [List.getElem?_map,List.getElem?_eq_getElem hj]; rfl
theorem RCls.kc {w:World} {base:Nat} {v:Value} {vs:List GV} {cs:List GC} (h:RCls w base v vs cs) (hne:cs≠[]) :
  ∃ g cap,v=.slice (some ⟨g,0,none⟩) cs.length cap∧KC w (kxOf vs g cap) (cs.map gcl)∧(∀ b,(kxOf vs g cap).has (cs.map gcl) b→base≤b):=by
 obtain ⟨g,cap,e,hg,_,hc⟩:=h.cells hne
 have hl:=h.len
 have hbg:base≤g:=(World.ownsRow.lt h.row g (by rw [e]; rfl)).1
 have hRV:∀ i,i < cs.length→∃ x c,vs[i]?=some x∧cs[i]?=some c∧x.n=c.n∧RV w base x.v.val c.l:=by
  intro i hi
  have h1:vs[i]?=some (vs[i]'(by omega)):=List.getElem?_eq_getElem _
  have h2:cs[i]?=some (cs[i]'hi):=List.getElem?_eq_getElem _
  obtain ⟨a,_,c⟩:=h.fld i _ _ h1 h2
  exact ⟨_,_,h1,h2,a,c⟩
 have hfld:∀ i j,i < cs.length→j < (cs[i]?.getD noGC).l.length→(kxOf vs g cap).FA i=some ⟨(kxOf vs g cap).FG i,0,none⟩∧base≤(kxOf vs g cap).FG i∧(kxOf vs g cap).FG i < w.heap.size∧RowK w ((kxOf vs g cap).FG i) j ((cs[i]?.getD noGC).l[j]?.getD noGF).n ((cs[i]?.getD noGC).l[j]?.getD noGF).k:=by
  intro i j hi hj
  obtain ⟨x,c,h1,h2,h3,h5⟩:=hRV i hi
  rw [h2] at hj ⊢
  simp only [kxOf,h1,Option.getD_some] at hj ⊢
  obtain ⟨ra,rc,rv,r⟩:=RVcellsK h5
  obtain ⟨g',rfl,hbg',hg',hcell⟩:=r (by omega)
  have e:x.v.a=some ⟨g',0,none⟩:=by
   have:(Value.slice x.v.a x.v.n x.v.c)=.slice (some ⟨g',0,none⟩) c.l.length rc:=rv
   injection this
  rw [e]
  exact ⟨rfl,hbg',hg',hcell j hj⟩
 have hclen:∀ i,i < cs.length→(cat (cs.map gcl) i).2.length=(cs[i]?.getD noGC).l.length:=fun i hi=>by rw [cat_gcl cs i hi]; simp [gcl]
 refine ⟨g,cap,e,⟨hg,fun i hi=>?_,fun i j hi hj=>?_⟩,?_⟩
 ·rw [List.length_map] at hi
  obtain ⟨x,c,h1,h2,h3,h5⟩:=hRV i hi
  have:=hc i hi
  rw [h1] at this
  obtain ⟨ra,rc,rv,_⟩:=RVcellsK h5
  have e:x.v.n=c.l.length:=by
   have:(Value.slice x.v.a x.v.n x.v.c)=.slice ra c.l.length rc:=rv
   injection this
  rw [hclen i hi,cat_gcl cs i hi,h2]
  obtain ⟨c0,c1,c2,c3,c4⟩:=this
  simp only [Option.getD_some,gcl,kxOf,h1] at c0 c4 ⊢
  rw [h3] at c0; rw [e] at c4
  exact ⟨c0,c4⟩
 ·rw [List.length_map] at hi
  rw [hclen i hi] at hj
  obtain ⟨a1,_,a3,a4⟩:=hfld i j hi hj
  refine ⟨a1,a3,?_⟩
  rw [cat_gcl cs i hi]
  show RowK w _ j (((cs[i]?.getD noGC).l.map gk)[j]?.getD (0,0)).1 (((cs[i]?.getD noGC).l.map gk)[j]?.getD (0,0)).2
  rw [gk_get _ j hj]
  exact a4
 ·rintro b (rfl | ⟨i,hi,h0,rfl⟩)
  ·exact hbg
  ·rw [List.length_map] at hi
   rw [hclen i hi] at h0
   exact (hfld i 0 hi h0).2.1
end Go.Proofs.YtbgilndohccicaaGreatDoor
