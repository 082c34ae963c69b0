import Derived.Test.YtbgilndohccicaaGreatDoorBz35
namespace Go.Proofs.YtbgilndohccicaaGreatDoor
open Go.RowKit
def FMs (s:ByteArray):Nat→Nat→List GFd→List GU→Prop
 | lo,hi,[],[]=>lo≤hi
 | lo,hi,f :: fs,g :: gs=>∃ k e,lo≤k∧FM s k e f g∧FMs s e hi fs gs
 | _,_,_,_=>False
theorem FMs_le {s:ByteArray}:∀ {fs:List GFd} {gs:List GU} {lo hi:Nat},FMs s lo hi fs gs→lo≤hi:=by
 intro fs
 induction fs with
 | nil=>intro gs lo hi h; cases gs with
  | nil=>exact h
  | cons g gs=>exact h.elim
 | cons f fs ih=>intro gs lo hi h; cases gs with
  | nil=>exact h.elim
  | cons g gs =>
   obtain ⟨k,e,h1,h2,h3⟩:=h
   have:=ih h3
   have:=h2.le
   omega
theorem FMs_hi {s:ByteArray}:∀ {fs:List GFd} {gs:List GU} {lo hi hi':Nat},FMs s lo hi fs gs→hi≤hi'→FMs s lo hi' fs gs:=by
 intro fs
 induction fs with
 | nil=>intro gs lo hi hi' h hh; cases gs with
  | nil=>exact Nat.le_trans h hh
  | cons g gs=>exact h.elim
 | cons f fs ih=>intro gs lo hi hi' h hh; cases gs with
  | nil=>exact h.elim
  | cons g gs =>
   obtain ⟨k,e,h1,h2,h3⟩:=h
   exact ⟨k,e,h1,h2,ih h3 hh⟩
theorem FMs_lo {s:ByteArray} {fs:List GFd} {gs:List GU} {lo lo' hi:Nat} (h:FMs s lo hi fs gs) (hh:lo'≤lo):FMs s lo' hi fs gs:=by
 cases fs with
 | nil=>cases gs with
  | nil=>exact Nat.le_trans hh h
  | cons g gs=>exact h.elim
 | cons f fs=>cases gs with
  | nil=>exact h.elim
  | cons g gs =>
   obtain ⟨k,e,h1,h2,h3⟩:=h
   exact ⟨k,e,Nat.le_trans hh h1,h2,h3⟩
theorem FMs_snoc {s:ByteArray} {k k' e:Nat} {f:GFd} {g:GU} (hf:FM s k' e f g) (hk:k≤k'):∀ {fs:List GFd} {gs:List GU} {lo:Nat},FMs s lo k fs gs→FMs s lo e (fs++[f]) (gs++[g]):=by
 intro fs
 induction fs with
 | nil=>intro gs lo h; cases gs with
  | nil=>exact ⟨k',e,Nat.le_trans h hk,hf,Nat.le_refl _⟩
  | cons g gs=>exact h.elim
 | cons f fs ih=>intro gs lo h; cases gs with
  | nil=>exact h.elim
  | cons g gs =>
   obtain ⟨k1,e1,h1,h2,h3⟩:=h
   exact ⟨k1,e1,h1,h2,ih h3⟩
theorem FMs_len {s:ByteArray}:∀ {fs:List GFd} {gs:List GU} {lo hi:Nat},FMs s lo hi fs gs→fs.length=gs.length:=by
 intro fs
 induction fs with
 | nil=>intro gs lo hi h; cases gs with
  | nil=>rfl
  | cons g gs=>exact h.elim
 | cons f fs ih=>intro gs lo hi h; cases gs with
  | nil=>exact h.elim
  | cons g gs =>
   obtain ⟨k,e,h1,h2,h3⟩:=h
   simp [ih h3]
theorem uf_jump (t:ByteArray) (p:Int) (fr:Nat) (l:List GU):∀ d i,(∀ j,i≤j→j < i+d→j < t.size∧nextB t j≠44)→ufLoop t p (t.size+1 - i) i fr l=ufLoop t p (t.size+1 - (i+d)) (i+d) fr l:=by
 intro d
 induction d with
 | zero=>intro i _; rfl
 | succ d ih =>
  intro i h
  have h0:=h i (Nat.le_refl _) (by omega)
  have e:t.size+1 - i=(t.size+1 - (i+1))+1:=by omega
  rw [e,ufLoop,if_pos h0,ih (i+1) (fun j h1 h2=>h j (by omega) (by omega)),show i+1+d=i+(d+1) by omega]
theorem uf_from (t:ByteArray) (p:Int) (fr c:Nat) (l:List GU) (h1:fr≤c) (h2:c≤t.size) (h3:∀ j,fr≤j→j < c→nextB t j≠44) (h4:c < t.size→nextB t c=44) :
  ufLoop t p (t.size+1 - fr) fr fr l=match fieldU (t.extract fr c) (p+fr) with
   | none=>none
   | some g=>if l.length=6 then none else ufLoop t p (t.size+1 - (c+1)) (c+1) (c+1) (l++[g]):=by
 have:=uf_jump t p fr l (c - fr) fr (fun j a b=>⟨by omega,h3 j a (by omega)⟩)
 rw [this,show fr+(c - fr)=c by omega]
 have e:t.size+1 - c=(t.size+1 - (c+1))+1:=by omega
 rw [e,ufLoop,if_neg (fun h'=>h'.2 (h4 h'.1))]
 cases fieldU (t.extract fr c) (p+fr) <;> rfl
theorem ufields_meet (s:ByteArray) (a m:Nat) (hm:m < s.size) (hm125:nextB s m=125) (hno:∀ j,a≤j→j < m→nextB s j≠125) (ham:a≤m) :
  ∀ n fr l fs,fs.length+n=6→0 < n→a+fr≤m→FMs s a (a+fr) fs l →
   ((gdLoop upRule s n fs (a+fr)).ok=false∧ufLoop (s.extract a m) a ((s.extract a m).size+1 - fr) fr fr l=none) ∨
   (∃ l',(gdLoop upRule s n fs (a+fr)).ok=true∧ufLoop (s.extract a m) a ((s.extract a m).size+1 - fr) fr fr l=some l'∧(gdLoop upRule s n fs (a+fr)).at_=m+1∧FMs s a m (gdLoop upRule s n fs (a+fr)).fs l'):=by
 have hts:(s.extract a m).size=m - a:=ext_size (by omega)
 have htn:∀ j,j < m - a→nextB (s.extract a m) j=nextB s (a+j):=fun j hj=>by rw [nextB_extract s a m j (by omega),if_pos (by omega)]
 intro n
 induction n with
 | zero=>intro fr l fs _ h; omega
 | succ n ih =>
  intro fr l fs hl _ hfr hF
  have hlen:=FMs_len hF
  obtain ⟨c,c1,c2,c3,c4⟩:=next_comma (s.extract a m) (m - a - fr) fr (by rw [hts]; omega)
  rw [hts] at c2 c4
  have hce:nextB s (a+c)=44∨nextB s (a+c)=125:=by
   rcases Nat.lt_or_ge c (m - a) with h | h
   ·left; rw [← htn c h]; exact c4 h
   ·right; rw [show a+c=m by omega]; exact hm125
  have G:=uf_from (s.extract a m) a fr c l c1 (by rw [hts]; exact c2) c3 (fun h=>c4 (by rw [hts] at h; exact h))
  rw [ext_ext (by omega) (by omega),show (a:Int)+(fr:Int)=((a+fr:Nat):Int) by omega] at G
  have hnoK:∀ j,a+fr≤j→j < a+c→nextB s j≠44:=by
   intro j h1 h2
   have:=c3 (j - a) (by omega) (by omega)
   rw [htn (j - a) (by omega),show a+(j - a)=j by omega] at this
   exact this
  have FY:=field_yes s (a+fr)
  have FO:=field_of s (a+fr) (a+c) (by omega) (by omega) hce
  rw [gdLoop]
  generalize gdField upRule s (a+fr)=r at FY FO ⊢
  by_cases h0:r.ok=false
  ·rw [if_pos h0]
   refine .inl ⟨rfl,?_⟩
   rw [G]
   cases hg:fieldU (s.extract (a+fr) (a+c)) ((a+fr:Nat):Int) with
   | none=>rfl
   | some g=>rw [(FO g hg).1] at h0; cases h0
  rw [if_neg h0]
  have hok:r.ok=true:=by simpa using h0
  obtain ⟨y1,y2,g,y3,y4⟩:=FY hok
  have y5:=y4.le
  have hle:r.at_≤a+c:=by
   rcases Nat.lt_or_ge (a+c) r.at_ with h | h
   ·have:=y2 (a+c) (by omega) h; omega
   ·exact h
  by_cases h125:nextB s r.at_=125
  ·have e1:r.at_=m:=by
    rcases Nat.lt_or_ge r.at_ m with h | h
    ·exact absurd h125 (hno _ (by omega) h)
    ·omega
   have e2:a+c=m:=by omega
   rw [if_pos h125]
   refine .inr ⟨l++[g],rfl,?_,by simp only []; omega,?_⟩
   ·rw [e1,← e2] at y3
    rw [G,y3]
    simp only []
    rw [if_neg (by omega),hts,show m - a+1 - (c+1)=0 by omega,ufLoop]
   ·have:=FMs_snoc y4 (Nat.le_refl _) hF
    rw [e1] at this; exact this
  rw [if_neg h125]
  by_cases h44:nextB s r.at_=44
  ·have e1:r.at_=a+c:=by
    rcases Nat.lt_or_ge r.at_ (a+c) with h | h
    ·exact absurd h44 (hnoK _ (by omega) h)
    ·omega
   have hcm:a+c < m:=by
    rcases Nat.lt_or_ge (a+c) m with h | h
    ·exact h
    ·have:r.at_=m:=by omega
     rw [this] at h125; exact absurd hm125 h125
   have hF':=FMs_snoc y4 (Nat.le_refl _) hF
   rw [e1] at y3
   rw [G,y3]
   simp only []
   rw [if_neg (show ¬ l.length=6 by omega)]
   by_cases h5:fs.length=5
   ·rw [if_pos (.inl h5)]
    refine .inl ⟨rfl,?_⟩
    obtain ⟨d,d1,d2,d3,d4⟩:=next_comma (s.extract a m) (m - a - (c+1)) (c+1) (by rw [hts]; omega)
    rw [uf_from (s.extract a m) a (c+1) d _ d1 d2 d3 d4]
    cases fieldU ((s.extract a m).extract (c+1) d) (a+(c+1:Nat)) with
    | none=>rfl
    | some g'=>simp only []; rw [if_pos (by simp; omega)]
   ·rw [if_neg (by omega)]
    have:=ih (c+1) (l++[g]) (fs++[r.f]) (by simp; omega) (by omega) (by omega) (FMs_hi hF' (by omega))
    rw [show a+(c+1)=r.at_+1 by omega] at this
    exact this
  ·rw [if_pos (.inr h44)]
   refine .inl ⟨rfl,?_⟩
   rw [G]
   cases hg:fieldU (s.extract (a+fr) (a+c)) ((a+fr:Nat):Int) with
   | none=>rfl
   | some g' =>
    have:=(FO g' hg).2
    rw [this] at h44 h125
    omega
structure CM (s:ByteArray) (lo hi:Nat) (c:GCd) (h:HC):Prop where
 le:lo+2≤hi
 n:h.n=c.l
 s_:h.s=c.fl
 p:c.p=lo
 hp:h.p=lo
 src:c.fl≠0→h.sa=(lo+2:Nat)∧c.fp=(lo+2:Nat)
 srclt:c.fl≠0→lo+2 < hi
 fs:FMs s (lo+2) hi c.fs h.l
theorem uflds_meet (s:ByteArray) (a m:Nat) (hm:m < s.size) (hm125:nextB s m=125) (hno:∀ j,a≤j→j < m→nextB s j≠125) (ham:a≤m) :
  ((gdFields upRule s a).ok=false∧ufFields (s.extract a m) a=none) ∨
  (∃ l',(gdFields upRule s a).ok=true∧ufFields (s.extract a m) a=some l'∧(gdFields upRule s a).at_=m+1∧FMs s a m (gdFields upRule s a).fs l'):=by
 have hts:(s.extract a m).size=m - a:=ext_size (by omega)
 unfold gdFields ufFields
 by_cases h:nextB s a=125
 ·have e:a=m:=by
   rcases Nat.lt_or_ge a m with h' | h'
   ·exact absurd h (hno _ (Nat.le_refl _) h')
   ·omega
  rw [if_pos h,if_pos (by omega)]
  exact .inr ⟨[],rfl,rfl,by simp only []; omega,by show a≤m; omega⟩
 ·have h':a < m:=by
   rcases Nat.eq_or_lt_of_le ham with rfl | h'
   ·exact absurd hm125 h
   ·exact h'
  rw [if_neg h,if_neg (by omega)]
  have M:=ufields_meet s a m hm hm125 hno ham 6 0 [] [] rfl (by omega) (by omega) (by show a≤a+0; omega)
  simp only [Nat.add_zero,Nat.sub_zero] at M
  exact M
theorem upr_b {x:Int} (h:upr x):¬ (decide (65≤x) && decide (x≤90))=false:=by
 simp only [Bool.and_eq_false_iff,decide_eq_false_iff_not]; rintro (h' | h'); exact h' h.1; exact h' h.2
theorem upr_nb {x:Int} (h:¬ upr x):(decide (65≤x) && decide (x≤90))=false:=by
 simp only [Bool.and_eq_false_iff,decide_eq_false_iff_not]; unfold upr at h; omega
set_option maxHeartbeats 1000000 in
theorem uclass_meet (s:ByteArray) (k m:Nat) (hm:m < s.size) (hkm:k≤m) (hm125:nextB s m=125) (hno:∀ j,k≤j→j < m→nextB s j≠125) :
  ((gdClass upRule upFrom s k).ok=false∧ugClass (s.extract k m) k=none) ∨
  (∃ r:UR,(gdClass upRule upFrom s k).ok=true∧ugClass (s.extract k m) k=some r∧(gdClass upRule upFrom s k).at_=m+1∧CM s k m (gdClass upRule upFrom s k).c ⟨r.n,r.s,k,r.sa,r.l⟩):=by
 have hus:(s.extract k m).size=m - k:=ext_size (by omega)
 have hu:∀ i,nextB (s.extract k m) i=if k+i < m then nextB s (k+i) else 0:=fun i=>nextB_extract s k m i (by omega)
 have hlt:∀ i,k+i≤m→nextB s (k+i)≠125→k+i < m:=by
  intro i h1 h2
  rcases Nat.eq_or_lt_of_le h1 with h | h
  ·rw [h] at h2; exact absurd hm125 h2
  ·exact h
 by_cases h0:upr (nextB s k)
 rotate_left
 ·have eP:gdClass upRule upFrom s k=⟨false,k,zC⟩:=by unfold gdClass; rw [if_pos (upr_nb h0)]
  rw [eP]
  refine .inl ⟨rfl,ugClass_letter ?_⟩
  rw [hu 0]
  intro h
  apply h0
  split at h
  ·exact h
  ·omega
 have k0:k < m:=hlt 0 hkm (by unfold upr at h0; show nextB s k≠125; omega)
 have u0:nextB (s.extract k m) 0=nextB s k:=by rw [hu 0,if_pos (show k+0 < m from k0)]; rfl
 have u1:nextB (s.extract k m) 1=if k+1 < m then nextB s (k+1) else 0:=hu 1
 by_cases h60:nextB s (k+1)=60
 ·have k1:k+1 < m:=hlt 1 (by omega) (by omega)
  rw [if_pos k1] at u1
  have n123:¬ nextB s (k+1)=123:=by omega
  by_cases hup:65≤nextB s (k+1+1)∧nextB s (k+1+1)≤90
  rotate_left
  ·have ef:upFrom s (k+1)=⟨false,k+1+1,0,0⟩:=by unfold upFrom; rw [if_pos h60,if_neg hup]
   have eP:gdClass upRule upFrom s k=⟨false,k+1+1,zC⟩:=by unfold gdClass; rw [if_neg (upr_b h0),ef,if_pos rfl]
   have eR:ugClass (s.extract k m) k=none:=by
    unfold ugClass
    rw [u0,u1,if_pos h0,if_neg n123,if_neg]
    rintro ⟨_,h3,_⟩
    rw [hu 2] at h3
    split at h3
    ·exact hup h3
    ·omega
   rw [eP,eR]; exact .inl ⟨rfl,rfl⟩
  have ef:upFrom s (k+1)=⟨true,k+1+2,nextB s (k+1+1),((k+1+1:Nat):Int)⟩:=by unfold upFrom; rw [if_pos h60,if_pos hup]
  have k2:k+2 < m:=hlt 2 (by omega) (by rw [show k+2=k+1+1 from rfl]; omega)
  have u2:nextB (s.extract k m) 2=nextB s (k+1+1):=by rw [hu 2,if_pos k2]
  have u3:nextB (s.extract k m) 3=if k+3 < m then nextB s (k+3) else 0:=hu 3
  by_cases h3:nextB s (k+1+2)=123
  rotate_left
  ·have eP:gdClass upRule upFrom s k=⟨false,k+1+2,zC⟩:=by
    unfold gdClass; rw [if_neg (upr_b h0),ef,if_neg (show ¬ true=false by decide),if_pos (by simp [h3])]
   have eR:ugClass (s.extract k m) k=none:=by
    unfold ugClass
    rw [u0,u1,if_pos h0,if_neg n123,if_neg]
    rintro ⟨_,_,h4⟩
    rw [u3] at h4
    split at h4
    ·exact h3 h4
    ·omega
   rw [eP,eR]; exact .inl ⟨rfl,rfl⟩
  have k3:k+3 < m:=hlt 3 (by omega) (by rw [show k+3=k+1+2 from rfl]; omega)
  rw [if_pos k3] at u3
  have M:=uflds_meet s (k+4) m hm hm125 (fun j h1 h2=>hno j (by omega) h2) (by omega)
  have eR:ugClass (s.extract k m) k=(ufFields (s.extract (k+4) m) ((k+4:Nat):Int)).map (fun l=>⟨nextB s k,nextB s (k+1+1),(k:Int)+2,l⟩):=by
   unfold ugClass
   rw [u0,u1,u2,u3,if_pos h0,if_neg n123,if_pos ⟨h60,hup,h3⟩,ext_ext (by omega) (by omega),show k+(s.extract k m).size=m by omega,show ((k:Int)+3+1)=((k+4:Nat):Int) by omega]
  have eP:gdClass upRule upFrom s k=if (gdFields upRule s (k+4)).ok=false then ⟨false,(gdFields upRule s (k+4)).at_,zC⟩ else ⟨true,(gdFields upRule s (k+4)).at_,⟨nextB s k,k,nextB s (k+1+1),((k+1+1:Nat):Int),(gdFields upRule s (k+4)).fs⟩⟩:=by
   unfold gdClass; rw [if_neg (upr_b h0),ef,if_neg (show ¬ true=false by decide),if_neg (by simp [h3])]
  rw [eP,eR]
  rcases M with ⟨m1,m2⟩ | ⟨l',m1,m2,m3,m4⟩
  ·rw [m2,if_pos m1]; exact .inl ⟨rfl,rfl⟩
  ·rw [m2,if_neg (by rw [m1]; decide)]
   exact .inr ⟨_,rfl,rfl,m3,⟨by omega,rfl,rfl,rfl,rfl,fun _=>⟨by first | rfl | (simp only []; omega) | omega,by first | rfl | (simp only []; omega)⟩,fun _=>k2,FMs_lo m4 (by omega)⟩⟩
 ·have ef:upFrom s (k+1)=⟨true,k+1,0,0⟩:=by unfold upFrom; rw [if_neg h60]
  by_cases h3:nextB s (k+1)=123
  rotate_left
  ·have eP:gdClass upRule upFrom s k=⟨false,k+1,zC⟩:=by
    unfold gdClass; rw [if_neg (upr_b h0),ef,if_neg (show ¬ true=false by decide),if_pos (by simp [h3])]
   have eR:ugClass (s.extract k m) k=none:=by
    have a1:¬ nextB (s.extract k m) 1=123:=by rw [u1]; split <;> omega
    have a2:¬ nextB (s.extract k m) 1=60:=by rw [u1]; split <;> omega
    unfold ugClass
    rw [u0,if_pos h0,if_neg a1,if_neg (fun h=>a2 h.1)]
   rw [eP,eR]; exact .inl ⟨rfl,rfl⟩
  have k1:k+1 < m:=hlt 1 (by omega) (by omega)
  rw [if_pos k1] at u1
  have M:=uflds_meet s (k+2) m hm hm125 (fun j h1 h2=>hno j (by omega) h2) (by omega)
  have eR:ugClass (s.extract k m) k=(ufFields (s.extract (k+2) m) ((k+2:Nat):Int)).map (fun l=>⟨nextB s k,0,0,l⟩):=by
   unfold ugClass
   rw [u0,u1,if_pos h0,if_pos h3,ext_ext (by omega) (by omega),show k+(s.extract k m).size=m by omega,show ((k:Int)+1+1)=((k+2:Nat):Int) by omega]
  have eP:gdClass upRule upFrom s k=if (gdFields upRule s (k+2)).ok=false then ⟨false,(gdFields upRule s (k+2)).at_,zC⟩ else ⟨true,(gdFields upRule s (k+2)).at_,⟨nextB s k,k,0,0,(gdFields upRule s (k+2)).fs⟩⟩:=by
   unfold gdClass; rw [if_neg (upr_b h0),ef,if_neg (show ¬ true=false by decide),if_neg (by simp [h3])]
  rw [eP,eR]
  rcases M with ⟨m1,m2⟩ | ⟨l',m1,m2,m3,m4⟩
  ·rw [m2,if_pos m1]; exact .inl ⟨rfl,rfl⟩
  ·rw [m2,if_neg (by rw [m1]; decide)]
   exact .inr ⟨_,rfl,rfl,m3,⟨by omega,rfl,rfl,rfl,rfl,fun h=>absurd rfl h,fun h=>absurd rfl h,m4⟩⟩
def CMs (s:ByteArray):Nat→Nat→List GCd→List HC→Prop
 | lo,hi,[],[]=>lo≤hi
 | lo,hi,c :: cs,h :: hs=>∃ k e,lo≤k∧CM s k e c h∧CMs s (e+1) hi cs hs
 | _,_,_,_=>False
theorem CMs_snoc {s:ByteArray} {k k' e:Nat} {c:GCd} {h:HC} (hc:CM s k' e c h) (hk:k≤k'):∀ {cs:List GCd} {hs:List HC} {lo:Nat},CMs s lo k cs hs→CMs s lo (e+1) (cs++[c]) (hs++[h]):=by
 intro cs
 induction cs with
 | nil=>intro hs lo hh; cases hs with
  | nil=>exact ⟨k',e,Nat.le_trans hh hk,hc,Nat.le_refl _⟩
  | cons g gs=>exact hh.elim
 | cons f fs ih=>intro hs lo hh; cases hs with
  | nil=>exact hh.elim
  | cons g gs =>
   obtain ⟨k1,e1,h1,h2,h3⟩:=hh
   exact ⟨k1,e1,h1,h2,ih h3⟩
theorem CMs_le {s:ByteArray}:∀ {cs:List GCd} {hs:List HC} {lo hi:Nat},CMs s lo hi cs hs→lo≤hi:=by
 intro cs
 induction cs with
 | nil=>intro hs lo hi h; cases hs with
  | nil=>exact h
  | cons g gs=>exact h.elim
 | cons f fs ih=>intro hs lo hi h; cases hs with
  | nil=>exact h.elim
  | cons g gs =>
   obtain ⟨k,e,h1,h2,h3⟩:=h
   have:=ih h3
   have:=h2.le
   omega
theorem CMs_len {s:ByteArray}:∀ {cs:List GCd} {hs:List HC} {lo hi:Nat},CMs s lo hi cs hs→cs.length=hs.length:=by
 intro cs
 induction cs with
 | nil=>intro hs lo hi h; cases hs with
  | nil=>rfl
  | cons g gs=>exact h.elim
 | cons f fs ih=>intro hs lo hi h; cases hs with
  | nil=>exact h.elim
  | cons g gs =>
   obtain ⟨k,e,h1,h2,h3⟩:=h
   simp [ih h3]
theorem ha_jump (s:ByteArray) (fr:Nat) (l:List HC):∀ d i,(∀ j,i≤j→j < i+d→j < s.size∧nextB s j≠125)→haLoop s (s.size - i) i fr l=haLoop s (s.size - (i+d)) (i+d) fr l:=by
 intro d
 induction d with
 | zero=>intro i _; rfl
 | succ d ih =>
  intro i h
  have h0:=h i (Nat.le_refl _) (by omega)
  have e:s.size - i=(s.size - (i+1))+1:=by omega
  rw [e,haLoop,if_neg h0.2,ih (i+1) (fun j h1 h2=>h j (by omega) (by omega)),show i+1+d=i+(d+1) by omega]
theorem ha_none (s:ByteArray) (k:Nat) (l:List HC) (hk:k≤s.size) (h:∀ j,k≤j→nextB s j≠125):haLoop s (s.size - k) k k l=some (l,k):=by
 have:=ha_jump s k l (s.size - k) k (fun j h1 h2=>⟨by omega,h j h1⟩)
 rw [this,show s.size - (k+(s.size - k))=0 by omega,haLoop]
theorem ha_at (s:ByteArray) (k m:Nat) (l:List HC) (hkm:k≤m) (hm:m < s.size) (h125:nextB s m=125) (h:∀ j,k≤j→j < m→nextB s j≠125) :
  haLoop s (s.size - k) k k l=match ugClass (s.extract k m) k with
   | none=>none
   | some r=>if l.length=6 then none else haLoop s (s.size - (m+1)) (m+1) (m+1) (l++[⟨r.n,r.s,k,r.sa,r.l⟩]):=by
 have:=ha_jump s k l (m - k) k (fun j h1 h2=>⟨by omega,h j h1 (by omega)⟩)
 rw [this,show k+(m - k)=m by omega,show s.size - m=(s.size - (m+1))+1 by omega,haLoop,if_pos h125]
 cases ugClass (s.extract k m) k <;> rfl
def haFin (s:ByteArray):Option (List HC×Nat)→Option (List HC)
 | none=>none
 | some r=>if 0 < r.1.length∧r.2=s.size then some r.1 else none
theorem haAll_fin (s:ByteArray):haAll s=haFin s (haLoop s s.size 0 0 []):=by
 simp only [haAll]
 cases haLoop s s.size 0 0 [] <;> rfl
theorem uclass_ge (s:ByteArray) (k:Nat) (h:(gdClass upRule upFrom s k).ok=true) (hn:∀ j,k≤j→nextB s j≠125):False:=by
 obtain ⟨j,hj,h125,he⟩:=uclass_end s k h
 rcases Nat.lt_or_ge j k with hlt | hge
 ·have A:=(uclass_ud s 0 k (by omega)).1 h
  have B:k≤(ud s k (U 0 0 0)).1∨¬ k≤s.size:=by
   by_cases hk:k≤s.size
   ·left
    have:∀ n i u,i+n=s.size→i≤(ud s i u).1:=by
     intro n
     induction n with
     | zero=>intro i u hi; rw [ud_end (by omega)]; exact Nat.le_refl _
     | succ n ih =>
      intro i u hi
      cases hg:u.go (nextB s i) with
      | none=>rw [ud_stop hg]; exact Nat.le_refl _
      | some u'=>rw [ud_step hg]; have:=ih (i+1) u' (by omega); omega
    exact this (s.size - k) k _ (by omega)
   ·exact .inr hk
  have hk:k < s.size:=by
   unfold gdClass at h
   split at h
   ·cases h
   ·rename_i h0
    simp only [Bool.and_eq_false_iff,decide_eq_false_iff_not] at h0
    exact nextB_pos (by omega)
  have h1:upr (nextB s k):=by
   unfold gdClass at h
   split at h
   ·cases h
   ·rename_i h0
    simp only [Bool.and_eq_false_iff,decide_eq_false_iff_not] at h0
    unfold upr; omega
  have hst:∀ n fs i,i≤(gdLoop upRule s n fs i).at_:=by
   intro n
   induction n with
   | zero=>intro fs i; rw [gdLoop]; exact Nat.le_refl _
   | succ n ih =>
    intro fs i
    have hfi:i≤(gdField upRule s i).at_:=by
     cases hok:(gdField upRule s i).ok with
     | true=>have:=(field_yes s i hok).2.2; obtain ⟨g,_,fm⟩:=this; have:=fm.le; omega
     | false =>
      unfold gdField at hok ⊢
      split
      ·exact Nat.le_refl _
      ·split
       ·exact Nat.le_succ _
       ·split
        ·exact Nat.le_add_right i 2
        ·rename_i q1 q2 q3
         rw [if_neg q1,if_neg q2,if_neg q3] at hok
         split at hok
         ·rename_i q4
          rw [if_pos q4]
          simp only []
          unfold upRule at q4 ⊢
          split
          ·rename_i q5
           rw [if_pos q5] at q4
           split
           ·rename_i q6; rw [if_pos q6] at q4; cases q4
           ·have:=sum_ge s (i+1+1+1+1); simp only []; omega
          ·exact Nat.le_add_right i 3
         ·cases hok
    rw [gdLoop]
    split
    ·exact hfi
    ·split
     ·simp only []; omega
     ·split
      ·exact hfi
      ·have:=ih (fs++[(gdField upRule s i).f]) ((gdField upRule s i).at_+1); omega
  have hfs:∀ i,i≤(gdFields upRule s i).at_:=by
   intro i
   unfold gdFields
   split
   ·exact Nat.le_succ _
   ·exact hst 6 [] i
  unfold gdClass at he h
  split at h
  ·cases h
  ·rename_i q1
   rw [if_neg q1] at he
   split at h
   ·cases h
   ·rename_i q2
    rw [if_neg q2] at he
    split at h
    ·cases h
    ·rename_i q3
     rw [if_neg q3] at he
     split at h
     ·cases h
     ·rename_i q4
      rw [if_neg q4] at he
      have q5:=hfs ((upFrom s (k+1)).at_+1)
      have q6:k+1≤(upFrom s (k+1)).at_:=by
       unfold upFrom
       split
       ·split
        ·exact Nat.le_add_right _ 2
        ·exact Nat.le_succ _
       ·exact Nat.le_refl _
      simp only [] at he
      omega
 ·exact hn j hge h125
theorem uall_meet (s:ByteArray):∀ n cs hs k,cs.length+n=6→(k < s.size∨cs=[])→k≤s.size→CMs s 0 k cs hs →
  ((gcLoop upRule upFrom s n cs k).ok=false∧haFin s (haLoop s (s.size - k) k k hs)=none) ∨
  (∃ hs',(gcLoop upRule upFrom s n cs k).ok=true∧haFin s (haLoop s (s.size - k) k k hs)=some hs'∧CMs s 0 s.size (gcLoop upRule upFrom s n cs k).cs hs'):=by
 intro n
 induction n with
 | zero =>
  intro cs hs k hl hk hks hC
  have hlen:=CMs_len hC
  have hk':k < s.size:=by
   rcases hk with h | h
   ·exact h
   ·subst h; simp at hl
  refine .inl ⟨rfl,?_⟩
  rcases next_brace s (s.size - k) k (by omega) with ⟨m,h1,h2,h3,h4⟩ | h1
  ·rw [ha_at s k m hs h1 h2 h3 h4]
   cases ugClass (s.extract k m) k with
   | none=>rfl
   | some r=>simp only []; rw [if_pos (by omega)]; rfl
  ·rw [ha_none s k hs hks h1]
   simp only [haFin]
   rw [if_neg (by omega)]
 | succ n ih =>
  intro cs hs k hl hk hks hC
  have hlen:=CMs_len hC
  rw [gcLoop]
  rcases next_brace s (s.size - k) k (by omega) with ⟨m,h1,h2,h3,h4⟩ | h1
  ·have C:=uclass_meet s k m h2 h1 h3 h4
   generalize gdClass upRule upFrom s k=r at C ⊢
   rw [ha_at s k m hs h1 h2 h3 h4]
   rcases C with ⟨c1,c2⟩ | ⟨g,c1,c2,c3,c4⟩
   ·rw [c2,if_pos c1]; exact .inl ⟨rfl,rfl⟩
   ·rw [c2,if_neg (by rw [c1]; simp)]
    simp only []
    rw [if_neg (show ¬ hs.length=6 by omega),c3]
    have hC':=CMs_snoc c4 (Nat.le_refl _) hC
    by_cases he:m+1=s.size
    ·rw [if_pos he]
     refine .inr ⟨hs++[⟨g.n,g.s,k,g.sa,g.l⟩],rfl,?_,by rw [← he]; exact hC'⟩
     rw [show s.size - (m+1)=0 by omega,haLoop]
     simp only [haFin]
     rw [if_pos ⟨by simp,he⟩]
    ·rw [if_neg he]
     exact ih (cs++[r.c]) (hs++[⟨g.n,g.s,k,g.sa,g.l⟩]) (m+1) (by simp; omega) (.inl (by omega)) (by omega) hC'
  ·have hf:(gdClass upRule upFrom s k).ok=false:=by
    cases h:(gdClass upRule upFrom s k).ok with
    | false=>rfl
    | true=>exact (uclass_ge s k h h1).elim
   rw [if_pos hf,ha_none s k hs hks h1]
   refine .inl ⟨rfl,?_⟩
   simp only [haFin]
   rw [if_neg]
   rintro ⟨h2,h3⟩
   rcases hk with h | h
   ·omega
   ·subst h; simp at hlen; omega
theorem uread_meet (s:ByteArray):((uR s).ok=false∧haAll s=none)∨(∃ hs,(uR s).ok=true∧haAll s=some hs∧CMs s 0 s.size (uR s).cs hs):=by
 have:=uall_meet s 6 [] [] 0 rfl (.inr rfl) (Nat.zero_le _) (Nat.le_refl _)
 simp only [Nat.sub_zero] at this
 rw [haAll_fin]
 exact this
end Go.Proofs.YtbgilndohccicaaGreatDoor
namespace Go.Proofs.YtbgilndohccicaaGreatDoor
open Go.RowKit
theorem ha_accepts (s:ByteArray):(haAll s).isSome=true↔uaccepts s:=by
 rw [← (uread_accepts s).1]
 rcases uread_meet s with ⟨h1,h2⟩ | ⟨cs,h1,h2,_⟩ <;> rw [h1,h2] <;> simp
theorem udN_agree (p s:ByteArray) (hag:∀ j,j < p.size→nextB p j=nextB s j):∀ n i q,i+n=p.size →
  ((ud p i q).1 < p.size→ud s i q=ud p i q)∧(¬ (ud p i q).1 < p.size→ud s i q=ud s p.size (ud p i q).2∧(ud p i q).1=p.size):=by
 intro n
 induction n with
 | zero =>
  intro i q hi
  have:i=p.size:=by omega
  subst this
  rw [ud_end (s:=p) (by omega)]
  exact ⟨fun h=>by simp at h,fun _=>⟨rfl,rfl⟩⟩
 | succ n ih =>
  intro i q hi
  have hlt:i < p.size:=by omega
  cases hg:q.go (nextB p i) with
  | none =>
   rw [ud_stop hg,ud_stop (s:=s) (by rw [← hag i hlt]; exact hg)]
   exact ⟨fun _=>rfl,fun h=>absurd hlt h⟩
  | some q' =>
   rw [ud_step hg,ud_step (s:=s) (by rw [← hag i hlt]; exact hg)]
   exact ih (i+1) q' (by omega)
theorem ud_agree (p s:ByteArray) (hag:∀ j,j < p.size→nextB p j=nextB s j) (q:USt) :
  ((ud p 0 q).1 < p.size→ud s 0 q=ud p 0 q)∧(¬ (ud p 0 q).1 < p.size→ud s 0 q=ud s p.size (ud p 0 q).2∧(ud p 0 q).1=p.size) :=
 udN_agree p s hag p.size 0 q (by omega)
theorem udN_ge (s:ByteArray):∀ n i q,i+n=s.size→i≤(ud s i q).1∧(ud s i q).1≤s.size:=by
 intro n
 induction n with
 | zero=>intro i q hi; rw [ud_end (by omega)]; exact ⟨Nat.le_refl _,by simp; omega⟩
 | succ n ih =>
  intro i q hi
  cases hg:q.go (nextB s i) with
  | none=>rw [ud_stop hg]; exact ⟨Nat.le_refl _,by simp; omega⟩
  | some q' =>
   rw [ud_step hg]
   have:=ih (i+1) q' (by omega)
   omega
theorem ud_ge (s:ByteArray) (i:Nat) (q:USt) (hi:i≤s.size):i≤(ud s i q).1∧(ud s i q).1≤s.size:=udN_ge s (s.size - i) i q (by omega)
theorem uahead_of_accepts {p e:ByteArray} (h:uaccepts (p++e)):(ud p 0 (U 0 0 0)).1=p.size:=by
 have hs:(p++e).size=p.size+e.size:=ByteArray.size_append
 have A:=ud_agree p (p++e) (fun j hj=>(nextB_app_left p e j hj).symm) (U 0 0 0)
 by_cases hlt:(ud p 0 (U 0 0 0)).1 < p.size
 ·have:=A.1 hlt
  have h1:=h.1
  rw [this] at h1; omega
 ·exact (A.2 hlt).2
theorem ugoes_on {p:ByteArray} (q:USt) (e:ByteArray) (h:ud p 0 (U 0 0 0)=(p.size,q)):ud (p++e) 0 (U 0 0 0)=ud (p++e) p.size q:=by
 have hs:(p++e).size=p.size+e.size:=ByteArray.size_append
 have A:=ud_agree p (p++e) (fun j hj=>(nextB_app_left p e j hj).symm) (U 0 0 0)
 have:=A.2 (by rw [h]; simp)
 rw [h] at this
 exact this.1
theorem uapp_step' {p e:ByteArray} (i:Nat) {q q':USt} (h:q.go (nextB e i)=some q'):ud (p++e) (p.size+i) q=ud (p++e) (p.size+(i+1)) q' :=
 ud_step (by rw [nextB_app_right]; exact h)
def Dp (u:USt):Prop:=u.k=7→u.q.2.1≤6
theorem ufin_dp {c f:Nat} {x:Int} {u:USt} (h:ufin c f x=some u):Dp u:=by
 unfold ufin at h
 split at h
 ·injection h with h; subst h; intro h'; cases h'
 ·split at h
  ·injection h with h; subst h; intro h'; cases h'
  ·cases h
theorem stp_dp {q q':Nat×Nat×Nat} {x:Int} (h:stp 6 q x=some q') (hq:q.2.1≤6):q'.2.1≤6:=by
 unfold stp at h
 split at h
 ·split at h
  ·cases h; exact hq
  ·split at h
   ·cases h; exact hq
   ·split at h
    ·cases h; exact hq
    ·split at h
     ·rename_i h5; cases h; show q.2.1+1≤6; omega
     ·cases h
 ·split at h
  ·cases h; exact hq
  ·split at h
   ·cases h; exact hq
   ·split at h
    ·cases h; show q.2.1 - 1≤6; omega
    ·cases h
theorem go_dp {u u':USt} {x:Int} (h:u.go x=some u') (hu:Dp u):Dp u':=by
 obtain ⟨k,c,f,q⟩:=u
 have z:∀ {a b d:Nat} {w:USt},some (U a b d)=some w→Dp w:=by
  intro a b d w h'
  injection h' with h'; subst h'; intro _; exact Nat.zero_le _
 match k,h,hu with
 | 0,h,_=>simp only [USt.go] at h; split at h; exact z h; cases h
 | 1,h,_=>simp only [USt.go] at h; split at h; exact z h; split at h; exact z h; cases h
 | 2,h,_=>simp only [USt.go] at h; split at h; exact z h; split at h; exact z h; cases h
 | 3,h,_=>simp only [USt.go] at h; split at h; exact z h; cases h
 | 4,h,_=>simp only [USt.go] at h; split at h; exact z h; cases h
 | 5,h,_=>simp only [USt.go] at h; split at h; exact z h; exact ufin_dp h
 | 6,h,_=>simp only [USt.go] at h; split at h; exact z h; cases h
 | 7,h,hu =>
  simp only [USt.go] at h
  split at h
  ·rename_i hs
   injection h with h; subst h
   exact fun _=>stp_dp hs (hu rfl)
  ·split at h
   ·split at h
    ·exact z h
    ·exact ufin_dp h
   ·cases h
 | 8,h,_=>simp only [USt.go] at h; exact ufin_dp h
 | 9,h,_=>simp only [USt.go] at h; split at h; exact z h; cases h
 | n+10,h,_=>simp only [USt.go] at h; split at h; exact z h; cases h
theorem ud_dp (s:ByteArray):∀ n i u,i+n=s.size→Dp u→Dp (ud s i u).2:=by
 intro n
 induction n with
 | zero=>intro i u hi h; rw [ud_end (by omega)]; exact h
 | succ n ih =>
  intro i u hi h
  cases hg:u.go (nextB s i) with
  | none=>rw [ud_stop hg]; exact h
  | some u'=>rw [ud_step hg]; exact ih (i+1) u' (by omega) (go_dp hg h)
theorem close_ud:∀ (d:Nat) (p:ByteArray) (c f m kk:Nat),m≠0→ud (p++closeS d) p.size ⟨7,c,f,(m,d,kk)⟩=((p++closeS d).size,U 0 (c+1) 0):=by
 intro d
 induction d with
 | zero =>
  intro p c f m kk hm
  have e0:nextB (p++closeS 0) p.size=125:=nextB_app_right p (closeS 0) 0
  have hn:stp 6 (m,0,kk) 125=none:=by
   cases h:stp 6 (m,0,kk) 125 with
   | none=>rfl
   | some q=>have:=stp_byte h; omega
  have hs:(p++closeS 0).size=p.size+1:=ByteArray.size_append
  rw [ud_step (q':=U 0 (c+1) 0) (by rw [e0,gu7,hn]; simp only []; rw [if_pos ⟨hm,trivial⟩,if_neg (by decide),ufin,if_pos rfl]),ud_end (by omega),hs]
 | succ d ih =>
  intro p c f m kk hm
  have ea:p++closeS (d+1)=(p++⟨#[41]⟩)++closeS d:=by rw [closeS,ByteArray.append_assoc]
  have e0:nextB (p++closeS (d+1)) p.size=41:=by
   have:nextB (p++closeS (d+1)) (p.size+0)=nextB (closeS (d+1)) 0:=nextB_app_right p _ 0
   have t2:nextB (p++closeS (d+1)) p.size=nextB (closeS (d+1)) 0:=this
   rw [t2,closeS,nextB_app_left _ _ 0 (by decide)]; rfl
  have hn:stp 6 (m,d+1,kk) 41=some (1,d,0):=by
   rw [stp_one hm (by omega)]; unfold stp; simp
  rw [ud_step (q':=⟨7,c,f,(1,d,0)⟩) (by rw [e0,gu7,hn]),ea]
  have hs:(p++(⟨#[41]⟩:ByteArray)).size=p.size+1:=ByteArray.size_append
  rw [← hs]
  exact ih (p++⟨#[41]⟩) c f 1 0 (by decide)
theorem ubegins_of_ahead {p:ByteArray} (h:(ud p 0 (U 0 0 0)).1=p.size):ubeginsB p=true:=by
 obtain ⟨q,hq⟩:∃ q,ud p 0 (U 0 0 0)=(p.size,q):=⟨(ud p 0 (U 0 0 0)).2,by rw [← h]⟩
 have hdp:Dp q:=by
  have:=ud_dp p p.size 0 (U 0 0 0) (by omega) (fun h'=>by cases h')
  rw [hq] at this; exact this
 have fin:∀ (j c:Nat),j < 7→ud (p++E j) 0 (U 0 0 0)=ud (p++E j) (p.size+(E j).size) (U 0 (c+1) 0)→ubeginsB p=true:=by
  intro j c hj e
  have hs:(p++E j).size=p.size+(E j).size:=ByteArray.size_append
  rw [ud_end (s:=p++E j) (i:=p.size+(E j).size) (q:=U 0 (c+1) 0) (by omega)] at e
  exact ubegins_1 ⟨j,hj,(ha_accepts _).2 ⟨by rw [e,hs],by rw [e]; rfl⟩⟩
 have fend:∀ (c f k:Nat) (q:Nat×Nat×Nat),ud p 0 (U 0 0 0)=(p.size,⟨k,c,f,q⟩)→(USt.mk k c f q).go 125=some (U 0 (c+1) 0)→ubeginsB p=true:=by
  intro c f k q hq hg
  refine fin 6 c (by omega) ?_
  rw [ugoes_on _ _ hq,show p.size=p.size+0 from rfl,uapp_step' 0 (q':=U 0 (c+1) 0) hg]
  rfl
 obtain ⟨k,c,f,qq⟩:=q
 match k,c,hq,hdp with
 | 0,0,hq,_ =>
  refine fin 1 0 (by omega) ?_
  rw [ugoes_on _ _ hq,show p.size=p.size+0 from rfl,uapp_step' 0 (q':=U 1 0 0) rfl,uapp_step' 1 (q':=U 2 0 0) rfl,uapp_step' 2 (q':=U 0 1 0) rfl]
  rfl
 | 0,c+1,hq,_ =>
  have e:=ugoes_on _ (E 0) hq
  have hs:(p++E 0).size=p.size+(E 0).size:=ByteArray.size_append
  have h0:(E 0).size=0:=rfl
  rw [ud_end (s:=p++E 0) (i:=p.size) (by omega)] at e
  exact ubegins_1 ⟨0,by omega,(ha_accepts _).2 ⟨by rw [e,hs,h0]; rfl,by rw [e]; simp [USt.acc]⟩⟩
 | 1,c,hq,_ =>
  refine fin 2 c (by omega) ?_
  rw [ugoes_on _ _ hq,show p.size=p.size+0 from rfl,uapp_step' 0 (q':=U 2 c 0) rfl,uapp_step' 1 (q':=U 0 (c+1) 0) rfl]
  rfl
 | 2,c,hq,_=>exact fend c f 2 qq hq rfl
 | 3,c,hq,_ =>
  refine fin 4 c (by omega) ?_
  rw [ugoes_on _ _ hq,show p.size=p.size+0 from rfl,uapp_step' 0 (q':=U 4 c f) rfl,uapp_step' 1 (q':=U 5 c (f+1)) rfl,uapp_step' 2 (q':=U 0 (c+1) 0) rfl]
  rfl
 | 4,c,hq,_ =>
  refine fin 5 c (by omega) ?_
  rw [ugoes_on _ _ hq,show p.size=p.size+0 from rfl,uapp_step' 0 (q':=U 5 c (f+1)) rfl,uapp_step' 1 (q':=U 0 (c+1) 0) rfl]
  rfl
 | 5,c,hq,_=>exact fend c f 5 qq hq rfl
 | 6,c,hq,_ =>
  refine fin 3 c (by omega) ?_
  rw [ugoes_on _ _ hq,show p.size=p.size+0 from rfl,uapp_step' 0 (q':=U 3 c f) rfl,uapp_step' 1 (q':=U 4 c f) rfl,uapp_step' 2 (q':=U 5 c (f+1)) rfl,uapp_step' 3 (q':=U 0 (c+1) 0) rfl]
  rfl
 | 7,c,hq,hdp =>
  obtain ⟨m,d,kk⟩:=qq
  have hd:d≤6:=hdp rfl
  by_cases hm:m=0
  ·subst hm
   have e1:=ugoes_on _ (⟨#[49]⟩++closeS d) hq
   have h49:nextB (p++(⟨#[49]⟩++closeS d)) p.size=49:=by
    have:nextB (p++(⟨#[49]⟩++closeS d)) (p.size+0)=nextB ((⟨#[49]⟩:ByteArray)++closeS d) 0:=nextB_app_right p _ 0
    have t2:nextB (p++(⟨#[49]⟩++closeS d)) p.size=nextB ((⟨#[49]⟩:ByteArray)++closeS d) 0:=this
    rw [t2,nextB_app_left _ _ 0 (by decide)]; rfl
   rw [ud_step (i:=p.size) (q:=⟨7,c,f,(0,d,kk)⟩) (q':=⟨7,c,f,(2,d,1)⟩) (by rw [h49,gu7]; rfl),← ByteArray.append_assoc] at e1
   have hs:(p++(⟨#[49]⟩:ByteArray)).size=p.size+1:=ByteArray.size_append
   rw [← hs,close_ud d (p++⟨#[49]⟩) c f 2 1 (by decide)] at e1
   exact ubegins_2 ⟨d,by omega,.inr ((ha_accepts _).2 ⟨by rw [e1],by rw [e1]; rfl⟩)⟩
  ·have e1:=ugoes_on _ (closeS d) hq
   rw [close_ud d p c f m kk hm] at e1
   exact ubegins_2 ⟨d,by omega,.inl ((ha_accepts _).2 ⟨by rw [e1],by rw [e1]; rfl⟩)⟩
 | 8,c,hq,_=>exact fend c f 8 qq hq rfl
 | 9,c,hq,_ =>
  refine fin 1 c (by omega) ?_
  rw [ugoes_on _ _ hq,show p.size=p.size+0 from rfl,uapp_step' 0 (q':=U 10 c 0) rfl,uapp_step' 1 (q':=U 2 c 0) rfl,uapp_step' 2 (q':=U 0 (c+1) 0) rfl]
  rfl
 | n+10,c,hq,_ =>
  refine fin 2 c (by omega) ?_
  rw [ugoes_on _ _ hq,show p.size=p.size+0 from rfl,uapp_step' 0 (q':=U 2 c 0) rfl,uapp_step' 1 (q':=U 0 (c+1) 0) rfl]
  rfl
theorem ubegins_iff (p:ByteArray):ubeginsB p=true↔(ud p 0 (U 0 0 0)).1=p.size:=by
 constructor
 ·intro h
  have h':ubegin1 p∨ubegin2 p:=by
   by_cases h1:ubegin1 p
   ·exact .inl h1
   ·by_cases h2:ubegin2 p
    ·exact .inr h2
    ·rw [ubegins_no h1 h2] at h; cases h
  rcases h' with ⟨j,_,h⟩ | ⟨j,_,h | h⟩
  ·exact uahead_of_accepts ((ha_accepts _).1 h)
  ·exact uahead_of_accepts ((ha_accepts _).1 h)
  ·rw [ByteArray.append_assoc] at h
   exact uahead_of_accepts ((ha_accepts _).1 h)
 ·exact ubegins_of_ahead
theorem uahead_goes (s:ByteArray) (i:Nat) (hi:i≤s.size):(ud (s.extract 0 i) 0 (U 0 0 0)).1=(s.extract 0 i).size↔i≤(ud s 0 (U 0 0 0)).1:=by
 have hsz:(s.extract 0 i).size=i:=by rw [ext_size hi]; omega
 have A:=ud_agree (s.extract 0 i) s (fun j hj=>by rw [nextB_extract s 0 i j hi,if_pos (by omega),Nat.zero_add]) (U 0 0 0)
 rw [hsz] at A ⊢
 by_cases h:(ud (s.extract 0 i) 0 (U 0 0 0)).1 < i
 ·rw [A.1 h]
  omega
 ·have:=A.2 h
  have g:=ud_ge s i (ud (s.extract 0 i) 0 (U 0 0 0)).2 hi
  rw [this.1]
  omega
theorem uwrong_is (s:ByteArray):∀ n i,i+n=s.size→i≤(ud s 0 (U 0 0 0)).1→uwrongN s n i=(ud s 0 (U 0 0 0)).1:=by
 intro n
 induction n with
 | zero =>
  intro i hi h
  have:=(ud_ge s 0 (U 0 0 0) (Nat.zero_le _)).2
  rw [uwrongN]; omega
 | succ n ih =>
  intro i hi h
  rw [uwrongN]
  have P:=uahead_goes s (i+1) (by omega)
  rw [← ubegins_iff] at P
  by_cases hb:ubeginsB (s.extract 0 (i+1))=true
  ·rw [if_pos hb]
   exact ih (i+1) (by omega) (P.1 hb)
  ·rw [if_neg hb]
   have:¬ i+1≤(ud s 0 (U 0 0 0)).1:=fun h'=>hb (P.2 h')
   omega
end Go.Proofs.YtbgilndohccicaaGreatDoor
