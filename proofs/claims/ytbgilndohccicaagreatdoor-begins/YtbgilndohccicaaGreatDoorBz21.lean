import Derived.Test.YtbgilndohccicaaGreatDoorBz20
import Derived.Test.YtbgilndohccicaaGreatDoorBz11
import Derived.Test.YtbgilndohccicaaGreatDoorBz18
namespace Go.Proofs.YtbgilndohccicaaGreatDoor
def lsc (a b:Int):List Int→Nat→Int→Int→Int
 | [],_,_,p=>p
 | c :: r,k,d,p =>
  if c=40 then lsc a b r (k+1) (d+1) p
  else if c=41 then lsc a b r (k+1) (d - 1) p
  else if d=0∧(c=a∨c=b) then lsc a b r (k+1) d k
  else lsc a b r (k+1) d p
theorem lsc_spec (a b:Int) (ha:a≠40∧a≠41) (hb:b≠40∧b≠41):∀ (l:List Int) (k:Nat) (d p:Int),
  (lsc a b l k d p=p∧∀ u c v,l=u++c :: v→(c=a∨c=b)→d+dep u≠0) ∨
  (∃ u c v,l=u++c :: v∧(c=a∨c=b)∧d+dep u=0∧NoTop a b v∧lsc a b l k d p=((k+u.length:Nat):Int)):=by
 intro l
 induction l with
 | nil=>intro k d p; exact .inl ⟨rfl,fun u c v h=>by simp at h⟩
 | cons x r ih =>
  intro k d p
  rw [lsc]
  have step:∀ (e:Int) (p':Int),dep [x]=e→(¬ (x=a∨x=b)∨d≠0) →
    ((lsc a b r (k+1) (d+e) p'=p'∧∀ u c v,x :: r=u++c :: v→(c=a∨c=b)→d+dep u≠0) ∨
    (∃ u c v,x :: r=u++c :: v∧(c=a∨c=b)∧d+dep u=0∧NoTop a b v∧lsc a b r (k+1) (d+e) p'=((k+u.length:Nat):Int))):=by
   intro e p' he hx
   rcases ih (k+1) (d+e) p' with ⟨h1,h2⟩ | ⟨u,c,v,h1,h2,h3,h4,h5⟩
   ·refine .inl ⟨h1,fun u c v h hc=>?_⟩
    cases u with
    | nil =>
     simp at h
     rw [← h.1] at hc
     rcases hx with hx | hx
     ·exact absurd hc hx
     ·simpa [dep] using hx
    | cons y u =>
     simp at h
     have:=h2 u c v h.2 hc
     rw [← h.1,show x :: u=[x]++u from rfl,dep_app,he]; omega
   ·refine .inr ⟨x :: u,c,v,by rw [h1]; rfl,h2,?_,h4,by rw [h5]; simp; omega⟩
    rw [show x :: u=[x]++u from rfl,dep_app,he]; omega
  by_cases c1:x=40
  ·rw [if_pos c1]
   exact step 1 p (by simp [dep,c1]) (.inl (by omega))
  ·rw [if_neg c1]
   by_cases c2:x=41
   ·rw [if_pos c2]
    exact step (-1) p (by simp [dep,c2]) (.inl (by omega))
   ·rw [if_neg c2]
    have hf:dep [x]=0:=by simp [dep,c1,c2]
    by_cases c3:d=0∧(x=a∨x=b)
    ·rw [if_pos c3]
     obtain ⟨rfl,hx⟩:=c3
     rcases ih (k+1) 0 k with ⟨h1,h2⟩ | ⟨u,c,v,h1,h2,h3,h4,h5⟩
     ·refine .inr ⟨[],x,r,rfl,hx,by simp [dep],fun u c v h hc=>?_,by rw [h1]; simp⟩
      have:=h2 u c v h hc; omega
     ·refine .inr ⟨x :: u,c,v,by rw [h1]; rfl,h2,?_,h4,by rw [h5]; simp; omega⟩
      rw [show x :: u=[x]++u from rfl,dep_app,hf]; omega
    ·rw [if_neg c3]
     have:=step 0 p hf (by
      by_cases hd:d=0
      ·exact .inl fun h=>c3 ⟨hd,h⟩
      ·exact .inr hd)
     simpa using this
theorem last_none {a b:Int} (ha:a≠40∧a≠41) (hb:b≠40∧b≠41) {l:List Int} (h:lsc a b l 0 0 (-1) < 0):NoTop a b l:=by
 rcases lsc_spec a b ha hb l 0 0 (-1) with ⟨_,h2⟩ | ⟨u,c,v,_,_,_,_,h5⟩
 ·intro u c v e hc; have:=h2 u c v e hc; omega
 ·omega
theorem last_some {a b:Int} (ha:a≠40∧a≠41) (hb:b≠40∧b≠41) {l:List Int} (h:0≤lsc a b l 0 0 (-1)):∃ u c v,l=u++c :: v∧(c=a∨c=b)∧dep u=0∧NoTop a b v∧(lsc a b l 0 0 (-1)).toNat=u.length:=by
 rcases lsc_spec a b ha hb l 0 0 (-1) with ⟨h1,_⟩ | ⟨u,c,v,h1,h2,h3,h4,h5⟩
 ·omega
 ·exact ⟨u,c,v,h1,h2,by omega,h4,by rw [h5]; simp⟩
theorem stp_shift {M m d k:Nat} {x:Int} {m1 e k1:Nat} (hM:0 < M) (h:stp (M - 1) (m,d,k) x=some (m1,e,k1)):stp M (m,d+1,k) x=some (m1,e+1,k1):=by
 unfold stp at h ⊢
 simp only [] at h ⊢
 split at h
 ·rename_i h0; rw [if_pos h0]
  split at h
  ·rename_i h1; rw [if_pos h1]; cases h; rfl
  ·rename_i h1; rw [if_neg h1]
   split at h
   ·rename_i h2; rw [if_pos h2]; cases h; rfl
   ·rename_i h2; rw [if_neg h2]
    split at h
    ·rename_i h3; rw [if_pos h3]; cases h; rfl
    ·rename_i h3; rw [if_neg h3]
     split at h
     ·rename_i h4; rw [if_pos ⟨h4.1,by omega⟩]; cases h; rfl
     ·cases h
 ·rename_i h0; rw [if_neg h0]
  split at h
  ·rename_i h1; rw [if_pos h1]; cases h; rfl
  ·rename_i h1; rw [if_neg h1]
   split at h
   ·rename_i h2; rw [if_pos h2]; cases h; rfl
   ·rename_i h2; rw [if_neg h2]
    split at h
    ·rename_i h3; rw [if_pos ⟨h3.1,by omega⟩]; cases h; congr 3; omega
    ·cases h
theorem stp_unshift {M m d k:Nat} {x:Int} {m1 e k1:Nat} (h:stp M (m,d+1,k) x=some (m1,e+1,k1)):stp (M - 1) (m,d,k) x=some (m1,e,k1):=by
 unfold stp at h ⊢
 simp only [] at h ⊢
 split at h
 ·rename_i h0; rw [if_pos h0]
  split at h
  ·rename_i h1; rw [if_pos h1]; simp only [Option.some.injEq,Prod.mk.injEq] at h ⊢; omega
  ·rename_i h1; rw [if_neg h1]
   split at h
   ·rename_i h2; rw [if_pos h2]; simp only [Option.some.injEq,Prod.mk.injEq] at h ⊢; omega
   ·rename_i h2; rw [if_neg h2]
    split at h
    ·rename_i h3; rw [if_pos h3]; simp only [Option.some.injEq,Prod.mk.injEq] at h ⊢; omega
    ·rename_i h3; rw [if_neg h3]
     split at h
     ·rename_i h4; rw [if_pos ⟨h4.1,by omega⟩]; simp only [Option.some.injEq,Prod.mk.injEq] at h ⊢; omega
     ·cases h
 ·rename_i h0; rw [if_neg h0]
  split at h
  ·rename_i h1; rw [if_pos h1]; simp only [Option.some.injEq,Prod.mk.injEq] at h ⊢; omega
  ·rename_i h1; rw [if_neg h1]
   split at h
   ·rename_i h2; rw [if_pos h2]; simp only [Option.some.injEq,Prod.mk.injEq] at h ⊢; omega
   ·rename_i h2; rw [if_neg h2]
    split at h
    ·rename_i h3; simp only [Option.some.injEq,Prod.mk.injEq] at h; rw [if_pos ⟨h3.1,by omega⟩]; simp only [Option.some.injEq,Prod.mk.injEq]; omega
    ·cases h
theorem rn_shift {M:Nat} (hM:0 < M):∀ {w:List Int} {m d k m1 e k1:Nat},rn (M - 1) (m,d,k) w=some (m1,e,k1)→rn M (m,d+1,k) w=some (m1,e+1,k1):=by
 intro w
 induction w with
 | nil=>intro m d k m1 e k1 h; simp only [rn,Option.some.injEq,Prod.mk.injEq] at h ⊢; omega
 | cons x r ih =>
  intro m d k m1 e k1 h
  simp only [rn] at h ⊢
  cases hs:stp (M - 1) (m,d,k) x with
  | none=>rw [hs] at h; simp at h
  | some q =>
   obtain ⟨a,b,c⟩:=q
   rw [hs] at h
   rw [stp_shift hM hs]
   exact ih h
theorem after_one {M:Nat} {r:List Int} {s:Nat×Nat×Nat} (h:rn M (1,0,0) r=some s) (hn:∀ x r',r=x :: r'→¬ isSg x):r=[]:=by
 cases r with
 | nil=>rfl
 | cons x r' =>
  exfalso
  have hx:=hn x r' rfl
  simp only [rn] at h
  have:stp M (1,0,0) x=none:=by
   unfold stp isSg at *
   simp only []
   rw [if_neg (by decide),if_neg (by omega),if_neg (by omega),if_neg (by omega)]
  rw [this] at h; simp at h
theorem after_num {M:Nat}:∀ {r:List Int} {k:Nat} {s:Nat×Nat×Nat},rn M (2,0,k) r=some s→(∀ u c v,r=u++c :: v→isSg c→dep u≠0)→k≤9→(∀ x∈r,48≤x∧x≤57)∧k+r.length≤9:=by
 intro r
 induction r with
 | nil=>intro k s _ _ hk; exact ⟨fun x hx=>by simp at hx,by simpa using hk⟩
 | cons x r' ih =>
  intro k s h hn hk
  have hx:¬ isSg x:=fun hs=>hn [] x r' rfl hs rfl
  simp only [rn] at h
  have hstp:stp M (2,0,k) x=if 48≤x∧x≤57∧k < 9 then some (2,0,k+1) else none:=by
   unfold isSg at hx
   unfold stp
   simp only []
   rw [if_neg (by decide)]
   by_cases hd:48≤x∧x≤57∧k < 9
   ·rw [if_pos ⟨trivial,hd⟩,if_pos hd]
   ·rw [if_neg (fun h=>hd h.2),if_neg (by omega),if_neg (by omega),if_neg hd]
  rw [hstp] at h
  by_cases hd:48≤x∧x≤57∧k < 9
  ·rw [if_pos hd] at h
   obtain ⟨h1,h2⟩:=ih h (fun u c v e hc=>by
    have:=hn (x :: u) c v (by rw [e]; rfl) hc
    rw [dep_cons_flat (by omega) (by omega)] at this; exact this) (by omega)
   refine ⟨fun y hy=>?_,by simp; omega⟩
   rcases List.mem_cons.1 hy with rfl | hy
   ·omega
   ·exact h1 y hy
  ·rw [if_neg hd] at h; simp at h
theorem inner {M:Nat}:∀ {r:List Int} {m d k m' k':Nat},rn M (m,d+1,k) r=some (m',0,k')→(∀ u c v,r=u++c :: v→isSg c→(d:Int)+1+dep u≠0) →
  ∃ w m2 k2,r=w++[41]∧rn (M - 1) (m,d,k) w=some (m2,0,k2)∧m2≠0:=by
 intro r
 induction r with
 | nil=>intro m d k m' k' h _; simp [rn] at h
 | cons x r' ih =>
  intro m d k m' k' h hn
  simp only [rn] at h
  cases hs:stp M (m,d+1,k) x with
  | none=>rw [hs] at h; simp at h
  | some q =>
   obtain ⟨a,e,c⟩:=q
   rw [hs] at h
   have hd:=stp_dep hs
   simp only [] at hd h
   cases e with
   | zero =>
    have hx:x=41∧d=0:=by
     by_cases h1:x=40
     ·rw [if_pos h1] at hd; omega
     ·rw [if_neg h1] at hd
      by_cases h2:x=41
      ·rw [if_pos h2] at hd; exact ⟨h2,by omega⟩
      ·rw [if_neg h2] at hd; omega
    obtain ⟨rfl,rfl⟩:=hx
    have hm:m≠0∧a=1∧c=0:=by
     unfold stp at hs
     simp only [] at hs
     by_cases h0:m=0
     ·rw [if_pos h0] at hs; simp at hs
     ·rw [if_neg h0,if_neg (by omega),if_neg (by omega),if_pos ⟨trivial,by omega⟩] at hs
      simp only [Option.some.injEq,Prod.mk.injEq] at hs
      exact ⟨h0,by omega,by omega⟩
    obtain ⟨hm0,rfl,rfl⟩:=hm
    have hr:r'=[]:=after_one h (fun y r2 e hy=>by
     have:=hn [41] y r2 (by rw [e]; rfl) hy
     simp [dep] at this)
    subst hr
    exact ⟨[],m,k,rfl,rfl,hm0⟩
   | succ e =>
    have hu:=stp_unshift hs
    have hdx:(e:Int)+1=(d:Int)+1+(if x=40 then 1 else if x=41 then -1 else 0):=by omega
    obtain ⟨w,m2,k2,h1,h2,h3⟩:=ih h (fun u y v e1 hy=>by
     have:=hn (x :: u) y v (by rw [e1]; rfl) hy
     simp only [dep] at this; omega)
    refine ⟨x :: w,m2,k2,by rw [h1]; rfl,?_,h3⟩
    simp only [rn,hu]; exact h2
end Go.Proofs.YtbgilndohccicaaGreatDoor
namespace Go.Proofs.YtbgilndohccicaaGreatDoor
theorem isSg_of {c:Int}:isSg c↔((c=43∨c=45)∨(c=42∨c=42)):=by unfold isSg; omega
theorem fac_shape {M:Nat} {l:List Int} (h:acc M l) (h1:NoTop 43 45 l) (h2:NoTop 42 42 l) :
  (∃ c,l=[c]∧97≤c∧c≤122)∨l=[48]∨(∃ c r,l=c :: r∧49≤c∧c≤57∧(∀ x∈r,48≤x∧x≤57)∧r.length≤8)∨(0 < M∧∃ w,l=40 :: (w++[41])∧acc (M - 1) w):=by
 have hn:∀ u c v,l=u++c :: v→isSg c→dep u≠0:=fun u c v e hc=>(isSg_of.1 hc).elim (h1 u c v e) (h2 u c v e)
 obtain ⟨m,k,h,hm⟩:=h
 cases l with
 | nil=>simp only [rn,Option.some.injEq,Prod.mk.injEq] at h; omega
 | cons c r =>
  simp only [rn] at h
  by_cases c1:c=48
  ·have hs:stp M (0,0,0) c=some (1,0,0):=by unfold stp; simp [c1]
   rw [hs] at h
   have:r=[]:=after_one h (fun x r' e hx=>by
    have:=hn [c] x r' (by rw [e]; rfl) hx
    rw [dep_cons_flat (by omega) (by omega)] at this; simp [dep] at this)
   subst this; subst c1
   exact .inr (.inl rfl)
  by_cases c2:49≤c∧c≤57
  ·have hs:stp M (0,0,0) c=some (2,0,1):=by unfold stp; simp [c1,c2]
   rw [hs] at h
   obtain ⟨g1,g2⟩:=after_num h (fun u x v e hx=>by
    have:=hn (c :: u) x v (by rw [e]; rfl) hx
    rw [dep_cons_flat (by omega) (by omega)] at this; exact this) (by omega)
   exact .inr (.inr (.inl ⟨c,r,rfl,c2.1,c2.2,g1,by omega⟩))
  by_cases c3:97≤c∧c≤122
  ·have hs:stp M (0,0,0) c=some (1,0,0):=by unfold stp; simp only []; rw [if_pos trivial,if_neg c1,if_neg c2,if_pos c3]
   rw [hs] at h
   have:r=[]:=after_one h (fun x r' e hx=>by
    have:=hn [c] x r' (by rw [e]; rfl) hx
    rw [dep_cons_flat (by omega) (by omega)] at this; simp [dep] at this)
   subst this
   exact .inl ⟨c,rfl,c3.1,c3.2⟩
  by_cases c4:c=40∧0 < M
  ·have hs:stp M (0,0,0) c=some (0,1,0):=by unfold stp; simp only []; rw [if_pos trivial,if_neg c1,if_neg c2,if_neg c3,if_pos c4]
   rw [hs] at h
   obtain ⟨rfl,hM⟩:=c4
   obtain ⟨w,m2,k2,e1,e2,e3⟩:=inner (d:=0) h (fun u x v e hx=>by
    have:=hn (40 :: u) x v (by rw [e]; rfl) hx
    simp only [dep,if_true] at this; omega)
   exact .inr (.inr (.inr ⟨hM,w,by rw [e1],m2,k2,e2,e3⟩))
  ·have hs:stp M (0,0,0) c=none:=by unfold stp; simp only []; rw [if_pos trivial,if_neg c1,if_neg c2,if_neg c3,if_neg c4]
   rw [hs] at h; simp at h
theorem noTop_of {a b:Int} {l:List Int} (h:∀ x∈l,x≠a∧x≠b):NoTop a b l:=fun u c v e hc=>by
 have:=h c (by rw [e]; simp)
 exact absurd hc (by omega)
theorem rn_digits {M:Nat}:∀ {r:List Int} {k:Nat},(∀ x∈r,48≤x∧x≤57)→k+r.length≤9→rn M (2,0,k) r=some (2,0,k+r.length):=by
 intro r
 induction r with
 | nil=>intro k _ _; rfl
 | cons x r ih =>
  intro k h hl
  have hx:=h x (by simp)
  simp only [List.length_cons] at hl
  have hs:stp M (2,0,k) x=some (2,0,k+1):=by unfold stp; simp only []; rw [if_neg (by decide),if_pos ⟨trivial,hx.1,hx.2,by omega⟩]
  simp only [rn,hs]
  rw [ih (fun y hy=>h y (by simp [hy])) (by omega)]; simp; omega
theorem acc_letter {M:Nat} {c:Int} (h1:97≤c) (h2:c≤122):acc M [c]∧NoTop 43 45 [c]∧NoTop 42 42 [c]:=by
 refine ⟨⟨1,0,?_,by decide⟩,noTop_of fun x hx=>by simp at hx; omega,noTop_of fun x hx=>by simp at hx; omega⟩
 have hs:stp M (0,0,0) c=some (1,0,0):=by unfold stp; simp only []; rw [if_pos trivial,if_neg (by omega),if_neg (by omega),if_pos ⟨h1,h2⟩]
 simp only [rn,hs]
theorem acc_zero {M:Nat}:acc M [48]∧NoTop 43 45 [48]∧NoTop 42 42 [48] :=
 ⟨⟨1,0,rfl,by decide⟩,noTop_of fun x hx=>by simp at hx; omega,noTop_of fun x hx=>by simp at hx; omega⟩
theorem acc_digits {M:Nat} {c:Int} {r:List Int} (h1:49≤c) (h2:c≤57) (hr:∀ x∈r,48≤x∧x≤57) (hl:r.length≤8):acc M (c :: r)∧NoTop 43 45 (c :: r)∧NoTop 42 42 (c :: r):=by
 refine ⟨⟨2,1+r.length,?_,by decide⟩,noTop_of fun x hx=>?_,noTop_of fun x hx=>?_⟩
 ·have hs:stp M (0,0,0) c=some (2,0,1):=by unfold stp; simp only []; rw [if_pos trivial,if_neg (by omega),if_pos ⟨h1,h2⟩]
  simp only [rn,hs]
  exact rn_digits hr (by omega)
 ·rcases List.mem_cons.1 hx with rfl | hx
  ·omega
  ·have:=hr x hx; omega
 ·rcases List.mem_cons.1 hx with rfl | hx
  ·omega
  ·have:=hr x hx; omega
theorem acc_bracket {M:Nat} (hM:0 < M) {w:List Int} (h:acc (M - 1) w):acc M (40 :: (w++[41]))∧NoTop 43 45 (40 :: (w++[41]))∧NoTop 42 42 (40 :: (w++[41])):=by
 obtain ⟨m,k,h,hm⟩:=h
 have hno:∀ a b:Int,(a≠40∧a≠41)→(b≠40∧b≠41)→NoTop a b (40 :: (w++[41])):=by
  intro a b ha hb u c v e hc
  cases u with
  | nil=>simp at e; omega
  | cons y u =>
   simp at e
   obtain ⟨rfl,e⟩:=e
   rcases List.append_eq_append_iff.1 e with ⟨a',e1,e2⟩ | ⟨c',e1,e2⟩
   ·cases a' with
    | nil=>simp at e2; omega
    | cons z a'=>simp at e2
   ·cases c' with
    | nil=>simp at e2; omega
    | cons z c' =>
     rw [e1] at h
     obtain ⟨q,h1,_⟩:=rn_app_some h
     have:=rn_dep h1
     simp only [dep,if_true]; simp only [] at this; omega
 refine ⟨⟨1,0,?_,by decide⟩,hno 43 45 (by decide) (by decide),hno 42 42 (by decide) (by decide)⟩
 have hs:stp M (0,0,0) 40=some (0,1,0):=by unfold stp; simp [hM]
 simp only [rn,hs]
 rw [rn_app,rn_shift hM h]
 have h2:stp M (m,0+1,k) 41=some (1,0,0):=by unfold stp; simp only []; rw [if_neg hm,if_neg (by omega),if_neg (by omega),if_pos ⟨trivial,by omega⟩]
 simp only [rn,h2]
def numL (l:List Int):Bool:=if l.length < 1∨9 < l.length∨(1 < l.length∧l[0]?.getD 0=48) then false else l.all (fun x=>decide (48≤x) && decide (x≤57))
theorem numL_iff (l:List Int):numL l=true↔(l=[48]∨(∃ c r,l=c :: r∧49≤c∧c≤57∧(∀ x∈r,48≤x∧x≤57)∧r.length≤8)):=by
 unfold numL
 constructor
 ·intro h
  split at h
  ·simp at h
  ·rename_i hc
   rw [List.all_eq_true] at h
   have hd:∀ x∈l,48≤x∧x≤57:=fun x hx=>by have:=h x hx; simpa using this
   cases l with
   | nil=>simp at hc
   | cons c r =>
    have hcc:=hd c (by simp)
    by_cases c1:c=48
    ·left
     cases r with
     | nil=>rw [c1]
     | cons y r=>simp [c1] at hc
    ·right
     simp at hc
     exact ⟨c,r,rfl,by omega,by omega,fun x hx=>hd x (by simp [hx]),by omega⟩
 ·rintro (rfl | ⟨c,r,rfl,h1,h2,h3,h4⟩)
  ·decide
  ·rw [if_neg (by simp; omega),List.all_eq_true]
   intro x hx
   rcases List.mem_cons.1 hx with rfl | hx
   ·simp; omega
   ·have:=h3 x hx; simp; omega
def lX:Nat→Nat→List Int→Nat→Bool
 | 0,_,_,_=>false
 | f+1,m,l,d =>
  if m=0 then (if 0≤lsc 43 45 l 0 0 (-1) then lX f 0 (l.take (lsc 43 45 l 0 0 (-1)).toNat) d && lX f 1 (l.drop ((lsc 43 45 l 0 0 (-1)).toNat+1)) d else lX f 1 l d)
  else if m=1 then (if 0≤lsc 42 42 l 0 0 (-1) then lX f 1 (l.take (lsc 42 42 l 0 0 (-1)).toNat) d && lX f 2 (l.drop ((lsc 42 42 l 0 0 (-1)).toNat+1)) d else lX f 2 l d)
  else if l.length=1∧97≤(l[0]?.getD 0:Int)∧(l[0]?.getD 0:Int)≤122 then true
  else if 2 < l.length∧(l[0]?.getD 0:Int)=40∧(l[l.length - 1]?.getD 0:Int)=41∧0 < d then lX f 0 ((l.drop 1).take (l.length - 2)) (d - 1)
  else numL l
theorem lX_meet (f:Nat):∀ (l:List Int) (M:Nat),(3 * l.length+3≤f→(lX f 0 l M=true↔acc M l))∧(3 * l.length+2≤f→(lX f 1 l M=true↔acc M l∧NoTop 43 45 l)) ∧
  (3 * l.length+1≤f→(lX f 2 l M=true↔acc M l∧NoTop 43 45 l∧NoTop 42 42 l)):=by
 induction f with
 | zero=>intro l M; exact ⟨fun h=>by omega,fun h=>by omega,fun h=>by omega⟩
 | succ f ih =>
  intro l M
  refine ⟨fun hf=>?_,fun hf=>?_,fun hf=>?_⟩
  ·rw [lX,if_pos rfl]
   by_cases h:0≤lsc 43 45 l 0 0 (-1)
   ·rw [if_pos h]
    obtain ⟨u,c,v,e,hc,hd,hv,hi⟩:=last_some (a:=43) (b:=45) (by decide) (by decide) h
    have eu:l.take (lsc 43 45 l 0 0 (-1)).toNat=u:=by rw [hi,e,List.take_left]
    have ev:l.drop ((lsc 43 45 l 0 0 (-1)).toNat+1)=v:=by rw [hi,e,← List.drop_drop,List.drop_left]; rfl
    have hl:l.length=u.length+v.length+1:=by rw [e]; simp; omega
    rw [eu,ev,Bool.and_eq_true,(ih u M).1 (by omega),(ih v M).2.1 (by omega),e,acc_cut (by unfold isSg; omega) hd]
    exact ⟨fun h=>⟨h.1,h.2.1⟩,fun h=>⟨h.1,h.2,hv⟩⟩
   ·rw [if_neg h,(ih l M).2.1 (by omega)]
    have:=last_none (a:=43) (b:=45) (by decide) (by decide) (l:=l) (by omega)
    exact ⟨fun h=>h.1,fun h=>⟨h,this⟩⟩
  ·rw [lX,if_neg (by decide),if_pos rfl]
   by_cases h:0≤lsc 42 42 l 0 0 (-1)
   ·rw [if_pos h]
    obtain ⟨u,c,v,e,hc,hd,hv,hi⟩:=last_some (a:=42) (b:=42) (by decide) (by decide) h
    have eu:l.take (lsc 42 42 l 0 0 (-1)).toNat=u:=by rw [hi,e,List.take_left]
    have ev:l.drop ((lsc 42 42 l 0 0 (-1)).toNat+1)=v:=by rw [hi,e,← List.drop_drop,List.drop_left]; rfl
    have hl:l.length=u.length+v.length+1:=by rw [e]; simp; omega
    rw [eu,ev,Bool.and_eq_true,(ih u M).2.1 (by omega),(ih v M).2.2 (by omega),e,acc_cut (by unfold isSg; omega) hd,NoTop_cut hd (by omega) (by omega) (by omega) (by omega)]
    exact ⟨fun h=>⟨⟨h.1.1,h.2.1⟩,h.1.2,h.2.2.1⟩,fun h=>⟨⟨h.1.1,h.2.1⟩,h.1.2,h.2.2,hv⟩⟩
   ·rw [if_neg h,(ih l M).2.2 (by omega)]
    have:=last_none (a:=42) (b:=42) (by decide) (by decide) (l:=l) (by omega)
    exact ⟨fun h=>⟨h.1,h.2.1⟩,fun h=>⟨h.1,h.2,this⟩⟩
  ·rw [lX,if_neg (by decide),if_neg (by decide)]
   by_cases hA:l.length=1∧97≤(l[0]?.getD 0:Int)∧(l[0]?.getD 0:Int)≤122
   ·rw [if_pos hA]
    obtain ⟨hA1,hA2,hA3⟩:=hA
    obtain ⟨c,rfl⟩:∃ c,l=[c]:=by
     cases l with
     | nil=>simp at hA1
     | cons c r=>cases r with
      | nil=>exact ⟨c,rfl⟩
      | cons y r=>simp at hA1
    simp at hA2 hA3
    exact ⟨fun _=>acc_letter hA2 hA3,fun _=>rfl⟩
   ·rw [if_neg hA]
    by_cases hB:2 < l.length∧(l[0]?.getD 0:Int)=40∧(l[l.length - 1]?.getD 0:Int)=41∧0 < M
    ·rw [if_pos hB]
     obtain ⟨hB1,hB2,hB3,hB4⟩:=hB
     obtain ⟨w,hw⟩:∃ w,l=40 :: (w++[41]):=by
      cases l with
      | nil=>simp at hB1
      | cons c r =>
       simp at hB2
       have hr:r≠[]:=by intro h; simp [h] at hB1
       refine ⟨r.dropLast,?_⟩
       have h1:=List.dropLast_concat_getLast hr
       have h2:r.getLast hr=41:=by
        rw [List.getLast_eq_getElem]
        simp only [List.length_cons,Nat.add_sub_cancel] at hB3
        have hpos:0 < r.length:=List.length_pos_iff.2 hr
        have hB5:(c :: r)[(r.length - 1)+1]?.getD 0=41:=by rw [Nat.sub_add_cancel hpos]; exact hB3
        rw [List.getElem?_cons_succ,List.getElem?_eq_getElem (by omega)] at hB5
        exact hB5
       rw [h2] at h1
       rw [hB2,h1]
     have hmid:(l.drop 1).take (l.length - 2)=w:=by
      rw [hw]; simp
     have hl:l.length=w.length+2:=by rw [hw]; simp
     rw [hmid,(ih w (M - 1)).1 (by omega)]
     constructor
     ·intro h; rw [hw]; exact acc_bracket hB4 h
     ·rintro ⟨h1,h2,h3⟩
      rcases fac_shape h1 h2 h3 with ⟨c,e,g1,g2⟩ | e | ⟨c,r,e,g1,g2,_⟩ | ⟨_,w',e,hw'⟩
      ·rw [e] at hw; simp at hw
      ·rw [e] at hw; simp at hw
      ·rw [e] at hw; simp at hw; omega
      ·rw [hw] at e; simp at e; rw [e]; exact hw'
    ·rw [if_neg hB,numL_iff]
     constructor
     ·rintro (rfl | ⟨c,r,rfl,h1,h2,h3,h4⟩)
      ·exact acc_zero
      ·exact acc_digits h1 h2 h3 h4
     ·rintro ⟨h1,h2,h3⟩
      rcases fac_shape h1 h2 h3 with ⟨c,e,g1,g2⟩ | e | ⟨c,r,e,g1,g2,g3,g4⟩ | ⟨hM,w',e,hw'⟩
      ·exfalso; apply hA; rw [e]; simp [g1,g2]
      ·exact .inl e
      ·exact .inr ⟨c,r,e,g1,g2,g3,g4⟩
      ·exfalso
       apply hB
       have hwn:w'≠[]:=by
        rintro rfl
        obtain ⟨m,k,h,hm⟩:=hw'
        simp only [rn,Option.some.injEq,Prod.mk.injEq] at h; omega
       have:0 < w'.length:=List.length_pos_iff.2 hwn
       rw [e]
       refine ⟨by simp; omega,by simp,?_,hM⟩
       simp
end Go.Proofs.YtbgilndohccicaaGreatDoor
namespace Go.Proofs.YtbgilndohccicaaGreatDoor
def bl (t:ByteArray):List Int:=t.data.toList.map (fun b=>(b.toNat:Int))
theorem bl_len (t:ByteArray):(bl t).length=t.size:=by unfold bl; simp
theorem bl_at {t:ByteArray} {k:Nat} (h:k < t.size):(bl t)[k]?=some (nextB t k):=by
 rw [nextB_in h]; unfold bl
 have hk:k < t.data.toList.length:=by rw [Array.length_toList]; exact h
 simp only [List.getElem?_map,List.getElem?_eq_getElem hk,Option.map_some]; rfl
theorem bl_getD {t:ByteArray} {k:Nat} (h:k < t.size):((bl t)[k]?.getD 0:Int)=nextB t k:=by rw [bl_at h]; rfl
theorem bl_extract (t:ByteArray) (a b:Nat):bl (t.extract a b)=((bl t).drop a).take (b - a):=by
 unfold bl
 rw [ByteArray.data_extract,Array.toList_extract,List.extract_eq_take_drop,List.map_take,List.map_drop]
theorem bl_drop {t:ByteArray} {k:Nat} (h:k < t.size):(bl t).drop k=nextB t k :: (bl t).drop (k+1):=by
 rw [List.drop_eq_getElem_cons (by rw [bl_len]; exact h)]
 have:=bl_at h
 rw [List.getElem?_eq_getElem (by rw [bl_len]; exact h)] at this
 rw [Option.some.inj this]
theorem lastL_lsc (t:ByteArray) (a b:Int):∀ (n k:Nat) (d p:Int),k+n=t.size→lastL t a b n k d p=lsc a b ((bl t).drop k) k d p:=by
 intro n
 induction n with
 | zero =>
  intro k d p h
  rw [List.drop_eq_nil_of_le (by rw [bl_len]; omega)]; rfl
 | succ n ih =>
  intro k d p h
  rw [bl_drop (by omega),lastL,lsc]
  rw [ih (k+1) (d+1) p (by omega),ih (k+1) (d - 1) p (by omega),ih (k+1) d k (by omega),ih (k+1) d p (by omega)]
theorem lastI_lsc (t:ByteArray) (a b:Int):lastI t a b=lsc a b (bl t) 0 0 (-1):=by
 unfold lastI; rw [lastL_lsc t a b t.size 0 0 (-1) (by omega)]; rfl
theorem digB_all (t:ByteArray):digB t=(bl t).all (fun x=>decide (48≤x) && decide (x≤57)):=by
 rw [Bool.eq_iff_iff,List.all_eq_true]
 unfold digB
 rw [List.all_eq_true]
 constructor
 ·intro h x hx
  obtain ⟨k,hk,e⟩:=List.getElem_of_mem hx
  have hk':k < t.size:=by rw [bl_len] at hk; exact hk
  have:=bl_at hk'
  rw [List.getElem?_eq_getElem hk,e] at this
  rw [Option.some.inj this]
  exact h k (List.mem_range.2 hk')
 ·intro h j hj
  exact h _ (List.mem_of_getElem? (bl_at (List.mem_range.1 hj)))
theorem numB_numL (t:ByteArray):numB t=numL (bl t):=by
 unfold numB numL
 rw [bl_len,digB_all]
 by_cases h:0 < t.size
 ·rw [bl_getD h]
 ·rw [if_pos (.inl (by omega)),if_pos (.inl (by omega))]
theorem gX_lX (f:Nat):∀ (m:Nat) (t:ByteArray) (d:Nat),gX f m t d=lX f m (bl t) d:=by
 induction f with
 | zero=>intro m t d; rfl
 | succ f ih =>
  intro m t d
  have hE0:∀ n,bl (t.extract 0 n)=(bl t).take n:=fun n=>by rw [bl_extract]; simp
  have hE1:∀ n,bl (t.extract n t.size)=(bl t).drop n:=fun n=>by
   rw [bl_extract,List.take_of_length_le]; rw [List.length_drop,bl_len]; exact Nat.le_refl _
  have hE2:bl (t.extract 1 (t.size - 1))=((bl t).drop 1).take ((bl t).length - 2):=by
   rw [bl_extract,bl_len]; congr 1
  rw [gX,lX]
  simp only [ih,lastI_lsc,hE0,hE1,hE2,numB_numL]
  by_cases h:0 < t.size
  ·rw [bl_getD h,bl_len,bl_getD (show t.size - 1 < t.size by omega)]
  ·have e1:¬ t.size=1:=by omega
   have e2:¬ 2 < t.size:=by omega
   simp only [bl_len,e1,e2,false_and,if_false]
theorem sumB_acc (t:ByteArray) (d:Nat):sumB t d=true↔acc d (bl t):=by
 unfold sumB gS
 rw [gX_lX]
 exact (lX_meet _ (bl t) d).1 (by rw [bl_len]; exact Nat.le_refl _)
end Go.Proofs.YtbgilndohccicaaGreatDoor
namespace Go.Proofs.YtbgilndohccicaaGreatDoor
open Go.RowKit
theorem below_gbN {w w':World} (g:w.grownBy w' none):Below w.heap.size w w':=⟨g.os,g.tape,g.output,g.size,fun k hk=>g.block k hk (by simp)⟩
set_option maxHeartbeats 600000 in
theorem here_any (s:ByteArray) (b k:Nat) (u:Bool) (w:World) (h:RS w b s k u) :
  Calls Tryz.prog 151 #[.pointer (some ⟨b,0,none⟩)] w fun e w' =>
   e=.returned (.agg #[.int .u8 (nextB s k),.int .i64 0,.int .i64 k])∧Below w.heap.size w w':=by
 have hb:=h.blt
 have R0:RS (w.alloc (.cells #[.int .u8 0,.int .i64 0,.int .i64 0] 220)) b s k u:=h.alloc _
 obtain ⟨c0,c1,c2,_,f1,f3,le,lt⟩:=id h
 go_enter Tryz.func151,Tryz.ntmps151
 go_wp2
 go_region_with (go_at_call 141; refine (next_rs (s:=s) (b:=b) (k:=k) (u:=u) (by with_reducible repeat first | exact R0 | apply RS.drew | apply RS.alloc | apply RS.drewN)).mono ?_; rintro e w' ⟨rfl,n,rfl⟩)
 all_goals
  go_wp2_with fail
  refine bodyPost_ret (v:=.agg #[.int .u8 (nextB s k),.int .i64 0,.int .i64 k]) (by simp [results,Tryz.results151,go_sem]) rfl ⟨rfl,below_gbN ?_⟩
  with_reducible repeat first | exact World.grownBy.refl _ _ | apply gb_drew | apply gb_drew1 | apply gb_alloc | (refine gb_setNew ?_ (by omega) _)
set_option maxHeartbeats 400000 in
theorem isLetter_any (x y z:Int) (w:World) :
  Calls Tryz.prog 137 #[.agg #[.int .u8 x,.int .i64 y,.int .i64 z]] w fun e w'=>e=.returned (.bool (decide (97≤x) && decide (x≤122)))∧Below w.heap.size w w':=by
 go_enter Tryz.func137,Tryz.ntmps137
 go_wp2_with fail
 refine (isIn_any x 97 122 _).mono ?_
 rintro e w' ⟨rfl,rfl⟩
 go_wp2
 go_ret
 exact ⟨rfl,(Below.refl _ _).alloc (Nat.le_refl _) _⟩
end Go.Proofs.YtbgilndohccicaaGreatDoor
namespace Go.Proofs.YtbgilndohccicaaGreatDoor
open Go.RowKit
def kdF (fs:List (Int×Int)) (x:Int):Int×Bool:=if idxF fs x < 0 then (0,false) else ((fs[(idxF fs x).toNat]?.getD (0,0)).2,true)
theorem idxF_ltU (fs:List (Int×Int)) (x:Int):idxF fs x < fs.length:=by
 unfold idxF
 cases h:fs.findIdx? (fun p=>p.1==x) with
 | none=>simp only []; omega
 | some i =>
  rw [List.findIdx?_eq_some_iff_getElem] at h
  obtain ⟨hi,_⟩:=h
  simp only []; omega
set_option maxHeartbeats 400000 in
theorem kindOf_any (L x:Int) (a:Option Addr) (n c:Nat) (fs:List (Int×Int)) (w:World) (h:FV w (.slice a n c) fs) :
  Calls Tryz.prog 136 #[.agg #[.int .u8 L,.slice a n c],.int .u8 x] w fun e w'=>e=.returned (.tuple #[.int .u8 (kdF fs x).1,.bool (kdF fs x).2])∧Below w.heap.size w w':=by
 have hlt:=idxF_ltU fs x
 have C:=index_any L x (.slice a n c) fs (w.alloc (.cells #[.int .u8 L,.slice a n c] 99)) (h.alloc _)
 unfold kdF
 by_cases h0:idxF fs x < 0
 ·rw [if_pos h0]
  obtain ⟨i,hi⟩:∃ i,i=idxF fs x:=⟨_,rfl⟩
  rw [← hi] at C h0
  clear hi hlt
  go_enter Tryz.func136,Tryz.ntmps136
  go_wp2_with fail
  refine C.mono ?_
  rintro e w1 ⟨rfl,B1⟩
  have m1:w1.cell? ⟨w.heap.size,1,none⟩=some (.slice a n c):=(B1.cell (p:=⟨w.heap.size,1,none⟩) (by simp)).trans (by go_simp)
  go_wp2
  go_ret2
  exact ⟨rfl,((Below.refl _ _).alloc (Nat.le_refl _) _).trans (B1.mono (by simp))⟩
 ·rw [if_neg h0]
  obtain ⟨i,hi⟩:∃ i:Nat,(i:Int)=idxF fs x:=⟨(idxF fs x).toNat,by omega⟩
  rw [← hi] at C hlt ⊢
  have hin:i < fs.length:=by omega
  rw [Int.toNat_natCast]
  rcases h.shape with ⟨e,rfl⟩ | ⟨g,cap,e,hg,hm,hc⟩
  ·simp at hin
  cases e
  have hc1:=(hc i hin).2
  have hm':fs.length≤9223372036854775807:=by unfold maxLen at hm; omega
  generalize (fs[i]?.getD (0,0)).2=kd at hc1 ⊢
  generalize fs.length=m at *
  clear hi h0 hc h
  go_enter Tryz.func136,Tryz.ntmps136
  go_wp2_with fail
  refine C.mono ?_
  rintro e w1 ⟨rfl,B1⟩
  have m1:w1.cell? ⟨w.heap.size,1,none⟩=some (.slice (some ⟨g,0,none⟩) m c):=(B1.cell (p:=⟨w.heap.size,1,none⟩) (by simp)).trans (by go_simp)
  have m2:w1.cell? ⟨g,i * 2+1,none⟩=some (.int .u8 kd):=(B1.cell (p:=⟨g,i * 2+1,none⟩) (by simp; omega)).trans (by go_simp)
  go_wp2
  go_ret2
  exact ⟨rfl,((Below.refl _ _).alloc (Nat.le_refl _) _).trans (B1.mono (by simp))⟩
theorem kindOf_rs {L x:Int} {a:Option Addr} {n c:Nat} {fs:List (Int×Int)} {w:World} (h:FV w (.slice a n c) fs) (y:Int) (z:Bool) (hy:kdF fs x=(y,z)) :
  Calls Tryz.prog 136 #[.agg #[.int .u8 L,.slice a n c],.int .u8 x] w fun e w'=>e=.returned (.tuple #[.int .u8 y,.bool z])∧Below w.heap.size w w':=by
 have:=kindOf_any L x a n c fs w h
 rw [hy] at this; exact this
set_option maxHeartbeats 400000 in
theorem isZero_any (x y z:Int) (w:World) :
  Calls Tryz.prog 138 #[.agg #[.int .u8 x,.int .i64 y,.int .i64 z]] w fun e w'=>e=.returned (.bool (decide (x=48) && decide (y=0)))∧Below w.heap.size w w':=by
 by_cases h:x=48
 ·have h1:(x==48)=true:=by simpa using h
  by_cases h2:y=0
  ·have h3:(y==0)=true:=by simpa using h2
   rw [decide_eq_true h,decide_eq_true h2]
   clear h h2
   go_enter Tryz.func138,Tryz.ntmps138
   go_wp2
   go_ret
   exact ⟨rfl,(Below.refl _ _).alloc (Nat.le_refl _) _⟩
  ·have h3:(y==0)=false:=by simpa using h2
   rw [decide_eq_true h,decide_eq_false h2]
   clear h h2
   go_enter Tryz.func138,Tryz.ntmps138
   go_wp2
   go_ret
   exact ⟨rfl,(Below.refl _ _).alloc (Nat.le_refl _) _⟩
 ·have h1:(x==48)=false:=by simpa using h
  rw [decide_eq_false h]
  clear h
  go_enter Tryz.func138,Tryz.ntmps138
  go_wp2
  go_ret
  exact ⟨rfl,(Below.refl _ _).alloc (Nat.le_refl _) _⟩
def tV (t:GT):List Value:=[.int .u8 t.w,.int .i64 t.v,.int .i64 t.p]
theorem flatT_map (ts:List GT):flatT ts=ts.flatMap tV:=by
 induction ts with
 | nil=>rfl
 | cons t r ih=>simp only [flatT,ih,List.flatMap_cons,tV,List.cons_append,List.nil_append]
def zT:GT:=⟨0,0,0⟩
structure TCell (w:World) (g i:Nat) (t:GT):Prop where
 c0:w.cell? ⟨g,i * 3,none⟩=some (.int .u8 t.w)
 c1:w.cell? ⟨g,i * 3+1,none⟩=some (.int .i64 t.v)
 c2:w.cell? ⟨g,i * 3+2,none⟩=some (.int .i64 t.p)
theorem TCell.below {w w':World} {B g i:Nat} {t:GT} (h:TCell w g i t) (hb:Below B w w') (hg:g < B):TCell w' g i t :=
 ⟨(hb.cell (p:=⟨g,_,none⟩) hg).trans h.c0,(hb.cell (p:=⟨g,_,none⟩) hg).trans h.c1,(hb.cell (p:=⟨g,_,none⟩) hg).trans h.c2⟩
theorem TVb.cells {w:World} {base:Nat} {v:Value} {ts:List GT} (h:TVb w base v ts):(v=.slice none 0 0∧ts=[])∨∃ g cap,v=.slice (some ⟨g,0,none⟩) ts.length cap∧g < w.heap.size∧ts.length≤maxLen∧∀ i,i < ts.length→TCell w g i (ts[i]?.getD zT):=by
 have h':=h
 unfold TVb at h'
 rw [flatT_map] at h'
 rcases h.2 with ⟨rfl,hn⟩ | ⟨g,cap,cur,rfl,_,hg,h1,h2,_⟩
 ·exact .inl ⟨rfl,List.length_eq_zero_iff.1 hn⟩
 ·refine .inr ⟨g,cap,rfl,?_,by omega,fun i hi=>?_⟩
  ·exact (World.ownsRow.lt h' g rfl).2
  ·have hx:=getD_of hi zT
   exact ⟨by simpa using row_cell h' (fun _=>rfl) (j:=0) hx rfl,row_cell h' (fun _=>rfl) (j:=1) hx rfl,row_cell h' (fun _=>rfl) (j:=2) hx rfl⟩
end Go.Proofs.YtbgilndohccicaaGreatDoor
