import Derived.Test.YthckelcjncnalabKz15
namespace Go.Proofs.Ythckelcjncnalab

abbrev Sch := List (Int × List (Int × Int))
/-- The fields of the class of that Letter. -/
def fof (cs : Sch) (x : Int) : List (Int × Int) := ((cs.find? (fun c => c.1 == x)).getD (0, [])).2
theorem fof_le {cs : Sch} (h6 : ∀ c ∈ cs, c.2.length ≤ 6) (x : Int) : (fof cs x).length ≤ 6 := by
  unfold fof
  cases hf : cs.find? (fun c => c.1 == x) with
  | none => simp
  | some c => exact h6 c (List.mem_of_find?_eq_some hf)
/-- What the program's heap holds, and what the document's does. -/
structure PH where
  R : Nat → Nat
  K : Nat → Int
  N : Nat → Nat → Int
  F : Nat → Nat → Nat
structure DH where
  R : Nat → Nat
  K : Nat → Int
  C : Nat → Nat → Int
  n : Nat
def PH.rt (p : PH) (x : Nat) : Prop := ∃ i, i < 8 ∧ p.R i = x ∧ x ≠ 0
def PH.ed (p : PH) (x y : Nat) : Prop := ∃ j, j < 6 ∧ p.F x j = y ∧ y ≠ 0
def PH.in (p : PH) : Nat → Prop := Rch p.rt p.ed
def DH.rt (r : DH) (x : Nat) : Prop := ∃ i, i < 8 ∧ r.R i = x ∧ x ≠ 0
def DH.ed (r : DH) (cs : Sch) (x y : Nat) : Prop := ∃ j f, (fof cs (r.K x))[j]? = some f ∧ f.2 = 114 ∧ r.C x j = y ∧ y ≠ 0
def DH.in (r : DH) (cs : Sch) : Nat → Prop := Rch r.rt (r.ed cs)
/-- M takes each object of the program's to the document's. -/
structure Bis (cs : Sch) (p : PH) (r : DH) (M : Nat → Nat → Prop) : Prop where
  fn : ∀ a b b', M a b → M a b' → b = b'
  inj : ∀ a a' b, M a b → M a' b → a = a'
  pos : ∀ a b, M a b → 0 < a ∧ a < 201 ∧ 0 < b ∧ b ≤ r.n
  root : ∀ i, i < 8 → (p.R i = 0 ∧ r.R i = 0) ∨ M (p.R i) (r.R i)
  cls : ∀ a b, M a b → p.K a = r.K b
  has : ∀ a b, M a b → (cs.any fun c => c.1 == p.K a) = true
  num : ∀ a b, M a b → ∀ j f, (fof cs (p.K a))[j]? = some f → f.2 ≠ 114 → p.N a j = r.C b j
  ref : ∀ a b, M a b → ∀ j f, (fof cs (p.K a))[j]? = some f → f.2 = 114 → (p.F a j = 0 ∧ r.C b j = 0) ∨ ∃ c : Nat, r.C b j = c ∧ M (p.F a j) c
  nor : ∀ a b, M a b → ∀ j, j < 6 → (∀ f, (fof cs (p.K a))[j]? = some f → f.2 ≠ 114) → p.F a j = 0
def Sim (cs : Sch) (p : PH) (r : DH) : Prop := ∃ M, Bis cs p r M

theorem Bis.to {cs : Sch} {p : PH} {r : DH} {M : Nat → Nat → Prop} (h : Bis cs p r M) {a : Nat} (ha : p.in a) : ∃ b, M a b ∧ r.in cs b := by
  refine Rch.least (P := fun a => ∃ b, M a b ∧ r.in cs b) ?_ ?_ ha
  · rintro x ⟨i, hi, rfl, hx⟩
    rcases h.root i hi with ⟨h1, _⟩ | h1
    · exact absurd h1 hx
    · exact ⟨_, h1, .root ⟨i, hi, rfl, by have := (h.pos _ _ h1).2.2.1; omega⟩⟩
  · rintro x y ⟨b, hb, hr⟩ ⟨j, hj, rfl, hy⟩
    by_cases hf : ∃ f, (fof cs (p.K x))[j]? = some f ∧ f.2 = 114
    · obtain ⟨f, hf, hk⟩ := hf
      rcases h.ref x b hb j f hf hk with ⟨h1, _⟩ | ⟨c, hc, hm⟩
      · exact absurd h1 hy
      · exact ⟨c, hm, .step hr ⟨j, f, by rw [← h.cls _ _ hb]; exact hf, hk, hc, by have := (h.pos _ _ hm).2.2.1; omega⟩⟩
    · exact absurd (h.nor x b hb j hj (fun f hf' hk => hf ⟨f, hf', hk⟩)) hy
theorem Bis.from {cs : Sch} {p : PH} {r : DH} {M : Nat → Nat → Prop} (h : Bis cs p r M) (h6 : ∀ c ∈ cs, c.2.length ≤ 6) {b : Nat} (hb : r.in cs b) : ∃ a, M a b ∧ p.in a := by
  refine Rch.least (P := fun b => ∃ a, M a b ∧ p.in a) ?_ ?_ hb
  · rintro x ⟨i, hi, rfl, hx⟩
    rcases h.root i hi with ⟨_, h1⟩ | h1
    · exact absurd h1 hx
    · exact ⟨_, h1, .root ⟨i, hi, rfl, by have := (h.pos _ _ h1).1; omega⟩⟩
  · rintro x y ⟨a, ha, hr⟩ ⟨j, f, hf, hk, hc, hy⟩
    rw [← h.cls _ _ ha] at hf
    rcases h.ref a x ha j f hf hk with ⟨_, h1⟩ | ⟨c, hc', hm⟩
    · rw [h1] at hc; omega
    · have : c = y := by omega
      subst this
      have hj : j < 6 := by
        have := fof_le h6 (p.K a)
        obtain ⟨h', _⟩ := List.getElem?_eq_some_iff.1 hf
        omega
      exact ⟨_, hm, .step hr ⟨j, hj, rfl, by have := (h.pos _ _ hm).1; omega⟩⟩
/-- An object's words. -/
def wof (cs : Sch) (x : Int) : Nat := (fof cs x).length + 1
theorem Bis.words {cs : Sch} {p : PH} {r : DH} {M : Nat → Nat → Prop} (h : Bis cs p r M) (h6 : ∀ c ∈ cs, c.2.length ≤ 6) (L1 L2 : List Nat) (n1 : L1.Nodup) (n2 : L2.Nodup) (m1 : ∀ a, a ∈ L1 ↔ p.in a) (m2 : ∀ b, b ∈ L2 ↔ r.in cs b) :
    (L1.map (fun a => wof cs (p.K a))).sum = (L2.map (fun b => wof cs (r.K b))).sum := by
  refine sum_meet h.fn h.inj _ _ (fun a b hab => by rw [h.cls _ _ hab]) L1 L2 n1 n2 (fun a ha => ?_) (fun b hb => ?_)
  · obtain ⟨b, hb, hr⟩ := h.to ((m1 a).1 ha); exact ⟨b, (m2 b).2 hr, hb⟩
  · obtain ⟨a, ha, hr⟩ := h.from h6 ((m2 b).1 hb); exact ⟨a, (m1 a).2 hr, ha⟩

def set1 {α : Type} (f : Nat → α) (i : Nat) (v : α) : Nat → α := fun j => if j = i then v else f j
def set2 {α : Type} (f : Nat → Nat → α) (i k : Nat) (v : α) : Nat → Nat → α := fun a b => if a = i ∧ b = k then v else f a b
theorem set1_self {α : Type} (f : Nat → α) (i : Nat) (v : α) : set1 f i v i = v := by simp [set1]
theorem set1_ne {α : Type} (f : Nat → α) {i j : Nat} (v : α) (h : j ≠ i) : set1 f i v j = f j := by simp [set1, h]
theorem set2_self {α : Type} (f : Nat → Nat → α) (i k : Nat) (v : α) : set2 f i k v i k = v := by simp [set2]
theorem set2_ne {α : Type} (f : Nat → Nat → α) {i k a b : Nat} (v : α) (h : ¬ (a = i ∧ b = k)) : set2 f i k v a b = f a b := by simp [set2, h]

/-- A root is set to two that belong together. -/
theorem Bis.setRoot {cs : Sch} {p : PH} {r : DH} {M : Nat → Nat → Prop} (h : Bis cs p r M) (i x y : Nat) (hxy : (x = 0 ∧ y = 0) ∨ M x y) : Bis cs { p with R := set1 p.R i x } { r with R := set1 r.R i y } M := by
  refine ⟨h.fn, h.inj, h.pos, fun k hk => ?_, h.cls, h.has, h.num, h.ref, h.nor⟩
  by_cases e : k = i
  · subst e; simpa [set1_self] using hxy
  · simpa [set1_ne _ _ e] using h.root k hk
theorem Bis.setNum {cs : Sch} {p : PH} {r : DH} {M : Nat → Nat → Prop} (h : Bis cs p r M) {a b : Nat} (hab : M a b) (i : Nat) (v : Int) (f : Int × Int) (hf : (fof cs (p.K a))[i]? = some f) (hk : f.2 ≠ 114) : Bis cs { p with N := set2 p.N a i v } { r with C := set2 r.C b i v } M := by
  refine ⟨h.fn, h.inj, h.pos, h.root, h.cls, h.has, fun x y hxy j g hg hgk => ?_, fun x y hxy j g hg hgk => ?_, h.nor⟩
  · by_cases e : x = a ∧ j = i
    · obtain ⟨rfl, rfl⟩ := e
      have := h.fn _ _ _ hxy hab
      subst this
      simp [set2_self]
    · have e2 : ¬ (y = b ∧ j = i) := fun ⟨e1, e2⟩ => e ⟨h.inj _ _ _ hxy (e1 ▸ hab), e2⟩
      simp only [set2_ne _ _ e, set2_ne _ _ e2]
      exact h.num x y hxy j g hg hgk
  · have e2 : ¬ (y = b ∧ j = i) := by
      rintro ⟨rfl, rfl⟩
      have := h.inj _ _ _ hxy hab
      subst this
      rw [hf] at hg
      exact hk (by have := Option.some.inj hg; rw [this]; exact hgk)
    simp only [set2_ne _ _ e2]
    exact h.ref x y hxy j g hg hgk
theorem Bis.setRef {cs : Sch} {p : PH} {r : DH} {M : Nat → Nat → Prop} (h : Bis cs p r M) {a b : Nat} (hab : M a b) (i x y : Nat) (hxy : (x = 0 ∧ y = 0) ∨ M x y) (f : Int × Int) (hf : (fof cs (p.K a))[i]? = some f) (hk : f.2 = 114) : Bis cs { p with F := set2 p.F a i x } { r with C := set2 r.C b i (y : Int) } M := by
  refine ⟨h.fn, h.inj, h.pos, h.root, h.cls, h.has, fun u v huv j g hg hgk => ?_, fun u v huv j g hg hgk => ?_, fun u v huv j hj hno => ?_⟩
  · have e2 : ¬ (v = b ∧ j = i) := by
      rintro ⟨rfl, rfl⟩
      have := h.inj _ _ _ huv hab
      subst this
      rw [hf] at hg
      exact hgk (by have := Option.some.inj hg; rw [← this]; exact hk)
    simp only [set2_ne _ _ e2]
    exact h.num u v huv j g hg hgk
  · by_cases e : u = a ∧ j = i
    · obtain ⟨rfl, rfl⟩ := e
      have := h.fn _ _ _ huv hab
      subst this
      simp only [set2_self]
      rcases hxy with ⟨rfl, rfl⟩ | hm
      · exact .inl ⟨rfl, rfl⟩
      · exact .inr ⟨y, rfl, hm⟩
    · have e2 : ¬ (v = b ∧ j = i) := fun ⟨e1, e2⟩ => e ⟨h.inj _ _ _ huv (e1 ▸ hab), e2⟩
      simp only [set2_ne _ _ e, set2_ne _ _ e2]
      exact h.ref u v huv j g hg hgk
  · have e : ¬ (u = a ∧ j = i) := by
      rintro ⟨rfl, rfl⟩
      exact hno f hf hk
    simp only [set2_ne _ _ e]
    exact h.nor u v huv j hj hno
/-- A new object, in a place that can't be reached. -/
theorem Bis.make {cs : Sch} {p : PH} {r : DH} {M : Nat → Nat → Prop} (h : Bis cs p r M) (h6 : ∀ c ∈ cs, c.2.length ≤ 6) (a i : Nat) (c : Int) (ha : ¬ p.in a) (h0 : 0 < a) (h1 : a < 201) (hc : (cs.any fun x => x.1 == c) = true) (p' : PH) (r' : DH)
    (eR : p'.R = set1 p.R i a) (eK : p'.K = set1 p.K a c) (eN : ∀ x j, x ≠ a → p'.N x j = p.N x j) (eN0 : ∀ j, j < 6 → p'.N a j = 0) (eF : ∀ x j, x ≠ a → p'.F x j = p.F x j) (eF0 : ∀ j, j < 6 → p'.F a j = 0)
    (dR : r'.R = set1 r.R i (r.n + 1)) (dK : ∀ y, 0 < y → y ≤ r.n → r'.K y = r.K y) (dK1 : r'.K (r.n + 1) = c) (dC : ∀ y j, 0 < y → y ≤ r.n → r'.C y j = r.C y j) (dC1 : ∀ j, r'.C (r.n + 1) j = 0) (dn : r'.n = r.n + 1) : Sim cs p' r' := by
  refine ⟨fun x y => (M x y ∧ p.in x) ∨ (x = a ∧ y = r.n + 1), ?_, ?_, ?_, ?_, ?_, ?_, ?_, ?_, ?_⟩
  · rintro x y y' (⟨h2, h3⟩ | ⟨rfl, rfl⟩) (⟨h4, h5⟩ | ⟨h4, rfl⟩)
    · exact h.fn _ _ _ h2 h4
    · subst h4; exact absurd h3 ha
    · exact absurd h5 ha
    · rfl
  · rintro x x' y (⟨h2, h3⟩ | ⟨rfl, rfl⟩) (⟨h4, h5⟩ | ⟨rfl, h4⟩)
    · exact h.inj _ _ _ h2 h4
    · have := (h.pos _ _ h2).2.2.2; omega
    · have := (h.pos _ _ h4).2.2.2; omega
    · rfl
  · rintro x y (⟨h2, h3⟩ | ⟨rfl, rfl⟩)
    · have := h.pos _ _ h2; rw [dn]; omega
    · rw [dn]; omega
  · intro k hk
    by_cases e : k = i
    · subst e; rw [eR, dR, set1_self, set1_self]; exact .inr (.inr ⟨rfl, rfl⟩)
    · rw [eR, dR, set1_ne _ _ e, set1_ne _ _ e]
      rcases h.root k hk with h2 | h2
      · exact .inl h2
      · exact .inr (.inl ⟨h2, .root ⟨k, hk, rfl, by have := (h.pos _ _ h2).1; omega⟩⟩)
  all_goals
    rintro x y (⟨h2, h3⟩ | ⟨rfl, rfl⟩)
  · have hne : x ≠ a := fun e => ha (e ▸ h3)
    have hp := h.pos _ _ h2
    rw [eK, set1_ne _ _ hne, dK y hp.2.2.1 hp.2.2.2]; exact h.cls _ _ h2
  · rw [eK, set1_self, dK1]
  · have hne : x ≠ a := fun e => ha (e ▸ h3)
    rw [eK, set1_ne _ _ hne]; exact h.has _ _ h2
  · rw [eK, set1_self]; exact hc
  · have hne : x ≠ a := fun e => ha (e ▸ h3)
    have hp := h.pos _ _ h2
    rw [eK, set1_ne _ _ hne]
    intro j f hf hk
    rw [eN _ _ hne, dC y j hp.2.2.1 hp.2.2.2]; exact h.num _ _ h2 j f hf hk
  · intro j f hf hk
    rw [eK, set1_self] at hf
    rw [dC1, eN0 j (by have := fof_le h6 c; obtain ⟨h', _⟩ := List.getElem?_eq_some_iff.1 hf; omega)]
  · have hne : x ≠ a := fun e => ha (e ▸ h3)
    have hp := h.pos _ _ h2
    rw [eK, set1_ne _ _ hne]
    intro j f hf hk
    rw [eF _ _ hne, dC y j hp.2.2.1 hp.2.2.2]
    have hj : j < 6 := by have := fof_le h6 (p.K x); obtain ⟨h', _⟩ := List.getElem?_eq_some_iff.1 hf; omega
    rcases h.ref _ _ h2 j f hf hk with h4 | ⟨c', h4, h5⟩
    · exact .inl h4
    · exact .inr ⟨c', h4, .inl ⟨h5, .step h3 ⟨j, hj, rfl, by have := (h.pos _ _ h5).1; omega⟩⟩⟩
  · intro j f hf hk
    rw [eK, set1_self] at hf
    rw [dC1, eF0 j (by have := fof_le h6 c; obtain ⟨h', _⟩ := List.getElem?_eq_some_iff.1 hf; omega)]
    exact .inl ⟨rfl, rfl⟩
  · have hne : x ≠ a := fun e => ha (e ▸ h3)
    rw [eK, set1_ne _ _ hne]
    intro j hj hno
    rw [eF _ _ hne]; exact h.nor _ _ h2 j hj hno
  · intro j hj _; exact eF0 j hj
end Go.Proofs.Ythckelcjncnalab
