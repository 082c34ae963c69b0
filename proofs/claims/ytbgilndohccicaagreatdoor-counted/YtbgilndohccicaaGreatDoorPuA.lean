import Derived.Test.YtbgilndohccicaaGreatDoorSc1
namespace Go.Proofs.YtbgilndohccicaaGreatDoor

/-- What can be reached from the roots, along the edges. -/
inductive Rch (rt : Nat → Prop) (ed : Nat → Nat → Prop) : Nat → Prop where
  | root {x : Nat} (h : rt x) : Rch rt ed x
  | step {x y : Nat} (h : Rch rt ed x) (e : ed x y) : Rch rt ed y
theorem Rch.least {rt : Nat → Prop} {ed : Nat → Nat → Prop} {P : Nat → Prop} (h1 : ∀ x, rt x → P x) (h2 : ∀ x y, P x → ed x y → P y) {x : Nat} (h : Rch rt ed x) : P x := by
  induction h with
  | root h => exact h1 _ h
  | step _ e ih => exact h2 _ _ ih e
theorem nodup_le : ∀ (n : Nat) (L : List Nat), L.Nodup → (∀ x ∈ L, x < n) → L.length ≤ n := by
  intro n
  induction n with
  | zero => intro L _ h; cases L with
    | nil => simp
    | cons x L => have := h x (by simp); omega
  | succ n ih =>
    intro L hd h
    by_cases hn : n ∈ L
    · have hd' : (L.erase n).Nodup := hd.erase n
      have := ih (L.erase n) hd' (fun x hx => by
        have h1 := h x (List.mem_of_mem_erase hx)
        have h2 : x ≠ n := fun e => by subst e; exact (List.Nodup.not_mem_erase hd) hx
        omega)
      rw [List.length_erase_of_mem hn] at this
      have : 0 < L.length := List.length_pos_of_mem hn
      omega
    · have := ih L hd (fun x hx => by
        have h1 := h x hx
        have h2 : x ≠ n := fun e => by subst e; exact hn hx
        omega)
      omega
theorem nodup_snoc {L : List Nat} {x : Nat} (h : L.Nodup) (hx : x ∉ L) : (L ++ [x]).Nodup := by
  rw [List.nodup_append]
  refine ⟨h, by simp, fun a ha b hb => ?_⟩
  simp at hb; subst hb
  exact fun e => hx (e ▸ ha)
/-- Two lists of what can be reached, on either side, over a relation that is one to one: the same in sum. -/
theorem sum_meet {M : Nat → Nat → Prop} (fn : ∀ a b b', M a b → M a b' → b = b') (inj : ∀ a a' b, M a b → M a' b → a = a') (f g : Nat → Nat) (hfg : ∀ a b, M a b → f a = g b) :
    ∀ (L1 L2 : List Nat), L1.Nodup → L2.Nodup → (∀ a, a ∈ L1 → ∃ b, b ∈ L2 ∧ M a b) → (∀ b, b ∈ L2 → ∃ a, a ∈ L1 ∧ M a b) → (L1.map f).sum = (L2.map g).sum := by
  intro L1
  induction L1 with
  | nil => intro L2 _ _ _ h; cases L2 with
    | nil => rfl
    | cons b L2 => obtain ⟨a, ha, _⟩ := h b (by simp); simp at ha
  | cons a L1 ih =>
    intro L2 h1 h2 h3 h4
    obtain ⟨b, hb, hab⟩ := h3 a (by simp)
    have hp : L2.Perm (b :: L2.erase b) := List.perm_cons_erase hb
    have hs : (L2.map g).sum = g b + ((L2.erase b).map g).sum := by
      rw [(hp.map g).sum_nat]; simp
    have := ih (L2.erase b) (List.nodup_cons.1 h1).2 (h2.erase b) (fun a' ha' => ?_) (fun b' hb' => ?_)
    · rw [hs, ← this, ← hfg a b hab]; simp
    · obtain ⟨b', hb', hab'⟩ := h3 a' (by simp [ha'])
      refine ⟨b', ?_, hab'⟩
      have hne : b' ≠ b := fun e => by
        subst e
        have := inj _ _ _ hab hab'
        subst this
        exact (List.nodup_cons.1 h1).1 ha'
      exact (List.mem_erase_of_ne hne).2 hb'
    · obtain ⟨a', ha', hab'⟩ := h4 b' (List.mem_of_mem_erase hb')
      have hne : b' ≠ b := fun e => by subst e; exact (List.Nodup.not_mem_erase h2) hb'
      rcases List.mem_cons.1 ha' with rfl | ha'
      · exact absurd (fn _ _ _ hab' hab) hne
      · exact ⟨a', ha', hab'⟩
/-- How many of the first n are marked. -/
def cnt (f : Nat → Bool) (n : Nat) : Nat := ((List.range n).filter f).length
theorem cnt_succ (f : Nat → Bool) (n : Nat) : cnt f (n + 1) = cnt f n + (if f n = true then 1 else 0) := by
  unfold cnt; rw [List.range_succ, List.filter_append, List.length_append]
  cases h : f n <;> simp [h]
theorem cnt_le (f : Nat → Bool) (n : Nat) : cnt f n ≤ n := by
  induction n with
  | zero => simp [cnt]
  | succ n ih => rw [cnt_succ]; split <;> omega
theorem cnt_full (f : Nat → Bool) (n : Nat) (h : n ≤ cnt f n) : ∀ i, i < n → f i = true := by
  induction n with
  | zero => intro i hi; omega
  | succ n ih =>
    rw [cnt_succ] at h
    have := cnt_le f n
    intro i hi
    split at h
    · rename_i hn
      rcases Nat.lt_succ_iff_lt_or_eq.1 hi with hi | rfl
      · exact ih (by omega) i hi
      · exact hn
    · omega
theorem cnt_mono (f g : Nat → Bool) (n : Nat) (h : ∀ i, i < n → f i = true → g i = true) : cnt f n ≤ cnt g n := by
  induction n with
  | zero => simp [cnt]
  | succ n ih =>
    rw [cnt_succ, cnt_succ]
    have := ih (fun i hi => h i (by omega))
    have h2 := h n (by omega)
    split
    · rename_i hf; rw [if_pos (h2 hf)]; omega
    · split <;> omega
theorem cnt_more (f g : Nat → Bool) (n k : Nat) (h : ∀ i, i < n → f i = true → g i = true) (hk : k < n) (h1 : f k = false) (h2 : g k = true) : cnt f n < cnt g n := by
  induction n with
  | zero => omega
  | succ n ih =>
    rw [cnt_succ, cnt_succ]
    rcases Nat.lt_succ_iff_lt_or_eq.1 hk with hk | rfl
    · have := ih (fun i hi => h i (by omega)) hk
      have h3 := h n (by omega)
      split
      · rename_i hf; rw [if_pos (h3 hf)]; omega
      · split <;> omega
    · rw [h1, h2]
      have := cnt_mono f g k (fun i hi => h i (by omega))
      simp; omega
end Go.Proofs.YtbgilndohccicaaGreatDoor
namespace Go.Proofs.YtbgilndohccicaaGreatDoor

abbrev Sch := List (Int × List (Int × Int))
/-- The fields of the class of that Letter. -/
def fof (cs : Sch) (x : Int) : List (Int × Int) := ((cs.find? (fun c => c.1 == x)).getD (0, [])).2
theorem fof_le {cs : Sch} (h6 : ∀ c ∈ cs, c.2.length ≤ 6) (x : Int) : (fof cs x).length ≤ 6 := by
  unfold fof
  cases hf : cs.find? (fun c => c.1 == x) with
  | none => simp
  | some c => exact h6 c (List.mem_of_find?_eq_some hf)
/-- What the program's heap holds, and what the document's does. -/
structure PH where
  R : Nat → Nat
  K : Nat → Int
  N : Nat → Nat → Int
  F : Nat → Nat → Nat
structure DH where
  R : Nat → Nat
  K : Nat → Int
  C : Nat → Nat → Int
  n : Nat
def PH.rt (p : PH) (x : Nat) : Prop := ∃ i, i < 8 ∧ p.R i = x ∧ x ≠ 0
def PH.ed (p : PH) (x y : Nat) : Prop := ∃ j, j < 6 ∧ p.F x j = y ∧ y ≠ 0
def PH.in (p : PH) : Nat → Prop := Rch p.rt p.ed
def DH.rt (r : DH) (x : Nat) : Prop := ∃ i, i < 8 ∧ r.R i = x ∧ x ≠ 0
def DH.ed (r : DH) (cs : Sch) (x y : Nat) : Prop := ∃ j f, (fof cs (r.K x))[j]? = some f ∧ f.2 = 114 ∧ r.C x j = y ∧ y ≠ 0
def DH.in (r : DH) (cs : Sch) : Nat → Prop := Rch r.rt (r.ed cs)
/-- M takes each object of the program's to the document's. -/
structure Bis (cs : Sch) (p : PH) (r : DH) (M : Nat → Nat → Prop) : Prop where
  fn : ∀ a b b', M a b → M a b' → b = b'
  inj : ∀ a a' b, M a b → M a' b → a = a'
  pos : ∀ a b, M a b → 0 < a ∧ a < 201 ∧ 0 < b ∧ b ≤ r.n
  root : ∀ i, i < 8 → (p.R i = 0 ∧ r.R i = 0) ∨ M (p.R i) (r.R i)
  cls : ∀ a b, M a b → p.K a = r.K b
  has : ∀ a b, M a b → (cs.any fun c => c.1 == p.K a) = true
  num : ∀ a b, M a b → ∀ j f, (fof cs (p.K a))[j]? = some f → f.2 ≠ 114 → p.N a j = r.C b j
  ref : ∀ a b, M a b → ∀ j f, (fof cs (p.K a))[j]? = some f → f.2 = 114 → (p.F a j = 0 ∧ r.C b j = 0) ∨ ∃ c : Nat, r.C b j = c ∧ M (p.F a j) c
  nor : ∀ a b, M a b → ∀ j, j < 6 → (∀ f, (fof cs (p.K a))[j]? = some f → f.2 ≠ 114) → p.F a j = 0
def Sim (cs : Sch) (p : PH) (r : DH) : Prop := ∃ M, Bis cs p r M

theorem Bis.to {cs : Sch} {p : PH} {r : DH} {M : Nat → Nat → Prop} (h : Bis cs p r M) {a : Nat} (ha : p.in a) : ∃ b, M a b ∧ r.in cs b := by
  refine Rch.least (P := fun a => ∃ b, M a b ∧ r.in cs b) ?_ ?_ ha
  · rintro x ⟨i, hi, rfl, hx⟩
    rcases h.root i hi with ⟨h1, _⟩ | h1
    · exact absurd h1 hx
    · exact ⟨_, h1, .root ⟨i, hi, rfl, by have := (h.pos _ _ h1).2.2.1; omega⟩⟩
  · rintro x y ⟨b, hb, hr⟩ ⟨j, hj, rfl, hy⟩
    by_cases hf : ∃ f, (fof cs (p.K x))[j]? = some f ∧ f.2 = 114
    · obtain ⟨f, hf, hk⟩ := hf
      rcases h.ref x b hb j f hf hk with ⟨h1, _⟩ | ⟨c, hc, hm⟩
      · exact absurd h1 hy
      · exact ⟨c, hm, .step hr ⟨j, f, by rw [← h.cls _ _ hb]; exact hf, hk, hc, by have := (h.pos _ _ hm).2.2.1; omega⟩⟩
    · exact absurd (h.nor x b hb j hj (fun f hf' hk => hf ⟨f, hf', hk⟩)) hy
theorem Bis.from {cs : Sch} {p : PH} {r : DH} {M : Nat → Nat → Prop} (h : Bis cs p r M) (h6 : ∀ c ∈ cs, c.2.length ≤ 6) {b : Nat} (hb : r.in cs b) : ∃ a, M a b ∧ p.in a := by
  refine Rch.least (P := fun b => ∃ a, M a b ∧ p.in a) ?_ ?_ hb
  · rintro x ⟨i, hi, rfl, hx⟩
    rcases h.root i hi with ⟨_, h1⟩ | h1
    · exact absurd h1 hx
    · exact ⟨_, h1, .root ⟨i, hi, rfl, by have := (h.pos _ _ h1).1; omega⟩⟩
  · rintro x y ⟨a, ha, hr⟩ ⟨j, f, hf, hk, hc, hy⟩
    rw [← h.cls _ _ ha] at hf
    rcases h.ref a x ha j f hf hk with ⟨_, h1⟩ | ⟨c, hc', hm⟩
    · rw [h1] at hc; omega
    · have : c = y := by omega
      subst this
      have hj : j < 6 := by
        have := fof_le h6 (p.K a)
        obtain ⟨h', _⟩ := List.getElem?_eq_some_iff.1 hf
        omega
      exact ⟨_, hm, .step hr ⟨j, hj, rfl, by have := (h.pos _ _ hm).1; omega⟩⟩
/-- An object's words. -/
def wof (cs : Sch) (x : Int) : Nat := (fof cs x).length + 1
theorem Bis.words {cs : Sch} {p : PH} {r : DH} {M : Nat → Nat → Prop} (h : Bis cs p r M) (h6 : ∀ c ∈ cs, c.2.length ≤ 6) (L1 L2 : List Nat) (n1 : L1.Nodup) (n2 : L2.Nodup) (m1 : ∀ a, a ∈ L1 ↔ p.in a) (m2 : ∀ b, b ∈ L2 ↔ r.in cs b) :
    (L1.map (fun a => wof cs (p.K a))).sum = (L2.map (fun b => wof cs (r.K b))).sum := by
  refine sum_meet h.fn h.inj _ _ (fun a b hab => by rw [h.cls _ _ hab]) L1 L2 n1 n2 (fun a ha => ?_) (fun b hb => ?_)
  · obtain ⟨b, hb, hr⟩ := h.to ((m1 a).1 ha); exact ⟨b, (m2 b).2 hr, hb⟩
  · obtain ⟨a, ha, hr⟩ := h.from h6 ((m2 b).1 hb); exact ⟨a, (m1 a).2 hr, ha⟩

def set1 {α : Type} (f : Nat → α) (i : Nat) (v : α) : Nat → α := fun j => if j = i then v else f j
def set2 {α : Type} (f : Nat → Nat → α) (i k : Nat) (v : α) : Nat → Nat → α := fun a b => if a = i ∧ b = k then v else f a b
theorem set1_self {α : Type} (f : Nat → α) (i : Nat) (v : α) : set1 f i v i = v := by simp [set1]
theorem set1_ne {α : Type} (f : Nat → α) {i j : Nat} (v : α) (h : j ≠ i) : set1 f i v j = f j := by simp [set1, h]
theorem set2_self {α : Type} (f : Nat → Nat → α) (i k : Nat) (v : α) : set2 f i k v i k = v := by simp [set2]
theorem set2_ne {α : Type} (f : Nat → Nat → α) {i k a b : Nat} (v : α) (h : ¬ (a = i ∧ b = k)) : set2 f i k v a b = f a b := by simp [set2, h]

/-- A root is set to two that belong together. -/
theorem Bis.setRoot {cs : Sch} {p : PH} {r : DH} {M : Nat → Nat → Prop} (h : Bis cs p r M) (i x y : Nat) (hxy : (x = 0 ∧ y = 0) ∨ M x y) : Bis cs { p with R := set1 p.R i x } { r with R := set1 r.R i y } M := by
  refine ⟨h.fn, h.inj, h.pos, fun k hk => ?_, h.cls, h.has, h.num, h.ref, h.nor⟩
  by_cases e : k = i
  · subst e; simpa [set1_self] using hxy
  · simpa [set1_ne _ _ e] using h.root k hk
theorem Bis.setNum {cs : Sch} {p : PH} {r : DH} {M : Nat → Nat → Prop} (h : Bis cs p r M) {a b : Nat} (hab : M a b) (i : Nat) (v : Int) (f : Int × Int) (hf : (fof cs (p.K a))[i]? = some f) (hk : f.2 ≠ 114) : Bis cs { p with N := set2 p.N a i v } { r with C := set2 r.C b i v } M := by
  refine ⟨h.fn, h.inj, h.pos, h.root, h.cls, h.has, fun x y hxy j g hg hgk => ?_, fun x y hxy j g hg hgk => ?_, h.nor⟩
  · by_cases e : x = a ∧ j = i
    · obtain ⟨rfl, rfl⟩ := e
      have := h.fn _ _ _ hxy hab
      subst this
      simp [set2_self]
    · have e2 : ¬ (y = b ∧ j = i) := fun ⟨e1, e2⟩ => e ⟨h.inj _ _ _ hxy (e1 ▸ hab), e2⟩
      simp only [set2_ne _ _ e, set2_ne _ _ e2]
      exact h.num x y hxy j g hg hgk
  · have e2 : ¬ (y = b ∧ j = i) := by
      rintro ⟨rfl, rfl⟩
      have := h.inj _ _ _ hxy hab
      subst this
      rw [hf] at hg
      exact hk (by have := Option.some.inj hg; rw [this]; exact hgk)
    simp only [set2_ne _ _ e2]
    exact h.ref x y hxy j g hg hgk
theorem Bis.setRef {cs : Sch} {p : PH} {r : DH} {M : Nat → Nat → Prop} (h : Bis cs p r M) {a b : Nat} (hab : M a b) (i x y : Nat) (hxy : (x = 0 ∧ y = 0) ∨ M x y) (f : Int × Int) (hf : (fof cs (p.K a))[i]? = some f) (hk : f.2 = 114) : Bis cs { p with F := set2 p.F a i x } { r with C := set2 r.C b i (y : Int) } M := by
  refine ⟨h.fn, h.inj, h.pos, h.root, h.cls, h.has, fun u v huv j g hg hgk => ?_, fun u v huv j g hg hgk => ?_, fun u v huv j hj hno => ?_⟩
  · have e2 : ¬ (v = b ∧ j = i) := by
      rintro ⟨rfl, rfl⟩
      have := h.inj _ _ _ huv hab
      subst this
      rw [hf] at hg
      exact hgk (by have := Option.some.inj hg; rw [← this]; exact hk)
    simp only [set2_ne _ _ e2]
    exact h.num u v huv j g hg hgk
  · by_cases e : u = a ∧ j = i
    · obtain ⟨rfl, rfl⟩ := e
      have := h.fn _ _ _ huv hab
      subst this
      simp only [set2_self]
      rcases hxy with ⟨rfl, rfl⟩ | hm
      · exact .inl ⟨rfl, rfl⟩
      · exact .inr ⟨y, rfl, hm⟩
    · have e2 : ¬ (v = b ∧ j = i) := fun ⟨e1, e2⟩ => e ⟨h.inj _ _ _ huv (e1 ▸ hab), e2⟩
      simp only [set2_ne _ _ e, set2_ne _ _ e2]
      exact h.ref u v huv j g hg hgk
  · have e : ¬ (u = a ∧ j = i) := by
      rintro ⟨rfl, rfl⟩
      exact hno f hf hk
    simp only [set2_ne _ _ e]
    exact h.nor u v huv j hj hno
/-- A new object, in a place that can't be reached. -/
theorem Bis.make {cs : Sch} {p : PH} {r : DH} {M : Nat → Nat → Prop} (h : Bis cs p r M) (h6 : ∀ c ∈ cs, c.2.length ≤ 6) (a i : Nat) (c : Int) (ha : ¬ p.in a) (h0 : 0 < a) (h1 : a < 201) (hc : (cs.any fun x => x.1 == c) = true) (p' : PH) (r' : DH)
    (eR : p'.R = set1 p.R i a) (eK : p'.K = set1 p.K a c) (eN : ∀ x j, x ≠ a → p'.N x j = p.N x j) (eN0 : ∀ j, j < 6 → p'.N a j = 0) (eF : ∀ x j, x ≠ a → p'.F x j = p.F x j) (eF0 : ∀ j, j < 6 → p'.F a j = 0)
    (dR : r'.R = set1 r.R i (r.n + 1)) (dK : ∀ y, 0 < y → y ≤ r.n → r'.K y = r.K y) (dK1 : r'.K (r.n + 1) = c) (dC : ∀ y j, 0 < y → y ≤ r.n → r'.C y j = r.C y j) (dC1 : ∀ j, r'.C (r.n + 1) j = 0) (dn : r'.n = r.n + 1) : Sim cs p' r' := by
  refine ⟨fun x y => (M x y ∧ p.in x) ∨ (x = a ∧ y = r.n + 1), ?_, ?_, ?_, ?_, ?_, ?_, ?_, ?_, ?_⟩
  · rintro x y y' (⟨h2, h3⟩ | ⟨rfl, rfl⟩) (⟨h4, h5⟩ | ⟨h4, rfl⟩)
    · exact h.fn _ _ _ h2 h4
    · subst h4; exact absurd h3 ha
    · exact absurd h5 ha
    · rfl
  · rintro x x' y (⟨h2, h3⟩ | ⟨rfl, rfl⟩) (⟨h4, h5⟩ | ⟨rfl, h4⟩)
    · exact h.inj _ _ _ h2 h4
    · have := (h.pos _ _ h2).2.2.2; omega
    · have := (h.pos _ _ h4).2.2.2; omega
    · rfl
  · rintro x y (⟨h2, h3⟩ | ⟨rfl, rfl⟩)
    · have := h.pos _ _ h2; rw [dn]; omega
    · rw [dn]; omega
  · intro k hk
    by_cases e : k = i
    · subst e; rw [eR, dR, set1_self, set1_self]; exact .inr (.inr ⟨rfl, rfl⟩)
    · rw [eR, dR, set1_ne _ _ e, set1_ne _ _ e]
      rcases h.root k hk with h2 | h2
      · exact .inl h2
      · exact .inr (.inl ⟨h2, .root ⟨k, hk, rfl, by have := (h.pos _ _ h2).1; omega⟩⟩)
  all_goals
    rintro x y (⟨h2, h3⟩ | ⟨rfl, rfl⟩)
  · have hne : x ≠ a := fun e => ha (e ▸ h3)
    have hp := h.pos _ _ h2
    rw [eK, set1_ne _ _ hne, dK y hp.2.2.1 hp.2.2.2]; exact h.cls _ _ h2
  · rw [eK, set1_self, dK1]
  · have hne : x ≠ a := fun e => ha (e ▸ h3)
    rw [eK, set1_ne _ _ hne]; exact h.has _ _ h2
  · rw [eK, set1_self]; exact hc
  · have hne : x ≠ a := fun e => ha (e ▸ h3)
    have hp := h.pos _ _ h2
    rw [eK, set1_ne _ _ hne]
    intro j f hf hk
    rw [eN _ _ hne, dC y j hp.2.2.1 hp.2.2.2]; exact h.num _ _ h2 j f hf hk
  · intro j f hf hk
    rw [eK, set1_self] at hf
    rw [dC1, eN0 j (by have := fof_le h6 c; obtain ⟨h', _⟩ := List.getElem?_eq_some_iff.1 hf; omega)]
  · have hne : x ≠ a := fun e => ha (e ▸ h3)
    have hp := h.pos _ _ h2
    rw [eK, set1_ne _ _ hne]
    intro j f hf hk
    rw [eF _ _ hne, dC y j hp.2.2.1 hp.2.2.2]
    have hj : j < 6 := by have := fof_le h6 (p.K x); obtain ⟨h', _⟩ := List.getElem?_eq_some_iff.1 hf; omega
    rcases h.ref _ _ h2 j f hf hk with h4 | ⟨c', h4, h5⟩
    · exact .inl h4
    · exact .inr ⟨c', h4, .inl ⟨h5, .step h3 ⟨j, hj, rfl, by have := (h.pos _ _ h5).1; omega⟩⟩⟩
  · intro j f hf hk
    rw [eK, set1_self] at hf
    rw [dC1, eF0 j (by have := fof_le h6 c; obtain ⟨h', _⟩ := List.getElem?_eq_some_iff.1 hf; omega)]
    exact .inl ⟨rfl, rfl⟩
  · have hne : x ≠ a := fun e => ha (e ▸ h3)
    rw [eK, set1_ne _ _ hne]
    intro j hj hno
    rw [eF _ _ hne]; exact h.nor _ _ h2 j hj hno
  · intro j hj _; exact eF0 j hj
end Go.Proofs.YtbgilndohccicaaGreatDoor
namespace Go.Proofs.YtbgilndohccicaaGreatDoor

theorem idxF_lt {fs : List (Int × Int)} {x : Int} (h : ¬ idxF fs x < 0) : ∃ i : Nat, idxF fs x = i ∧ i < fs.length := by
  unfold idxF at h ⊢
  cases hf : fs.findIdx? (fun p => p.1 == x) with
  | none => rw [hf] at h; simp at h
  | some i => rw [List.findIdx?_eq_some_iff_getElem] at hf; exact ⟨i, rfl, hf.1⟩
theorem idxF_at {fs : List (Int × Int)} {x : Int} {i : Nat} (h : idxF fs x = i) : i < fs.length ∧ (fs[i]?.getD (0, 0)).1 = x := by
  unfold idxF at h
  cases hf : fs.findIdx? (fun p => p.1 == x) with
  | none => rw [hf] at h; simp at h
  | some k =>
    rw [hf] at h
    have : k = i := by have h' : (k : Int) = i := h; omega
    subst this
    rw [List.findIdx?_eq_some_iff_getElem] at hf
    obtain ⟨h1, h2, _⟩ := hf
    exact ⟨h1, by rw [List.getElem?_eq_getElem h1]; simpa using h2⟩
def rtB (x : Int) : Bool := decide (0 ≤ x) && decide (x < 8)
theorem rtB_nat {x : Int} (h : rtB x = true) : ∃ n : Nat, x = n ∧ n < 8 := by
  simp only [rtB, Bool.and_eq_true, decide_eq_true_eq] at h
  exact ⟨x.toNat, by omega, by omega⟩
/-- What a search for a field tells: the object, the field's place, its kind, the error. -/
structure FF where
  n : Nat
  i : Nat
  k : Int
  e : Int
def ffind (cs : Sch) (R : Nat → Nat) (K : Nat → Int) (root letter : Int) : FF :=
  if rtB root = false then ⟨0, 0, 0, 8⟩
  else if R root.toNat = 0 then ⟨0, 0, 0, 9⟩
  else if idxF (fof cs (K (R root.toNat))) letter < 0 then ⟨0, 0, 0, 5⟩
  else ⟨R root.toNat, (idxF (fof cs (K (R root.toNat))) letter).toNat, ((fof cs (K (R root.toNat)))[(idxF (fof cs (K (R root.toNat))) letter).toNat]?.getD (0, 0)).2, 0⟩
def fnum (f : FF) : FF := if f.e = 0 then (if f.k = 114 then ⟨0, 0, 0, 6⟩ else f) else ⟨0, 0, 0, f.e⟩
def fref (f : FF) : FF := if f.e = 0 then (if f.k = 114 then f else ⟨0, 0, 0, 6⟩) else ⟨0, 0, 0, f.e⟩
theorem ffind_zero (cs : Sch) (R : Nat → Nat) (K : Nat → Int) (root letter : Int) (h : (ffind cs R K root letter).e ≠ 0) : ffind cs R K root letter = ⟨0, 0, 0, (ffind cs R K root letter).e⟩ := by
  unfold ffind at h ⊢
  split
  · rfl
  · split
    · rfl
    · split
      · rfl
      · rename_i h1 h2 h3; rw [if_neg h1, if_neg h2, if_neg h3] at h; simp at h
/-- What was found. -/
theorem ffind_at {cs : Sch} {R : Nat → Nat} {K : Nat → Int} {root letter : Int} (h : (ffind cs R K root letter).e = 0) :
    ∃ n : Nat, root = n ∧ n < 8 ∧ R n ≠ 0 ∧ ∃ i : Nat, idxF (fof cs (K (R n))) letter = i ∧ i < (fof cs (K (R n))).length ∧ ffind cs R K root letter = ⟨R n, i, ((fof cs (K (R n)))[i]?.getD (0, 0)).2, 0⟩ := by
  unfold ffind at h ⊢
  split at h
  · simp at h
  · rename_i h1
    obtain ⟨n, rfl, hn⟩ := rtB_nat (by simpa using h1)
    rw [if_neg h1]
    simp only [Int.toNat_natCast] at h ⊢
    split at h
    · simp at h
    · rename_i h2
      rw [if_neg h2]
      split at h
      · simp at h
      · rename_i h3
        rw [if_neg h3]
        obtain ⟨i, hi1, hi2⟩ := idxF_lt h3
        exact ⟨n, rfl, hn, h2, i, hi1, hi2, by rw [hi1]; simp⟩
theorem ffind_bd {cs : Sch} {R : Nat → Nat} {K : Nat → Int} {root letter : Int} (hR : ∀ i, i < 8 → R i < 201) (h6 : ∀ c ∈ cs, c.2.length ≤ 6) (h : (ffind cs R K root letter).e = 0) :
    0 < (ffind cs R K root letter).n ∧ (ffind cs R K root letter).n < 201 ∧ (ffind cs R K root letter).i < 6 := by
  obtain ⟨n, _, hn, h0, i, _, hi, e⟩ := ffind_at h
  rw [e]
  have := fof_le h6 (K (R n))
  exact ⟨by simp only []; omega, hR n hn, by simp only []; omega⟩
/-- Both sides find the same. -/
theorem find_meet {cs : Sch} {p : PH} {r : DH} {M : Nat → Nat → Prop} (h : Bis cs p r M) (root letter : Int) :
    (ffind cs p.R p.K root letter).e = (ffind cs r.R r.K root letter).e ∧ (ffind cs p.R p.K root letter).i = (ffind cs r.R r.K root letter).i ∧ (ffind cs p.R p.K root letter).k = (ffind cs r.R r.K root letter).k ∧
      ((ffind cs p.R p.K root letter).e = 0 → M (ffind cs p.R p.K root letter).n (ffind cs r.R r.K root letter).n) := by
  unfold ffind
  split
  · exact ⟨rfl, rfl, rfl, fun h => by simp at h⟩
  · rename_i h1
    obtain ⟨n, rfl, hn⟩ := rtB_nat (by simpa using h1)
    simp only [Int.toNat_natCast]
    rcases h.root n hn with ⟨e1, e2⟩ | hm
    · rw [if_pos e1, if_pos e2]; exact ⟨rfl, rfl, rfl, fun h => by simp at h⟩
    · have hp := h.pos _ _ hm
      have n1 : ¬ p.R n = 0 := by omega
      have n2 : ¬ r.R n = 0 := by omega
      rw [if_neg n1, if_neg n2, h.cls _ _ hm]
      split
      · exact ⟨rfl, rfl, rfl, fun h => by simp at h⟩
      · exact ⟨rfl, rfl, rfl, fun _ => hm⟩
theorem fnum_e0 {f : FF} (h : (fnum f).e = 0) : f.e = 0 ∧ f.k ≠ 114 ∧ fnum f = f := by
  unfold fnum at h ⊢
  split at h
  · rename_i h0
    split at h
    · simp at h
    · rename_i hk; exact ⟨h0, hk, by rw [if_pos h0, if_neg hk]⟩
  · rename_i h0; exact absurd h h0
theorem fref_e0 {f : FF} (h : (fref f).e = 0) : f.e = 0 ∧ f.k = 114 ∧ fref f = f := by
  unfold fref at h ⊢
  split at h
  · rename_i h0
    split at h
    · rename_i hk; exact ⟨h0, hk, by rw [if_pos h0, if_pos hk]⟩
    · simp at h
  · rename_i h0; exact absurd h h0
theorem fnum_e (f g : FF) (h1 : f.e = g.e) (h2 : f.k = g.k) : (fnum f).e = (fnum g).e := by
  unfold fnum; rw [h1, h2]; split
  · rename_i h0; split
    · rfl
    · rw [h1]
  · rfl
theorem fref_e (f g : FF) (h1 : f.e = g.e) (h2 : f.k = g.k) : (fref f).e = (fref g).e := by
  unfold fref; rw [h1, h2]; split
  · rename_i h0; split
    · rw [h1]
    · rfl
  · rfl
theorem ffind_fld {cs : Sch} {R : Nat → Nat} {K : Nat → Int} {root letter : Int} (h : (ffind cs R K root letter).e = 0) :
    ∃ f, (fof cs (K (ffind cs R K root letter).n))[(ffind cs R K root letter).i]? = some f ∧ f.2 = (ffind cs R K root letter).k := by
  obtain ⟨n, _, hn, h0, i, _, hi, e⟩ := ffind_at h
  rw [e]
  simp only []
  exact ⟨_, List.getElem?_eq_getElem hi, by rw [List.getElem?_eq_getElem hi]; rfl⟩
/-- What Get tells. -/
theorem get_meet {cs : Sch} {p : PH} {r : DH} (h : Sim cs p r) (root letter : Int) :
    (fnum (ffind cs p.R p.K root letter)).e = (fnum (ffind cs r.R r.K root letter)).e ∧ ((fnum (ffind cs p.R p.K root letter)).e = 0 → p.N (ffind cs p.R p.K root letter).n (ffind cs p.R p.K root letter).i = r.C (ffind cs r.R r.K root letter).n (ffind cs r.R r.K root letter).i) := by
  obtain ⟨M, h⟩ := h
  obtain ⟨h1, h2, h3, h4⟩ := find_meet h root letter
  refine ⟨fnum_e _ _ h1 h3, fun h0 => ?_⟩
  obtain ⟨a1, a2, _⟩ := fnum_e0 h0
  obtain ⟨f, hf, hk⟩ := ffind_fld a1
  rw [← h2]
  exact h.num _ _ (h4 a1) _ f hf (by rw [hk]; exact a2)
theorem put_meet {cs : Sch} {p : PH} {r : DH} (h : Sim cs p r) (root letter v : Int) (h0 : (fnum (ffind cs p.R p.K root letter)).e = 0) :
    Sim cs { p with N := set2 p.N (ffind cs p.R p.K root letter).n (ffind cs p.R p.K root letter).i v } { r with C := set2 r.C (ffind cs r.R r.K root letter).n (ffind cs r.R r.K root letter).i v } := by
  obtain ⟨M, h⟩ := h
  obtain ⟨h1, h2, h3, h4⟩ := find_meet h root letter
  obtain ⟨a1, a2, _⟩ := fnum_e0 h0
  obtain ⟨f, hf, hk⟩ := ffind_fld a1
  rw [← h2]
  exact ⟨M, h.setNum (h4 a1) _ v f hf (by rw [hk]; exact a2)⟩
theorem ref_meet {cs : Sch} {p : PH} {r : DH} (h : Sim cs p r) (root letter : Int) : (fref (ffind cs p.R p.K root letter)).e = (fref (ffind cs r.R r.K root letter)).e := by
  obtain ⟨M, h⟩ := h
  obtain ⟨h1, h2, h3, h4⟩ := find_meet h root letter
  exact fref_e _ _ h1 h3
theorem follow_meet {cs : Sch} {p : PH} {r : DH} (h : Sim cs p r) (root letter : Int) (to : Nat) (h0 : (fref (ffind cs p.R p.K root letter)).e = 0) :
    Sim cs { p with R := set1 p.R to (p.F (ffind cs p.R p.K root letter).n (ffind cs p.R p.K root letter).i) } { r with R := set1 r.R to (r.C (ffind cs r.R r.K root letter).n (ffind cs r.R r.K root letter).i).toNat } := by
  obtain ⟨M, h⟩ := h
  obtain ⟨h1, h2, h3, h4⟩ := find_meet h root letter
  obtain ⟨a1, a2, _⟩ := fref_e0 h0
  obtain ⟨f, hf, hk⟩ := ffind_fld a1
  rw [← h2]
  refine ⟨M, h.setRoot to _ _ ?_⟩
  rcases h.ref _ _ (h4 a1) _ f hf (by rw [hk]; exact a2) with ⟨e1, e2⟩ | ⟨c, e1, e2⟩
  · left; rw [e2]; exact ⟨e1, rfl⟩
  · right; rw [e1]; exact e2
theorem link_meet {cs : Sch} {p : PH} {r : DH} (h : Sim cs p r) (root letter : Int) (fr : Nat) (hfr : fr < 8) (h0 : (fref (ffind cs p.R p.K root letter)).e = 0) :
    Sim cs { p with F := set2 p.F (ffind cs p.R p.K root letter).n (ffind cs p.R p.K root letter).i (p.R fr) } { r with C := set2 r.C (ffind cs r.R r.K root letter).n (ffind cs r.R r.K root letter).i (r.R fr : Int) } := by
  obtain ⟨M, h⟩ := h
  obtain ⟨h1, h2, h3, h4⟩ := find_meet h root letter
  obtain ⟨a1, a2, _⟩ := fref_e0 h0
  obtain ⟨f, hf, hk⟩ := ffind_fld a1
  rw [← h2]
  exact ⟨M, h.setRef (h4 a1) _ _ _ (h.root fr hfr) f hf (by rw [hk]; exact a2)⟩
theorem copy_meet {cs : Sch} {p : PH} {r : DH} (h : Sim cs p r) (i to : Nat) (hi : i < 8) : Sim cs { p with R := set1 p.R to (p.R i) } { r with R := set1 r.R to (r.R i) } := by
  obtain ⟨M, h⟩ := h
  exact ⟨M, h.setRoot to _ _ (h.root i hi)⟩
theorem clear_meet {cs : Sch} {p : PH} {r : DH} (h : Sim cs p r) (i : Nat) : Sim cs { p with R := set1 p.R i 0 } { r with R := set1 r.R i 0 } := by
  obtain ⟨M, h⟩ := h
  exact ⟨M, h.setRoot i 0 0 (.inl ⟨rfl, rfl⟩)⟩
theorem same_meet {cs : Sch} {p : PH} {r : DH} (h : Sim cs p r) (i j : Nat) (hi : i < 8) (hj : j < 8) : p.R i = p.R j ↔ r.R i = r.R j := by
  obtain ⟨M, h⟩ := h
  rcases h.root i hi with ⟨a1, a2⟩ | a <;> rcases h.root j hj with ⟨b1, b2⟩ | b
  · simp [a1, a2, b1, b2]
  · have := h.pos _ _ b; omega
  · have := h.pos _ _ a; omega
  · constructor
    · intro e; rw [e] at a; exact h.fn _ _ _ a b
    · intro e; rw [e] at a; exact h.inj _ _ _ a b
theorem class_meet' {cs : Sch} {p : PH} {r : DH} (h : Sim cs p r) (i : Nat) (hi : i < 8) : (p.R i = 0 ↔ r.R i = 0) ∧ (p.R i ≠ 0 → p.K (p.R i) = r.K (r.R i)) := by
  obtain ⟨M, h⟩ := h
  rcases h.root i hi with ⟨a1, a2⟩ | a
  · exact ⟨by simp [a1, a2], fun h => absurd a1 h⟩
  · have := h.pos _ _ a
    exact ⟨by omega, fun _ => h.cls _ _ a⟩
/-- Nothing is there at first. -/
theorem sim_new (cs : Sch) (p : PH) (r : DH) (h1 : ∀ i, i < 8 → p.R i = 0) (h2 : ∀ i, i < 8 → r.R i = 0) : Sim cs p r :=
  ⟨fun _ _ => False, ⟨fun _ _ _ h => h.elim, fun _ _ _ h => h.elim, fun _ _ h => h.elim, fun i hi => .inl ⟨h1 i hi, h2 i hi⟩, fun _ _ h => h.elim, fun _ _ h => h.elim, fun _ _ h => h.elim, fun _ _ h => h.elim, fun _ _ h => h.elim⟩⟩
end Go.Proofs.YtbgilndohccicaaGreatDoor
namespace Go.Proofs.YtbgilndohccicaaGreatDoor

/-- The document's heap is well made. -/
structure Wf (cs : Sch) (r : DH) : Prop where
  root : ∀ i, i < 8 → r.R i ≤ r.n
  ref : ∀ b, 0 < b → b ≤ r.n → ∀ j f, (fof cs (r.K b))[j]? = some f → f.2 = 114 → 0 ≤ r.C b j ∧ r.C b j ≤ r.n
  rng : ∀ b j, 0 < b → b ≤ r.n → -9223372036854775808 ≤ r.C b j ∧ r.C b j ≤ 9223372036854775807
theorem Wf.in_le {cs : Sch} {r : DH} (h : Wf cs r) {b : Nat} (hb : r.in cs b) : 0 < b ∧ b ≤ r.n := by
  refine Rch.least (P := fun b => 0 < b ∧ b ≤ r.n) ?_ ?_ hb
  · rintro x ⟨i, hi, rfl, hx⟩; exact ⟨by omega, h.root i hi⟩
  · rintro x y ⟨h1, h2⟩ ⟨j, f, hf, hk, hc, hy⟩
    have := h.ref x h1 h2 j f hf hk
    omega
theorem Wf.setRoot {cs : Sch} {r : DH} (h : Wf cs r) (i y : Nat) (hy : y ≤ r.n) : Wf cs { r with R := set1 r.R i y } :=
  ⟨fun k hk => by by_cases e : k = i
                  · subst e; simpa [set1_self] using hy
                  · simpa [set1_ne _ _ e] using h.root k hk, h.ref, h.rng⟩
theorem Wf.setNum {cs : Sch} {r : DH} (h : Wf cs r) (b i : Nat) (v : Int) (f : Int × Int) (hf : (fof cs (r.K b))[i]? = some f) (hk : f.2 ≠ 114) (h1 : -9223372036854775808 ≤ v) (h2 : v ≤ 9223372036854775807) : Wf cs { r with C := set2 r.C b i v } := by
  refine ⟨h.root, fun x hx hn j g hg hgk => ?_, fun x j hx hn => ?_⟩
  · have e : ¬ (x = b ∧ j = i) := by
      rintro ⟨rfl, rfl⟩
      simp only [] at hg
      rw [hf] at hg
      exact hk (by have := Option.some.inj hg; rw [this]; exact hgk)
    simp only [set2_ne _ _ e]
    exact h.ref x hx hn j g hg hgk
  · by_cases e : x = b ∧ j = i
    · obtain ⟨rfl, rfl⟩ := e; simpa [set2_self] using ⟨h1, h2⟩
    · simp only [set2_ne _ _ e]; exact h.rng x j hx hn
theorem Wf.setRef {cs : Sch} {r : DH} (h : Wf cs r) (b i y : Nat) (hy : y ≤ r.n) (hn : r.n ≤ 9223372036854775807) : Wf cs { r with C := set2 r.C b i (y : Int) } := by
  refine ⟨h.root, fun x hx hn' j g hg hgk => ?_, fun x j hx hn' => ?_⟩
  · by_cases e : x = b ∧ j = i
    · obtain ⟨rfl, rfl⟩ := e; simp only [set2_self]; omega
    · simp only [set2_ne _ _ e]; exact h.ref x hx hn' j g hg hgk
  · by_cases e : x = b ∧ j = i
    · obtain ⟨rfl, rfl⟩ := e; simp only [set2_self]; omega
    · simp only [set2_ne _ _ e]; exact h.rng x j hx hn'
theorem Wf.make {cs : Sch} {r r' : DH} (h : Wf cs r) (i : Nat) (dR : r'.R = set1 r.R i (r.n + 1)) (dK : ∀ y, 0 < y → y ≤ r.n → r'.K y = r.K y) (dC : ∀ y j, 0 < y → y ≤ r.n → r'.C y j = r.C y j) (dC1 : ∀ j, r'.C (r.n + 1) j = 0) (dn : r'.n = r.n + 1) : Wf cs r' := by
  refine ⟨fun k hk => ?_, fun x hx hn j g hg hgk => ?_, fun x j hx hn => ?_⟩
  · rw [dR, dn]
    by_cases e : k = i
    · subst e; rw [set1_self]; omega
    · rw [set1_ne _ _ e]; have := h.root k hk; omega
  · by_cases e : x ≤ r.n
    · rw [dC x j hx e, dn]; rw [dK x hx e] at hg; have := h.ref x hx e j g hg hgk; omega
    · have : x = r.n + 1 := by omega
      subst this; rw [dC1]; omega
  · by_cases e : x ≤ r.n
    · rw [dC x j hx e]; exact h.rng x j hx e
    · have : x = r.n + 1 := by omega
      subst this; rw [dC1]; omega

/-! Which are there: again and again. T: those that are marked, from 0 on. -/
def cloJ (cs : Sch) (r : DH) (T : Nat → Bool) (o j : Nat) : Prop := ∀ f, (fof cs (r.K (o + 1)))[j]? = some f → f.2 = 114 → ∀ y : Nat, r.C (o + 1) j = y → y ≠ 0 → T (y - 1) = true
def clo (cs : Sch) (r : DH) (T : Nat → Bool) (o : Nat) : Prop := T o = true → ∀ j, cloJ cs r T o j
def cloA (cs : Sch) (r : DH) (T : Nat → Bool) : Prop := ∀ o, o < r.n → clo cs r T o
structure OI (cs : Sch) (r : DH) (T : Nat → Bool) (k : Nat) : Prop where
  snd : ∀ i, i < r.n → T i = true → r.in cs (i + 1)
  rts : ∀ i, i < 8 → r.R i ≠ 0 → T (r.R i - 1) = true
  cl : cloA cs r T ∨ k ≤ cnt T r.n
structure TI (cs : Sch) (r : DH) (T0 T : Nat → Bool) (o k : Nat) : Prop where
  snd : ∀ i, i < r.n → T i = true → r.in cs (i + 1)
  rts : ∀ i, i < 8 → r.R i ≠ 0 → T (r.R i - 1) = true
  mono : ∀ i, i < r.n → T0 i = true → T i = true
  st : cloA cs r T0 → T = T0
  ds : (T = T0 ∧ (∀ o', o' < o → clo cs r T o') ∧ (T o = true → ∀ j, j < k → cloJ cs r T o j)) ∨ cnt T0 r.n < cnt T r.n
/-- The roots are marked, one behind another. -/
structure RI (cs : Sch) (r : DH) (T : Nat → Bool) (m : Nat) : Prop where
  snd : ∀ i, i < r.n → T i = true → r.in cs (i + 1)
  rts : ∀ i, i < m → r.R i ≠ 0 → T (r.R i - 1) = true
theorem set1_true {T : Nat → Bool} {i j : Nat} (h : T j = true) : set1 T i true j = true := by
  by_cases e : j = i
  · subst e; exact set1_self _ _ _
  · rw [set1_ne _ _ e]; exact h
theorem set1_id {T : Nat → Bool} {i : Nat} (h : T i = true) : set1 T i true = T := by
  funext j
  by_cases e : j = i
  · subst e; rw [set1_self, h]
  · rw [set1_ne _ _ e]
theorem RI.start (cs : Sch) (r : DH) : RI cs r (fun _ => false) 0 := ⟨fun i _ h => by simp at h, fun i h => by omega⟩
theorem RI.skip {cs : Sch} {r : DH} {T : Nat → Bool} {m : Nat} (h : RI cs r T m) (h0 : r.R m = 0) : RI cs r T (m + 1) :=
  ⟨h.snd, fun i hi hne => by
    rcases Nat.lt_succ_iff_lt_or_eq.1 hi with hi | rfl
    · exact h.rts i hi hne
    · exact absurd h0 hne⟩
theorem RI.mark {cs : Sch} {r : DH} {T : Nat → Bool} {m : Nat} (h : RI cs r T m) (hm : m < 8) (h0 : r.R m ≠ 0) : RI cs r (set1 T (r.R m - 1) true) (m + 1) :=
  ⟨fun i hi ht => by
    by_cases e : i = r.R m - 1
    · have : i + 1 = r.R m := by omega
      rw [this]; exact .root ⟨m, hm, rfl, h0⟩
    · rw [set1_ne _ _ e] at ht; exact h.snd i hi ht,
   fun i hi hne => by
    rcases Nat.lt_succ_iff_lt_or_eq.1 hi with hi | rfl
    · exact set1_true (h.rts i hi hne)
    · exact set1_self _ _ _⟩
theorem RI.oi {cs : Sch} {r : DH} {T : Nat → Bool} (h : RI cs r T 8) : OI cs r T 0 := ⟨h.snd, h.rts, .inr (Nat.zero_le _)⟩
theorem OI.ti {cs : Sch} {r : DH} {T : Nat → Bool} {k : Nat} (h : OI cs r T k) : TI cs r T T 0 0 :=
  ⟨h.snd, h.rts, fun _ _ h => h, fun _ => rfl, .inl ⟨rfl, fun o' h => by omega, fun _ j h => by omega⟩⟩
theorem TI.skip {cs : Sch} {r : DH} {T0 T : Nat → Bool} {o k : Nat} (h : TI cs r T0 T o k) (hk : cloJ cs r T o k) : TI cs r T0 T o (k + 1) := by
  refine ⟨h.snd, h.rts, h.mono, h.st, ?_⟩
  rcases h.ds with ⟨h1, h2, h3⟩ | h1
  · exact .inl ⟨h1, h2, fun ht j hj => by
      rcases Nat.lt_succ_iff_lt_or_eq.1 hj with hj | rfl
      · exact h3 ht j hj
      · exact hk⟩
  · exact .inr h1
theorem TI.mark {cs : Sch} {r : DH} {T0 T : Nat → Bool} {o k : Nat} (h : TI cs r T0 T o k) (ho : o < r.n) (ht : T o = true) (f : Int × Int) (hf : (fof cs (r.K (o + 1)))[k]? = some f) (hk : f.2 = 114) (y : Nat) (hy : r.C (o + 1) k = y) (h0 : y ≠ 0) (hn : y ≤ r.n) : TI cs r T0 (set1 T (y - 1) true) o (k + 1) := by
  by_cases e : T (y - 1) = true
  · rw [set1_id e]
    refine h.skip ?_
    intro f' hf' hk' y' hy' _
    have : y' = y := by omega
    subst this; exact e
  · have e' : T (y - 1) = false := by simpa using e
    refine ⟨fun i hi hti => ?_, fun i hi hne => set1_true (h.rts i hi hne), fun i hi h2 => set1_true (h.mono i hi h2), fun hc => ?_, .inr ?_⟩
    · by_cases e2 : i = y - 1
      · have : i + 1 = y := by omega
        rw [this]; exact .step (h.snd o ho ht) ⟨k, f, hf, hk, hy, h0⟩
      · rw [set1_ne _ _ e2] at hti; exact h.snd i hi hti
    · have := h.st hc
      subst this
      exact absurd (hc o ho ht k f hf hk y hy h0) e
    · have c1 := cnt_mono T0 T r.n h.mono
      have c2 := cnt_more T (set1 T (y - 1) true) r.n (y - 1) (fun i hi h2 => set1_true h2) (by omega) e' (set1_self _ _ _)
      omega
theorem TI.next {cs : Sch} {r : DH} {T0 T : Nat → Bool} {o k : Nat} (h : TI cs r T0 T o k) (hk : T o = true → (fof cs (r.K (o + 1))).length ≤ k) : TI cs r T0 T (o + 1) 0 := by
  refine ⟨h.snd, h.rts, h.mono, h.st, ?_⟩
  rcases h.ds with ⟨h1, h2, h3⟩ | h1
  · refine .inl ⟨h1, fun o' ho' ht j => ?_, fun _ j hj => by omega⟩
    rcases Nat.lt_succ_iff_lt_or_eq.1 ho' with ho' | rfl
    · exact h2 o' ho' ht j
    · by_cases hj : j < k
      · exact h3 ht j hj
      · intro f hf
        have := hk ht
        obtain ⟨h', _⟩ := List.getElem?_eq_some_iff.1 hf
        omega
  · exact .inr h1
theorem TI.done {cs : Sch} {r : DH} {T0 T : Nat → Bool} {m : Nat} (h : TI cs r T0 T r.n 0) (h0 : OI cs r T0 m) : OI cs r T (m + 1) := by
  refine ⟨h.snd, h.rts, ?_⟩
  rcases h0.cl with hc | hc
  · have := h.st hc; subst this; exact .inl hc
  · rcases h.ds with ⟨h1, h2, _⟩ | h1
    · exact .inl h2
    · exact .inr (by omega)
theorem OI.fin {cs : Sch} {r : DH} (hw : Wf cs r) {T : Nat → Bool} (h : OI cs r T r.n) : ∀ o, o < r.n → (T o = true ↔ r.in cs (o + 1)) := by
  have hc : cloA cs r T := by
    rcases h.cl with hc | hc
    · exact hc
    · have := cnt_full T r.n hc
      intro o ho _ j f hf hk y hy h0
      have := hw.ref (o + 1) (by omega) (by omega) j f hf hk
      exact cnt_full T r.n hc (y - 1) (by omega)
  intro o ho
  refine ⟨h.snd o ho, fun hin => ?_⟩
  have : ∀ b, r.in cs b → 0 < b ∧ b ≤ r.n ∧ T (b - 1) = true := fun b hb => by
    refine Rch.least (P := fun b => 0 < b ∧ b ≤ r.n ∧ T (b - 1) = true) ?_ ?_ hb
    · rintro x ⟨i, hi, rfl, hx⟩; exact ⟨by omega, hw.root i hi, h.rts i hi hx⟩
    · rintro x y ⟨h1, h2, h3⟩ ⟨j, f, hf, hk, hcc, hy⟩
      have hr := hw.ref x h1 h2 j f hf hk
      have hx : x - 1 + 1 = x := by omega
      exact ⟨by omega, by omega, hc (x - 1) (by omega) h3 j f (by rw [hx]; exact hf) hk y (by rw [hx]; exact hcc) hy⟩
  exact (this _ hin).2.2
/-- The list of those that are marked. -/
def lst (T : Nat → Bool) (n : Nat) : List Nat := ((List.range n).filter T).map (· + 1)
theorem lst_mem {cs : Sch} {r : DH} (hw : Wf cs r) {T : Nat → Bool} (h : ∀ o, o < r.n → (T o = true ↔ r.in cs (o + 1))) (b : Nat) : b ∈ lst T r.n ↔ r.in cs b := by
  unfold lst
  rw [List.mem_map]
  constructor
  · rintro ⟨o, ho, rfl⟩
    obtain ⟨h1, h2⟩ := List.mem_filter.1 ho
    exact (h o (List.mem_range.1 h1)).1 h2
  · intro hb
    obtain ⟨h1, h2⟩ := hw.in_le hb
    refine ⟨b - 1, List.mem_filter.2 ⟨List.mem_range.2 (by omega), (h (b - 1) (by omega)).2 (by rwa [Nat.sub_add_cancel h1])⟩, by omega⟩
theorem lst_nodup (T : Nat → Bool) (n : Nat) : (lst T n).Nodup := by
  unfold lst
  have h : ∀ l : List Nat, l.Nodup → (l.map (· + 1)).Nodup := by
    intro l hl
    induction l with
    | nil => simp
    | cons x l ih =>
      rw [List.map_cons, List.nodup_cons]
      rw [List.nodup_cons] at hl
      refine ⟨fun hm => ?_, ih hl.2⟩
      obtain ⟨y, hy, e⟩ := List.mem_map.1 hm
      have : y = x := by omega
      subst this; exact hl.1 hy
  exact h _ (List.Pairwise.filter _ List.nodup_range)
theorem lst_succ (T : Nat → Bool) (n : Nat) : lst T (n + 1) = lst T n ++ (if T n = true then [n + 1] else []) := by
  unfold lst; rw [List.range_succ, List.filter_append, List.map_append]
  cases h : T n <;> simp [h]
/-- The words of the first n that are marked. -/
def wsum (cs : Sch) (K : Nat → Int) (T : Nat → Bool) (n : Nat) : Nat := ((lst T n).map fun b => wof cs (K b)).sum
theorem wsum_succ (cs : Sch) (K : Nat → Int) (T : Nat → Bool) (n : Nat) : wsum cs K T (n + 1) = wsum cs K T n + (if T n = true then wof cs (K (n + 1)) else 0) := by
  unfold wsum; rw [lst_succ, List.map_append, List.sum_append]
  split <;> simp
theorem wof_le {cs : Sch} (h6 : ∀ c ∈ cs, c.2.length ≤ 6) (x : Int) : wof cs x ≤ 7 := by have := fof_le h6 x; unfold wof; omega
theorem wsum_le {cs : Sch} (h6 : ∀ c ∈ cs, c.2.length ≤ 6) (K : Nat → Int) (T : Nat → Bool) (n : Nat) : wsum cs K T n ≤ 7 * n := by
  induction n with
  | zero => simp [wsum, lst]
  | succ n ih => rw [wsum_succ]; have := wof_le h6 (K (n + 1)); split <;> omega
end Go.Proofs.YtbgilndohccicaaGreatDoor
namespace Go.Proofs.YtbgilndohccicaaGreatDoor

/-- The program's heap is well made. -/
structure Pw (p : PH) : Prop where
  root : ∀ i, i < 8 → p.R i < 201
  ref : ∀ a j, a < 201 → j < 6 → p.F a j < 201
theorem Pw.in_lt {p : PH} (h : Pw p) {a : Nat} (ha : p.in a) : 0 < a ∧ a < 201 := by
  refine Rch.least (P := fun a => 0 < a ∧ a < 201) ?_ ?_ ha
  · rintro x ⟨i, hi, rfl, hx⟩; exact ⟨by omega, h.root i hi⟩
  · rintro x y ⟨_, hx⟩ ⟨j, hj, rfl, hy⟩; exact ⟨by omega, h.ref x j hx hj⟩
theorem Pw.setRoot {p : PH} (h : Pw p) (i x : Nat) (hx : x < 201) : Pw { p with R := set1 p.R i x } :=
  ⟨fun k hk => by by_cases e : k = i
                  · subst e; simpa [set1_self] using hx
                  · simpa [set1_ne _ _ e] using h.root k hk, h.ref⟩
theorem Pw.setRef {p : PH} (h : Pw p) (a i x : Nat) (hx : x < 201) : Pw { p with F := set2 p.F a i x } :=
  ⟨h.root, fun k j hk hj => by
    by_cases e : k = a ∧ j = i
    · obtain ⟨rfl, rfl⟩ := e; simpa [set2_self] using hx
    · simp only [set2_ne _ _ e]; exact h.ref k j hk hj⟩
/-- Those that were found so far. -/
structure PI (p : PH) (L : List Nat) (S : Nat → Bool) : Prop where
  nd : L.Nodup
  sm : ∀ x, x < 201 → (S x = true ↔ x ∈ L)
  snd : ∀ x, x ∈ L → p.in x
  bd : ∀ x, x ∈ L → 0 < x ∧ x < 201
def addL (L : List Nat) (S : Nat → Bool) (x : Nat) : List Nat := if x = 0 ∨ S x = true then L else L ++ [x]
def addS (S : Nat → Bool) (x : Nat) : Nat → Bool := if x = 0 ∨ S x = true then S else set1 S x true
theorem PI.nil (p : PH) : PI p [] (fun _ => false) := ⟨by simp, fun x _ => by simp, fun x h => by simp at h, fun x h => by simp at h⟩
theorem PI.len {p : PH} {L : List Nat} {S : Nat → Bool} (h : PI p L S) : L.length ≤ 200 := by
  have := nodup_le 200 (L.map (· - 1)) ?_ ?_
  · simpa using this
  · have hp : ∀ l : List Nat, l.Nodup → (∀ x ∈ l, 0 < x) → (l.map (· - 1)).Nodup := by
      intro l hl
      induction l with
      | nil => intro _; simp
      | cons x l ih =>
        intro h0
        rw [List.map_cons, List.nodup_cons]
        rw [List.nodup_cons] at hl
        refine ⟨fun hm => ?_, ih hl.2 (fun y hy => h0 y (by simp [hy]))⟩
        obtain ⟨y, hy, e⟩ := List.mem_map.1 hm
        have h1 := h0 y (by simp [hy])
        have h2 := h0 x (by simp)
        have : y = x := by omega
        subst this; exact hl.1 hy
    exact hp L h.nd (fun x hx => (h.bd x hx).1)
  · intro y hy
    obtain ⟨x, hx, rfl⟩ := List.mem_map.1 hy
    have := h.bd x hx
    omega
theorem PI.add {p : PH} {L : List Nat} {S : Nat → Bool} (h : PI p L S) (x : Nat) (hx : x ≠ 0 → p.in x) (hb : x < 201) : PI p (addL L S x) (addS S x) ∧ (x ≠ 0 → x ∈ addL L S x) ∧ (∀ y, y ∈ L → y ∈ addL L S x) ∧ (∀ i, i < L.length → (addL L S x)[i]? = L[i]?) ∧ L.length ≤ (addL L S x).length := by
  unfold addL addS
  by_cases h0 : x = 0 ∨ S x = true
  · rw [if_pos h0, if_pos h0]
    refine ⟨h, fun hne => ?_, fun _ h => h, fun _ _ => rfl, Nat.le_refl _⟩
    rcases h0 with h0 | h0
    · exact absurd h0 hne
    · exact (h.sm x hb).1 h0
  · rw [if_neg h0, if_neg h0]
    have hne : x ≠ 0 := fun e => h0 (.inl e)
    have hno : x ∉ L := fun hm => h0 (.inr ((h.sm x hb).2 hm))
    refine ⟨⟨nodup_snoc h.nd hno, fun y hy => ?_, fun y hy => ?_, fun y hy => ?_⟩, fun _ => by simp, fun y hy => by simp [hy], fun i hi => List.getElem?_append_left hi, by simp⟩
    · by_cases e : y = x
      · subst e; simp [set1_self]
      · rw [set1_ne _ _ e, h.sm y hy]; simp [e]
    · rcases List.mem_append.1 hy with hy | hy
      · exact h.snd y hy
      · simp at hy; subst hy; exact hx hne
    · rcases List.mem_append.1 hy with hy | hy
      · exact h.bd y hy
      · simp at hy; subst hy; omega
/-- The roots, one behind another. -/
structure P1 (p : PH) (L : List Nat) (S : Nat → Bool) (m : Nat) : Prop where
  pi : PI p L S
  rts : ∀ i, i < m → p.R i ≠ 0 → p.R i ∈ L
theorem P1.add {p : PH} (hp : Pw p) {L : List Nat} {S : Nat → Bool} {m : Nat} (h : P1 p L S m) (hm : m < 8) : P1 p (addL L S (p.R m)) (addS S (p.R m)) (m + 1) := by
  obtain ⟨h1, h2, h3, _⟩ := h.pi.add (p.R m) (fun hne => .root ⟨m, hm, rfl, hne⟩) (hp.root m hm)
  exact ⟨h1, fun i hi hne => by
    rcases Nat.lt_succ_iff_lt_or_eq.1 hi with hi | rfl
    · exact h3 _ (h.rts i hi hne)
    · exact h2 hne⟩
/-- Behind the roots: all that the first i refer to, and the first k references of the next. -/
structure P2 (p : PH) (L : List Nat) (S : Nat → Bool) (i k : Nat) : Prop where
  pi : PI p L S
  rts : ∀ i, i < 8 → p.R i ≠ 0 → p.R i ∈ L
  cl : ∀ a, a < i → ∀ j, j < 6 → p.F (L[a]?.getD 0) j ≠ 0 → p.F (L[a]?.getD 0) j ∈ L
  ck : ∀ j, j < k → p.F (L[i]?.getD 0) j ≠ 0 → p.F (L[i]?.getD 0) j ∈ L
  il : i ≤ L.length
theorem P1.p2 {p : PH} {L : List Nat} {S : Nat → Bool} (h : P1 p L S 8) : P2 p L S 0 0 := ⟨h.pi, h.rts, fun a h => by omega, fun j h => by omega, Nat.zero_le _⟩
theorem P2.add {p : PH} (hp : Pw p) {L : List Nat} {S : Nat → Bool} {i k : Nat} (h : P2 p L S i k) (hi : i < L.length) (hk : k < 6) : P2 p (addL L S (p.F (L[i]?.getD 0) k)) (addS S (p.F (L[i]?.getD 0) k)) i (k + 1) ∧ (addL L S (p.F (L[i]?.getD 0) k))[i]? = L[i]? ∧ i < (addL L S (p.F (L[i]?.getD 0) k)).length := by
  have hm : L[i]?.getD 0 ∈ L := by rw [List.getElem?_eq_getElem hi]; exact List.getElem_mem hi
  have hin := h.pi.snd _ hm
  obtain ⟨h1, h2, h3, h4, h5⟩ := h.pi.add (p.F (L[i]?.getD 0) k) (fun hne => .step hin ⟨k, hk, rfl, hne⟩) (hp.ref _ k (hp.in_lt hin).2 hk)
  refine ⟨⟨h1, fun a ha hne => h3 _ (h.rts a ha hne), fun a ha j hj => ?_, fun j hj => ?_, by omega⟩, h4 i hi, by omega⟩
  · rw [h4 a (by omega)]; exact fun hne => h3 _ (h.cl a ha j hj hne)
  · rw [h4 i hi]
    intro hne
    rcases Nat.lt_succ_iff_lt_or_eq.1 hj with hj | rfl
    · exact h3 _ (h.ck j hj hne)
    · exact h2 hne
theorem P2.next {p : PH} {L : List Nat} {S : Nat → Bool} {i : Nat} (h : P2 p L S i 6) (hi : i < L.length) : P2 p L S (i + 1) 0 := by
  refine ⟨h.pi, h.rts, fun a ha j hj hne => ?_, fun j h => by omega, by omega⟩
  rcases Nat.lt_succ_iff_lt_or_eq.1 ha with ha | rfl
  · exact h.cl a ha j hj hne
  · exact h.ck j hj hne
theorem P2.fin {p : PH} {L : List Nat} {S : Nat → Bool} {k : Nat} (h : P2 p L S L.length k) : ∀ a, a ∈ L ↔ p.in a := by
  intro a
  refine ⟨h.pi.snd a, fun ha => ?_⟩
  refine Rch.least (P := fun a => a ∈ L) ?_ ?_ ha
  · rintro x ⟨i, hi, rfl, hx⟩; exact h.rts i hi hx
  · rintro x y hx ⟨j, hj, rfl, hy⟩
    obtain ⟨i, hi, rfl⟩ := List.getElem_of_mem hx
    have := h.cl i hi j hj
    rw [List.getElem?_eq_getElem hi] at this
    exact this hy
/-- A place is left where words are left. -/
theorem len_words {cs : Sch} {K : Nat → Int} (L : List Nat) : L.length ≤ (L.map fun a => wof cs (K a)).sum := by
  induction L with
  | nil => simp
  | cons x L ih => rw [List.map_cons, List.sum_cons, List.length_cons]; have : 1 ≤ wof cs (K x) := by unfold wof; omega
                   omega
theorem sub_len : ∀ (l L : List Nat), l.Nodup → (∀ x ∈ l, x ∈ L) → l.length ≤ L.length := by
  intro l
  induction l with
  | nil => intro L _ _; simp
  | cons x l ih =>
    intro L hd hs
    rw [List.nodup_cons] at hd
    have hx := hs x (by simp)
    have := ih (L.erase x) hd.2 (fun y hy => (List.mem_erase_of_ne (show y ≠ x from fun e => hd.1 (by rw [← e]; exact hy))).2 (hs y (by simp [hy])))
    rw [List.length_erase_of_mem hx] at this
    have : 0 < L.length := List.length_pos_of_mem hx
    simp; omega
theorem free_ex {L : List Nat} {S : Nat → Bool} (hs : ∀ x, x < 201 → (S x = true ↔ x ∈ L)) (h : L.length < 200) : ∃ x, 0 < x ∧ x < 201 ∧ S x = false := by
  refine Classical.byContradiction fun hno => ?_
  have : ∀ x, x < 200 → x + 1 ∈ L := fun x hx => by
    refine (hs (x + 1) (by omega)).1 ?_
    cases he : S (x + 1) with
    | true => rfl
    | false => exact absurd ⟨x + 1, by omega, by omega, he⟩ hno
  have hr : ∀ n, n ≤ 200 → ∃ l : List Nat, l.Nodup ∧ l.length = n ∧ (∀ x ∈ l, x ∈ L ∧ x ≤ n) := by
    intro n
    induction n with
    | zero => intro _; exact ⟨[], by simp, rfl, by simp⟩
    | succ n ih =>
      intro hn
      obtain ⟨l, h1, h2, h3⟩ := ih (by omega)
      refine ⟨(n + 1) :: l, ?_, by simp [h2], fun x hx => ?_⟩
      · rw [List.nodup_cons]; exact ⟨fun hm => by have := (h3 _ hm).2; omega, h1⟩
      · rcases List.mem_cons.1 hx with rfl | hx
        · exact ⟨this n (by omega), Nat.le_refl _⟩
        · exact ⟨(h3 x hx).1, by have := (h3 x hx).2; omega⟩
  obtain ⟨l, h1, h2, h3⟩ := hr 200 (by omega)
  have := sub_len l L h1 (fun x hx => (h3 x hx).1)
  omega
end Go.Proofs.YtbgilndohccicaaGreatDoor
namespace Go.Proofs.YtbgilndohccicaaGreatDoor
open Go.RowKit

/-- A number wrapped to a kind. -/
def wrK (k v : Int) : Int := if k = 98 then v % 256 else if k = 104 then (v + 32768) % 65536 - 32768 else if k = 119 then (v + 2147483648) % 4294967296 - 2147483648 else v
theorem ret_i64 {a b : Int} (h : a = b) : Ending.returned (.int .i64 a) = .returned (.int .i64 b) := by rw [h]
theorem wrap_i16 (v : Int) : IntKind.i16.wrap v = (v + 32768) % 65536 - 32768 := by
  simp [IntKind.wrap, IntKind.bits, IntKind.signed]; split <;> omega
theorem wrK_bd (k v : Int) (h1 : -9223372036854775808 ≤ v) (h2 : v ≤ 9223372036854775807) : -9223372036854775808 ≤ wrK k v ∧ wrK k v ≤ 9223372036854775807 := by
  unfold wrK; split
  · omega
  · split
    · omega
    · split <;> omega
theorem gb_below_drewN (w : World) (n : Nat) : Below w.heap.size w (w.drewN n) := ⟨rfl, rfl, rfl, Nat.le_refl _, fun _ _ => rfl⟩
end Go.Proofs.YtbgilndohccicaaGreatDoor
