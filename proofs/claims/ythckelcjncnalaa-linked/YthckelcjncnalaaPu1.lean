import Derived.Test.YthckelcjncnalaaSc1
namespace Go.Proofs.Ythckelcjncnalaa

/-- What can be reached from the roots, along the edges. -/
inductive Rch (rt : Nat → Prop) (ed : Nat → Nat → Prop) : Nat → Prop where
  | root {x : Nat} (h : rt x) : Rch rt ed x
  | step {x y : Nat} (h : Rch rt ed x) (e : ed x y) : Rch rt ed y
theorem Rch.least {rt : Nat → Prop} {ed : Nat → Nat → Prop} {P : Nat → Prop} (h1 : ∀ x, rt x → P x) (h2 : ∀ x y, P x → ed x y → P y) {x : Nat} (h : Rch rt ed x) : P x := by
  induction h with
  | root h => exact h1 _ h
  | step _ e ih => exact h2 _ _ ih e
theorem nodup_le : ∀ (n : Nat) (L : List Nat), L.Nodup → (∀ x ∈ L, x < n) → L.length ≤ n := by
  intro n
  induction n with
  | zero => intro L _ h; cases L with
    | nil => simp
    | cons x L => have := h x (by simp); omega
  | succ n ih =>
    intro L hd h
    by_cases hn : n ∈ L
    · have hd' : (L.erase n).Nodup := hd.erase n
      have := ih (L.erase n) hd' (fun x hx => by
        have h1 := h x (List.mem_of_mem_erase hx)
        have h2 : x ≠ n := fun e => by subst e; exact (List.Nodup.not_mem_erase hd) hx
        omega)
      rw [List.length_erase_of_mem hn] at this
      have : 0 < L.length := List.length_pos_of_mem hn
      omega
    · have := ih L hd (fun x hx => by
        have h1 := h x hx
        have h2 : x ≠ n := fun e => by subst e; exact hn hx
        omega)
      omega
theorem nodup_snoc {L : List Nat} {x : Nat} (h : L.Nodup) (hx : x ∉ L) : (L ++ [x]).Nodup := by
  rw [List.nodup_append]
  refine ⟨h, by simp, fun a ha b hb => ?_⟩
  simp at hb; subst hb
  exact fun e => hx (e ▸ ha)
/-- Two lists of what can be reached, on either side, over a relation that is one to one: the same in sum. -/
theorem sum_meet {M : Nat → Nat → Prop} (fn : ∀ a b b', M a b → M a b' → b = b') (inj : ∀ a a' b, M a b → M a' b → a = a') (f g : Nat → Nat) (hfg : ∀ a b, M a b → f a = g b) :
    ∀ (L1 L2 : List Nat), L1.Nodup → L2.Nodup → (∀ a, a ∈ L1 → ∃ b, b ∈ L2 ∧ M a b) → (∀ b, b ∈ L2 → ∃ a, a ∈ L1 ∧ M a b) → (L1.map f).sum = (L2.map g).sum := by
  intro L1
  induction L1 with
  | nil => intro L2 _ _ _ h; cases L2 with
    | nil => rfl
    | cons b L2 => obtain ⟨a, ha, _⟩ := h b (by simp); simp at ha
  | cons a L1 ih =>
    intro L2 h1 h2 h3 h4
    obtain ⟨b, hb, hab⟩ := h3 a (by simp)
    have hp : L2.Perm (b :: L2.erase b) := List.perm_cons_erase hb
    have hs : (L2.map g).sum = g b + ((L2.erase b).map g).sum := by
      rw [(hp.map g).sum_nat]; simp
    have := ih (L2.erase b) (List.nodup_cons.1 h1).2 (h2.erase b) (fun a' ha' => ?_) (fun b' hb' => ?_)
    · rw [hs, ← this, ← hfg a b hab]; simp
    · obtain ⟨b', hb', hab'⟩ := h3 a' (by simp [ha'])
      refine ⟨b', ?_, hab'⟩
      have hne : b' ≠ b := fun e => by
        subst e
        have := inj _ _ _ hab hab'
        subst this
        exact (List.nodup_cons.1 h1).1 ha'
      exact (List.mem_erase_of_ne hne).2 hb'
    · obtain ⟨a', ha', hab'⟩ := h4 b' (List.mem_of_mem_erase hb')
      have hne : b' ≠ b := fun e => by subst e; exact (List.Nodup.not_mem_erase h2) hb'
      rcases List.mem_cons.1 ha' with rfl | ha'
      · exact absurd (fn _ _ _ hab' hab) hne
      · exact ⟨a', ha', hab'⟩
/-- How many of the first n are marked. -/
def cnt (f : Nat → Bool) (n : Nat) : Nat := ((List.range n).filter f).length
theorem cnt_succ (f : Nat → Bool) (n : Nat) : cnt f (n + 1) = cnt f n + (if f n = true then 1 else 0) := by
  unfold cnt; rw [List.range_succ, List.filter_append, List.length_append]
  cases h : f n <;> simp [h]
theorem cnt_le (f : Nat → Bool) (n : Nat) : cnt f n ≤ n := by
  induction n with
  | zero => simp [cnt]
  | succ n ih => rw [cnt_succ]; split <;> omega
theorem cnt_full (f : Nat → Bool) (n : Nat) (h : n ≤ cnt f n) : ∀ i, i < n → f i = true := by
  induction n with
  | zero => intro i hi; omega
  | succ n ih =>
    rw [cnt_succ] at h
    have := cnt_le f n
    intro i hi
    split at h
    · rename_i hn
      rcases Nat.lt_succ_iff_lt_or_eq.1 hi with hi | rfl
      · exact ih (by omega) i hi
      · exact hn
    · omega
theorem cnt_mono (f g : Nat → Bool) (n : Nat) (h : ∀ i, i < n → f i = true → g i = true) : cnt f n ≤ cnt g n := by
  induction n with
  | zero => simp [cnt]
  | succ n ih =>
    rw [cnt_succ, cnt_succ]
    have := ih (fun i hi => h i (by omega))
    have h2 := h n (by omega)
    split
    · rename_i hf; rw [if_pos (h2 hf)]; omega
    · split <;> omega
theorem cnt_more (f g : Nat → Bool) (n k : Nat) (h : ∀ i, i < n → f i = true → g i = true) (hk : k < n) (h1 : f k = false) (h2 : g k = true) : cnt f n < cnt g n := by
  induction n with
  | zero => omega
  | succ n ih =>
    rw [cnt_succ, cnt_succ]
    rcases Nat.lt_succ_iff_lt_or_eq.1 hk with hk | rfl
    · have := ih (fun i hi => h i (by omega)) hk
      have h3 := h n (by omega)
      split
      · rename_i hf; rw [if_pos (h3 hf)]; omega
      · split <;> omega
    · rw [h1, h2]
      have := cnt_mono f g k (fun i hi => h i (by omega))
      simp; omega
end Go.Proofs.Ythckelcjncnalaa
