import Derived.Test.YthckelcjncnalaaPu4
namespace Go.Proofs.Ythckelcjncnalaa

/-- The program's heap is well made. -/
structure Pw (p : PH) : Prop where
  root : ∀ i, i < 8 → p.R i < 201
  ref : ∀ a j, a < 201 → j < 6 → p.F a j < 201
theorem Pw.in_lt {p : PH} (h : Pw p) {a : Nat} (ha : p.in a) : 0 < a ∧ a < 201 := by
  refine Rch.least (P := fun a => 0 < a ∧ a < 201) ?_ ?_ ha
  · rintro x ⟨i, hi, rfl, hx⟩; exact ⟨by omega, h.root i hi⟩
  · rintro x y ⟨_, hx⟩ ⟨j, hj, rfl, hy⟩; exact ⟨by omega, h.ref x j hx hj⟩
theorem Pw.setRoot {p : PH} (h : Pw p) (i x : Nat) (hx : x < 201) : Pw { p with R := set1 p.R i x } :=
  ⟨fun k hk => by by_cases e : k = i
                  · subst e; simpa [set1_self] using hx
                  · simpa [set1_ne _ _ e] using h.root k hk, h.ref⟩
theorem Pw.setRef {p : PH} (h : Pw p) (a i x : Nat) (hx : x < 201) : Pw { p with F := set2 p.F a i x } :=
  ⟨h.root, fun k j hk hj => by
    by_cases e : k = a ∧ j = i
    · obtain ⟨rfl, rfl⟩ := e; simpa [set2_self] using hx
    · simp only [set2_ne _ _ e]; exact h.ref k j hk hj⟩
/-- Those that were found so far. -/
structure PI (p : PH) (L : List Nat) (S : Nat → Bool) : Prop where
  nd : L.Nodup
  sm : ∀ x, x < 201 → (S x = true ↔ x ∈ L)
  snd : ∀ x, x ∈ L → p.in x
  bd : ∀ x, x ∈ L → 0 < x ∧ x < 201
def addL (L : List Nat) (S : Nat → Bool) (x : Nat) : List Nat := if x = 0 ∨ S x = true then L else L ++ [x]
def addS (S : Nat → Bool) (x : Nat) : Nat → Bool := if x = 0 ∨ S x = true then S else set1 S x true
theorem PI.nil (p : PH) : PI p [] (fun _ => false) := ⟨by simp, fun x _ => by simp, fun x h => by simp at h, fun x h => by simp at h⟩
theorem PI.len {p : PH} {L : List Nat} {S : Nat → Bool} (h : PI p L S) : L.length ≤ 200 := by
  have := nodup_le 200 (L.map (· - 1)) ?_ ?_
  · simpa using this
  · have hp : ∀ l : List Nat, l.Nodup → (∀ x ∈ l, 0 < x) → (l.map (· - 1)).Nodup := by
      intro l hl
      induction l with
      | nil => intro _; simp
      | cons x l ih =>
        intro h0
        rw [List.map_cons, List.nodup_cons]
        rw [List.nodup_cons] at hl
        refine ⟨fun hm => ?_, ih hl.2 (fun y hy => h0 y (by simp [hy]))⟩
        obtain ⟨y, hy, e⟩ := List.mem_map.1 hm
        have h1 := h0 y (by simp [hy])
        have h2 := h0 x (by simp)
        have : y = x := by omega
        subst this; exact hl.1 hy
    exact hp L h.nd (fun x hx => (h.bd x hx).1)
  · intro y hy
    obtain ⟨x, hx, rfl⟩ := List.mem_map.1 hy
    have := h.bd x hx
    omega
theorem PI.add {p : PH} {L : List Nat} {S : Nat → Bool} (h : PI p L S) (x : Nat) (hx : x ≠ 0 → p.in x) (hb : x < 201) : PI p (addL L S x) (addS S x) ∧ (x ≠ 0 → x ∈ addL L S x) ∧ (∀ y, y ∈ L → y ∈ addL L S x) ∧ (∀ i, i < L.length → (addL L S x)[i]? = L[i]?) ∧ L.length ≤ (addL L S x).length := by
  unfold addL addS
  by_cases h0 : x = 0 ∨ S x = true
  · rw [if_pos h0, if_pos h0]
    refine ⟨h, fun hne => ?_, fun _ h => h, fun _ _ => rfl, Nat.le_refl _⟩
    rcases h0 with h0 | h0
    · exact absurd h0 hne
    · exact (h.sm x hb).1 h0
  · rw [if_neg h0, if_neg h0]
    have hne : x ≠ 0 := fun e => h0 (.inl e)
    have hno : x ∉ L := fun hm => h0 (.inr ((h.sm x hb).2 hm))
    refine ⟨⟨nodup_snoc h.nd hno, fun y hy => ?_, fun y hy => ?_, fun y hy => ?_⟩, fun _ => by simp, fun y hy => by simp [hy], fun i hi => List.getElem?_append_left hi, by simp⟩
    · by_cases e : y = x
      · subst e; simp [set1_self]
      · rw [set1_ne _ _ e, h.sm y hy]; simp [e]
    · rcases List.mem_append.1 hy with hy | hy
      · exact h.snd y hy
      · simp at hy; subst hy; exact hx hne
    · rcases List.mem_append.1 hy with hy | hy
      · exact h.bd y hy
      · simp at hy; subst hy; omega
/-- The roots, one behind another. -/
structure P1 (p : PH) (L : List Nat) (S : Nat → Bool) (m : Nat) : Prop where
  pi : PI p L S
  rts : ∀ i, i < m → p.R i ≠ 0 → p.R i ∈ L
theorem P1.add {p : PH} (hp : Pw p) {L : List Nat} {S : Nat → Bool} {m : Nat} (h : P1 p L S m) (hm : m < 8) : P1 p (addL L S (p.R m)) (addS S (p.R m)) (m + 1) := by
  obtain ⟨h1, h2, h3, _⟩ := h.pi.add (p.R m) (fun hne => .root ⟨m, hm, rfl, hne⟩) (hp.root m hm)
  exact ⟨h1, fun i hi hne => by
    rcases Nat.lt_succ_iff_lt_or_eq.1 hi with hi | rfl
    · exact h3 _ (h.rts i hi hne)
    · exact h2 hne⟩
/-- Behind the roots: all that the first i refer to, and the first k references of the next. -/
structure P2 (p : PH) (L : List Nat) (S : Nat → Bool) (i k : Nat) : Prop where
  pi : PI p L S
  rts : ∀ i, i < 8 → p.R i ≠ 0 → p.R i ∈ L
  cl : ∀ a, a < i → ∀ j, j < 6 → p.F (L[a]?.getD 0) j ≠ 0 → p.F (L[a]?.getD 0) j ∈ L
  ck : ∀ j, j < k → p.F (L[i]?.getD 0) j ≠ 0 → p.F (L[i]?.getD 0) j ∈ L
  il : i ≤ L.length
theorem P1.p2 {p : PH} {L : List Nat} {S : Nat → Bool} (h : P1 p L S 8) : P2 p L S 0 0 := ⟨h.pi, h.rts, fun a h => by omega, fun j h => by omega, Nat.zero_le _⟩
theorem P2.add {p : PH} (hp : Pw p) {L : List Nat} {S : Nat → Bool} {i k : Nat} (h : P2 p L S i k) (hi : i < L.length) (hk : k < 6) : P2 p (addL L S (p.F (L[i]?.getD 0) k)) (addS S (p.F (L[i]?.getD 0) k)) i (k + 1) ∧ (addL L S (p.F (L[i]?.getD 0) k))[i]? = L[i]? ∧ i < (addL L S (p.F (L[i]?.getD 0) k)).length := by
  have hm : L[i]?.getD 0 ∈ L := by rw [List.getElem?_eq_getElem hi]; exact List.getElem_mem hi
  have hin := h.pi.snd _ hm
  obtain ⟨h1, h2, h3, h4, h5⟩ := h.pi.add (p.F (L[i]?.getD 0) k) (fun hne => .step hin ⟨k, hk, rfl, hne⟩) (hp.ref _ k (hp.in_lt hin).2 hk)
  refine ⟨⟨h1, fun a ha hne => h3 _ (h.rts a ha hne), fun a ha j hj => ?_, fun j hj => ?_, by omega⟩, h4 i hi, by omega⟩
  · rw [h4 a (by omega)]; exact fun hne => h3 _ (h.cl a ha j hj hne)
  · rw [h4 i hi]
    intro hne
    rcases Nat.lt_succ_iff_lt_or_eq.1 hj with hj | rfl
    · exact h3 _ (h.ck j hj hne)
    · exact h2 hne
theorem P2.next {p : PH} {L : List Nat} {S : Nat → Bool} {i : Nat} (h : P2 p L S i 6) (hi : i < L.length) : P2 p L S (i + 1) 0 := by
  refine ⟨h.pi, h.rts, fun a ha j hj hne => ?_, fun j h => by omega, by omega⟩
  rcases Nat.lt_succ_iff_lt_or_eq.1 ha with ha | rfl
  · exact h.cl a ha j hj hne
  · exact h.ck j hj hne
theorem P2.fin {p : PH} {L : List Nat} {S : Nat → Bool} {k : Nat} (h : P2 p L S L.length k) : ∀ a, a ∈ L ↔ p.in a := by
  intro a
  refine ⟨h.pi.snd a, fun ha => ?_⟩
  refine Rch.least (P := fun a => a ∈ L) ?_ ?_ ha
  · rintro x ⟨i, hi, rfl, hx⟩; exact h.rts i hi hx
  · rintro x y hx ⟨j, hj, rfl, hy⟩
    obtain ⟨i, hi, rfl⟩ := List.getElem_of_mem hx
    have := h.cl i hi j hj
    rw [List.getElem?_eq_getElem hi] at this
    exact this hy
/-- A place is left where words are left. -/
theorem len_words {cs : Sch} {K : Nat → Int} (L : List Nat) : L.length ≤ (L.map fun a => wof cs (K a)).sum := by
  induction L with
  | nil => simp
  | cons x L ih => rw [List.map_cons, List.sum_cons, List.length_cons]; have : 1 ≤ wof cs (K x) := by unfold wof; omega
                   omega
theorem sub_len : ∀ (l L : List Nat), l.Nodup → (∀ x ∈ l, x ∈ L) → l.length ≤ L.length := by
  intro l
  induction l with
  | nil => intro L _ _; simp
  | cons x l ih =>
    intro L hd hs
    rw [List.nodup_cons] at hd
    have hx := hs x (by simp)
    have := ih (L.erase x) hd.2 (fun y hy => (List.mem_erase_of_ne (show y ≠ x from fun e => hd.1 (by rw [← e]; exact hy))).2 (hs y (by simp [hy])))
    rw [List.length_erase_of_mem hx] at this
    have : 0 < L.length := List.length_pos_of_mem hx
    simp; omega
theorem free_ex {L : List Nat} {S : Nat → Bool} (hs : ∀ x, x < 201 → (S x = true ↔ x ∈ L)) (h : L.length < 200) : ∃ x, 0 < x ∧ x < 201 ∧ S x = false := by
  refine Classical.byContradiction fun hno => ?_
  have : ∀ x, x < 200 → x + 1 ∈ L := fun x hx => by
    refine (hs (x + 1) (by omega)).1 ?_
    cases he : S (x + 1) with
    | true => rfl
    | false => exact absurd ⟨x + 1, by omega, by omega, he⟩ hno
  have hr : ∀ n, n ≤ 200 → ∃ l : List Nat, l.Nodup ∧ l.length = n ∧ (∀ x ∈ l, x ∈ L ∧ x ≤ n) := by
    intro n
    induction n with
    | zero => intro _; exact ⟨[], by simp, rfl, by simp⟩
    | succ n ih =>
      intro hn
      obtain ⟨l, h1, h2, h3⟩ := ih (by omega)
      refine ⟨(n + 1) :: l, ?_, by simp [h2], fun x hx => ?_⟩
      · rw [List.nodup_cons]; exact ⟨fun hm => by have := (h3 _ hm).2; omega, h1⟩
      · rcases List.mem_cons.1 hx with rfl | hx
        · exact ⟨this n (by omega), Nat.le_refl _⟩
        · exact ⟨(h3 x hx).1, by have := (h3 x hx).2; omega⟩
  obtain ⟨l, h1, h2, h3⟩ := hr 200 (by omega)
  have := sub_len l L h1 (fun x hx => (h3 x hx).1)
  omega
end Go.Proofs.Ythckelcjncnalaa
