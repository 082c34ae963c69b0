import Derived.Test.YtbgilndohccicaaGreatDoorSc1
namespace Go.Proofs.YtbgilndohccicaaGreatDoor

/-- A field that was read. -/
def okF (f : Int × Int) : Prop := 97 ≤ f.1 ∧ f.1 ≤ 122 ∧ isKindB f.2 = true
theorem rdField_fine (s : ByteArray) (fs : List (Int × Int)) (k : Nat) (tw : Int) (h : (rdField s fs k tw).ok ≠ false) : okF ((rdField s fs k tw).l, (rdField s fs k tw).kd) := by
  unfold rdField at h ⊢
  split at h
  · simp at h
  · rename_i h1
    rw [if_neg h1]
    split at h
    · rename_i h2
      rw [if_pos h2]
      split at h
      · rename_i h3
        rw [if_pos h3]
        exact ⟨by simp only []; omega, by simp only []; omega, h3⟩
      · simp at h
    · simp at h
theorem rdLoop_fine (s : ByteArray) : ∀ n fs k tw, fs.length + n ≤ 6 → (∀ f ∈ fs, okF f) → (rdLoop s n fs k tw).fs.length ≤ 6 ∧ ∀ f ∈ (rdLoop s n fs k tw).fs, okF f := by
  intro n
  induction n with
  | zero => intro fs k tw _ _; simp [rdLoop]
  | succ n ih =>
    intro fs k tw hl hf
    rw [rdLoop]
    split
    · simp
    · rename_i h1
      have hfine := rdField_fine s fs k tw h1
      have hall : ∀ f ∈ fs ++ [((rdField s fs k tw).l, (rdField s fs k tw).kd)], okF f := by
        intro f hm
        rcases List.mem_append.1 hm with hm | hm
        · exact hf f hm
        · simp only [List.mem_singleton] at hm; rw [hm]; exact hfine
      split
      · exact ⟨by simp; omega, hall⟩
      · split
        · simp
        · exact ih _ _ _ (by simp; omega) hall
theorem rdFields_fine (s : ByteArray) (k : Nat) (tw : Int) : (rdFields s k tw).fs.length ≤ 6 ∧ ∀ f ∈ (rdFields s k tw).fs, okF f := by
  unfold rdFields
  split
  · simp
  · exact rdLoop_fine s 6 [] k tw (by simp) (by simp)
def okC (c : Int × List (Int × Int)) : Prop := c.2.length ≤ 6 ∧ ∀ f ∈ c.2, okF f
theorem rdClass_fine (s : ByteArray) (ls : List Int) (k : Nat) (tw : Int) : okC ((rdClass s ls k tw).l, (rdClass s ls k tw).fs) := by
  unfold rdClass
  split
  · exact ⟨by simp, by simp⟩
  · split
    · generalize (if (ls.any fun p => p == nextB s k) = true then noteI tw k else tw) = t
      split
      · exact rdFields_fine s _ _
      · exact ⟨by simp, by simp⟩
    · exact ⟨by simp, by simp⟩
theorem rcLoop_fine (s : ByteArray) : ∀ n cs k tw, cs.length + n ≤ 6 → (∀ c ∈ cs, okC c) → (rcLoop s n cs k tw).cs.length ≤ 6 ∧ ∀ c ∈ (rcLoop s n cs k tw).cs, okC c := by
  intro n
  induction n with
  | zero => intro cs k tw _ _; simp [rcLoop]
  | succ n ih =>
    intro cs k tw hl hf
    rw [rcLoop]
    split
    · simp
    · have hfine := rdClass_fine s (cs.map (·.1)) k tw
      have hall : ∀ c ∈ cs ++ [((rdClass s (cs.map (·.1)) k tw).l, (rdClass s (cs.map (·.1)) k tw).fs)], okC c := by
        intro f hm
        rcases List.mem_append.1 hm with hm | hm
        · exact hf f hm
        · simp only [List.mem_singleton] at hm; rw [hm]; exact hfine
      split
      · exact ⟨by simp; omega, hall⟩
      · exact ih _ _ _ (by simp; omega) hall
theorem readC_fine (s : ByteArray) : (readC s).length ≤ 6 ∧ ∀ c ∈ readC s, okC c := by
  have h : (readR s).cs.length ≤ 6 ∧ ∀ c ∈ (readR s).cs, okC c := rcLoop_fine s 6 [] 0 (-1) (by simp) (by simp)
  unfold readC
  split
  · simp
  · split
    · simp
    · split
      · exact h
      · simp
end Go.Proofs.YtbgilndohccicaaGreatDoor
