import Derived.Test.YthckelcjncnalaaDoorFz24
import Derived.Test.YthckelcjncnalaaDoorFz29
import Derived.Test.YthckelcjncnalaaDoorFz21
import Derived.Test.YthckelcjncnalaaDoorFz25
namespace Go.Proofs.YthckelcjncnalaaDoor
open Go.RowKit

/-- Where a reader of updates stands: how many classes are behind it, how many fields of the class; where in a sum. -/
structure USt where
  k : Nat
  c : Nat
  f : Nat
  q : Nat × Nat × Nat
def U (k c f : Nat) : USt := ⟨k, c, f, (0, 0, 0)⟩
/-- What may follow a field. -/
def ufin (c f : Nat) (x : Int) : Option USt := if x = 125 then some (U 0 (c + 1) 0) else if x = 44 ∧ f < 6 then some (U 6 c f) else none
def USt.go (u : USt) (x : Int) : Option USt :=
  match u.k with
  | 0 => if u.c < 6 ∧ upr x then some (U 1 u.c 0) else none
  | 1 => if x = 123 then some (U 2 u.c 0) else if x = 60 then some (U 9 u.c 0) else none
  | 2 => if x = 125 then some (U 0 (u.c + 1) 0) else if lwr x then some (U 3 u.c 0) else none
  | 3 => if x = 58 then some (U 4 u.c u.f) else none
  | 4 => if isKindB x = true then some (U 5 u.c (u.f + 1)) else none
  | 5 => if x = 61 then some (U 7 u.c u.f) else ufin u.c u.f x
  | 6 => if lwr x then some (U 3 u.c u.f) else none
  | 7 => match stp 6 u.q x with
    | some q => some ⟨7, u.c, u.f, q⟩
    | none => if u.q.1 ≠ 0 ∧ u.q.2.1 = 0 then (if x = 33 then some (U 8 u.c u.f) else ufin u.c u.f x) else none
  | 8 => ufin u.c u.f x
  | 9 => if upr x then some (U 10 u.c 0) else none
  | _ => if x = 123 then some (U 2 u.c 0) else none
theorem gu0 (c f : Nat) (x : Int) : (U 0 c f).go x = if c < 6 ∧ upr x then some (U 1 c 0) else none := rfl
theorem gu1 (c f : Nat) (x : Int) : (U 1 c f).go x = if x = 123 then some (U 2 c 0) else if x = 60 then some (U 9 c 0) else none := rfl
theorem gu2 (c f : Nat) (x : Int) : (U 2 c f).go x = if x = 125 then some (U 0 (c + 1) 0) else if lwr x then some (U 3 c 0) else none := rfl
theorem gu3 (c f : Nat) (x : Int) : (U 3 c f).go x = if x = 58 then some (U 4 c f) else none := rfl
theorem gu4 (c f : Nat) (x : Int) : (U 4 c f).go x = if isKindB x = true then some (U 5 c (f + 1)) else none := rfl
theorem gu5 (c f : Nat) (x : Int) : (U 5 c f).go x = if x = 61 then some (U 7 c f) else ufin c f x := rfl
theorem gu6 (c f : Nat) (x : Int) : (U 6 c f).go x = if lwr x then some (U 3 c f) else none := rfl
theorem gu7 (c f : Nat) (q : Nat × Nat × Nat) (x : Int) : (USt.mk 7 c f q).go x = match stp 6 q x with
    | some q => some ⟨7, c, f, q⟩
    | none => if q.1 ≠ 0 ∧ q.2.1 = 0 then (if x = 33 then some (U 8 c f) else ufin c f x) else none := rfl
theorem gu8 (c f : Nat) (x : Int) : (U 8 c f).go x = ufin c f x := rfl
theorem gu9 (c f : Nat) (x : Int) : (U 9 c f).go x = if upr x then some (U 10 c 0) else none := rfl
theorem gu10 (c f : Nat) (x : Int) : (U 10 c f).go x = if x = 123 then some (U 2 c 0) else none := rfl
def USt.acc (u : USt) : Bool := decide (u.k = 0) && decide (0 < u.c)
theorem ufin_pos {c f : Nat} {x : Int} {u : USt} (h : ufin c f x = some u) : 0 < x := by
  unfold ufin at h
  split at h
  · omega
  · split at h
    · omega
    · cases h
theorem ugo_pos {u u' : USt} {x : Int} (h : u.go x = some u') : 0 < x := by
  unfold USt.go at h
  split at h
  · split at h
    · rename_i h'; have := h'.2.1; omega
    · cases h
  · split at h
    · omega
    · split at h
      · omega
      · cases h
  · split at h
    · omega
    · split at h
      · rename_i h'; have := h'.1; omega
      · cases h
  · split at h
    · omega
    · cases h
  · split at h
    · rename_i h'; exact isKindB_pos h'
    · cases h
  · split at h
    · omega
    · exact ufin_pos h
  · split at h
    · rename_i h'; have := h'.1; omega
    · cases h
  · split at h
    · rename_i h'; have := stp_byte h'; omega
    · split at h
      · split at h
        · omega
        · exact ufin_pos h
      · cases h
  · exact ufin_pos h
  · split at h
    · rename_i h'; have := h'.1; omega
    · cases h
  · split at h
    · omega
    · cases h
def udN (s : ByteArray) : Nat → Nat → USt → Nat × USt
  | 0, i, q => (i, q)
  | n + 1, i, q => match q.go (nextB s i) with
    | none => (i, q)
    | some q' => udN s n (i + 1) q'
/-- How far it comes from the place i on, and where it stands then. -/
def ud (s : ByteArray) (i : Nat) (q : USt) : Nat × USt := udN s (s.size - i) i q
theorem ud_end {s : ByteArray} {i : Nat} {q : USt} (h : ¬ i < s.size) : ud s i q = (i, q) := by
  have : s.size - i = 0 := by omega
  simp [ud, this, udN]
theorem ud_stop {s : ByteArray} {i : Nat} {q : USt} (h : q.go (nextB s i) = none) : ud s i q = (i, q) := by
  by_cases hi : i < s.size
  · have : s.size - i = (s.size - (i + 1)) + 1 := by omega
    simp [ud, this, udN, h]
  · exact ud_end hi
theorem ud_step {s : ByteArray} {i : Nat} {q q' : USt} (h : q.go (nextB s i) = some q') : ud s i q = ud s (i + 1) q' := by
  have hi : i < s.size := nextB_pos (ugo_pos h)
  have : s.size - i = (s.size - (i + 1)) + 1 := by omega
  simp [ud, this, udN, h]
theorem ds_stuck (s : ByteArray) : ∀ n i q, i + n = s.size → stp 6 (ds s i q).2 (nextB s (ds s i q).1) = none := by
  intro n
  induction n with
  | zero =>
    intro i q hn
    rw [ds_end (by omega)]
    cases h : stp 6 q (nextB s i) with
    | none => rfl
    | some q' => rw [nextB_out (by omega)] at h; have := stp_byte h; omega
  | succ n ih =>
    intro i q hn
    cases hq : stp 6 q (nextB s i) with
    | none => rw [ds_stop hq]; exact hq
    | some q1 => rw [ds_step hq]; exact ih (i + 1) q1 (by omega)
theorem ud_sum (s : ByteArray) (c f : Nat) : ∀ n i q, i + n = s.size → ud s i ⟨7, c, f, q⟩ = ud s (ds s i q).1 ⟨7, c, f, (ds s i q).2⟩ := by
  intro n
  induction n with
  | zero => intro i q hn; rw [ds_end (by omega)]
  | succ n ih =>
    intro i q hn
    cases hq : stp 6 q (nextB s i) with
    | none => rw [ds_stop hq]
    | some q1 =>
      rw [ds_step hq, ud_step (q' := ⟨7, c, f, q1⟩) (by rw [gu7, hq])]
      exact ih (i + 1) q1 (by omega)
/-- readRule against the states. -/
theorem rule_ud (s : ByteArray) (k c f : Nat) :
    ((upRule s k).ok = true → ∃ u, ud s k (U 5 c f) = ud s (upRule s k).at_ u ∧ u.go (nextB s (upRule s k).at_) = ufin c f (nextB s (upRule s k).at_) ∧ u.acc = false) ∧
    ((upRule s k).ok = false → ∃ u, ud s k (U 5 c f) = ((upRule s k).at_, u) ∧ u.acc = false) := by
  unfold upRule
  by_cases h : nextB s k = 61
  · rw [if_pos h]
    have hk : k < s.size := nextB_pos (by omega)
    have e1 : ud s k (U 5 c f) = ud s (k + 1) (U 7 c f) := ud_step (by rw [gu5, if_pos h])
    have e2 := ud_sum s c f (s.size - (k + 1)) (k + 1) (0, 0, 0) (by omega)
    have e3 := ds_stuck s (s.size - (k + 1)) (k + 1) (0, 0, 0) (by omega)
    cases hok : (sumRL s 6 (k + 1) []).ok with
    | true =>
      rw [if_pos rfl]
      refine ⟨fun _ => ?_, (fun h => by cases h)⟩
      obtain ⟨m, kk, hm, e⟩ := sum_yes hok
      rw [e] at e2 e3
      simp only [] at e2 e3 ⊢
      by_cases h33 : nextB s (sumRL s 6 (k + 1) []).at_ = 33
      · rw [if_pos h33]
        refine ⟨U 8 c f, ?_, gu8 _ _ _, rfl⟩
        rw [e1]
        show ud s (k + 1) ⟨7, c, f, (0, 0, 0)⟩ = _
        rw [e2]
        exact ud_step (by rw [gu7, e3]; simp only []; rw [if_pos ⟨hm, trivial⟩, if_pos h33])
      · rw [if_neg h33]
        refine ⟨⟨7, c, f, (m, 0, kk)⟩, ?_, ?_, rfl⟩
        · rw [e1]; exact e2
        · rw [gu7, e3]; simp only []; rw [if_pos ⟨hm, trivial⟩, if_neg h33]
    | false =>
      rw [if_neg (by decide)]
      refine ⟨(fun h => by cases h), fun _ => ?_⟩
      obtain ⟨q, e, hq⟩ := sum_no hok
      rw [e] at e2 e3
      simp only [] at e2 e3 ⊢
      refine ⟨⟨7, c, f, q⟩, ?_, rfl⟩
      rw [e1]
      show ud s (k + 1) ⟨7, c, f, (0, 0, 0)⟩ = _
      rw [e2]
      exact ud_stop (by rw [gu7, e3]; simp only []; rw [if_neg (by omega)])
  · rw [if_neg h]
    exact ⟨fun _ => ⟨U 5 c f, rfl, by simp only []; rw [gu5, if_neg h], rfl⟩, (fun h => by cases h)⟩
theorem from_ud (s : ByteArray) (k c : Nat) :
    ((upFrom s k).ok = true → ∃ u, ud s k (U 1 c 0) = ud s (upFrom s k).at_ u ∧ u.go (nextB s (upFrom s k).at_) = (if nextB s (upFrom s k).at_ = 123 then some (U 2 c 0) else none) ∧ u.acc = false) ∧
    ((upFrom s k).ok = false → ∃ u, ud s k (U 1 c 0) = ((upFrom s k).at_, u) ∧ u.acc = false) := by
  unfold upFrom
  by_cases h : nextB s k = 60
  · rw [if_pos h]
    have e1 : ud s k (U 1 c 0) = ud s (k + 1) (U 9 c 0) := ud_step (by rw [gu1, if_neg (by omega), if_pos h])
    by_cases h2 : 65 ≤ nextB s (k + 1) ∧ nextB s (k + 1) ≤ 90
    · rw [if_pos h2]
      refine ⟨fun _ => ⟨U 10 c 0, ?_, gu10 _ _ _, rfl⟩, (fun h => by cases h)⟩
      rw [e1]
      exact ud_step (by rw [gu9, if_pos h2])
    · rw [if_neg h2]
      refine ⟨(fun h => by cases h), fun _ => ⟨U 9 c 0, ?_, rfl⟩⟩
      rw [e1]
      exact ud_stop (by rw [gu9, if_neg h2])
  · rw [if_neg h]
    refine ⟨fun _ => ⟨U 1 c 0, rfl, ?_, rfl⟩, (fun h => by cases h)⟩
    simp only []
    rw [gu1, if_neg h]
theorem ufield_ud (s : ByteArray) (k c f : Nat) :
    ((gdField upRule s k).ok = true → ∃ u, ud s k (U 6 c f) = ud s (gdField upRule s k).at_ u ∧ u.go (nextB s (gdField upRule s k).at_) = ufin c (f + 1) (nextB s (gdField upRule s k).at_) ∧ u.acc = false) ∧
    ((gdField upRule s k).ok = false → ∃ u, ud s k (U 6 c f) = ((gdField upRule s k).at_, u) ∧ u.acc = false) := by
  unfold gdField
  by_cases h0 : lwr (nextB s k)
  · rw [if_neg (by simp only [Bool.and_eq_false_iff, decide_eq_false_iff_not]; rintro (h | h); exact h h0.1; exact h h0.2)]
    have s1 : ud s k (U 6 c f) = ud s (k + 1) (U 3 c f) := ud_step (by rw [gu6, if_pos h0])
    by_cases h1 : nextB s (k + 1) = 58
    · rw [if_neg (by simp [h1])]
      have s2 : ud s (k + 1) (U 3 c f) = ud s (k + 1 + 1) (U 4 c f) := ud_step (by rw [gu3, if_pos h1])
      by_cases h2 : isKindB (nextB s (k + 1 + 1)) = true
      · rw [if_neg (by rw [h2]; decide)]
        have s3 : ud s (k + 1 + 1) (U 4 c f) = ud s (k + 1 + 1 + 1) (U 5 c (f + 1)) := ud_step (by rw [gu4, if_pos h2])
        have R := rule_ud s (k + 1 + 1 + 1) c (f + 1)
        rw [s1, s2, s3]
        generalize upRule s (k + 1 + 1 + 1) = r at R ⊢
        cases hr : r.ok with
        | false =>
          rw [if_pos rfl]
          exact ⟨(fun h => by cases h), fun _ => R.2 hr⟩
        | true =>
          rw [if_neg (by decide)]
          exact ⟨fun _ => R.1 hr, (fun h => by cases h)⟩
      · rw [if_pos (by simpa using h2)]
        refine ⟨(fun h => by cases h), fun _ => ⟨U 4 c f, ?_, rfl⟩⟩
        rw [s1, s2]
        exact ud_stop (by rw [gu4, if_neg h2])
    · rw [if_pos (by simp [h1])]
      refine ⟨(fun h => by cases h), fun _ => ⟨U 3 c f, ?_, rfl⟩⟩
      rw [s1]
      exact ud_stop (by rw [gu3, if_neg h1])
  · rw [if_pos (by simp only [Bool.and_eq_false_iff, decide_eq_false_iff_not]; unfold lwr at h0; omega)]
    exact ⟨(fun h => by cases h), fun _ => ⟨U 6 c f, ud_stop (by rw [gu6, if_neg h0]), rfl⟩⟩
theorem uloop_ud (s : ByteArray) (c : Nat) : ∀ n fs k, fs.length + n = 6 → 0 < n →
    ((gdLoop upRule s n fs k).ok = true → ud s k (U 6 c fs.length) = ud s (gdLoop upRule s n fs k).at_ (U 0 (c + 1) 0)) ∧
    ((gdLoop upRule s n fs k).ok = false → ∃ u, ud s k (U 6 c fs.length) = ((gdLoop upRule s n fs k).at_, u) ∧ u.acc = false) := by
  intro n
  induction n with
  | zero => intro fs k _ h; omega
  | succ n ih =>
    intro fs k hl _
    have F := ufield_ud s k c fs.length
    rw [gdLoop]
    generalize gdField upRule s k = r at F ⊢
    by_cases h0 : r.ok = false
    · rw [if_pos h0]
      exact ⟨(fun h => by cases h), fun _ => F.2 h0⟩
    rw [if_neg h0]
    obtain ⟨u, e1, e2, e3⟩ := F.1 (by simpa using h0)
    by_cases h1 : nextB s r.at_ = 125
    · rw [if_pos h1]
      refine ⟨fun _ => ?_, (fun h => by cases h)⟩
      rw [e1]
      exact ud_step (by rw [e2, ufin, if_pos h1])
    rw [if_neg h1]
    by_cases h2 : fs.length = 5 ∨ nextB s r.at_ ≠ 44
    · rw [if_pos h2]
      refine ⟨(fun h => by cases h), fun _ => ⟨u, (by rw [e1]; exact ud_stop (by rw [e2, ufin, if_neg h1, if_neg (by omega)])), e3⟩⟩
    · rw [if_neg h2]
      have e4 : ud s r.at_ u = ud s (r.at_ + 1) (U 6 c (fs.length + 1)) := ud_step (by rw [e2, ufin, if_neg h1, if_pos (by omega)])
      have := ih (fs ++ [r.f]) (r.at_ + 1) (by simp; omega) (by omega)
      rw [e1, e4]
      simpa using this
theorem ufields_ud (s : ByteArray) (c k : Nat) :
    ((gdFields upRule s k).ok = true → ud s k (U 2 c 0) = ud s (gdFields upRule s k).at_ (U 0 (c + 1) 0)) ∧
    ((gdFields upRule s k).ok = false → ∃ u, ud s k (U 2 c 0) = ((gdFields upRule s k).at_, u) ∧ u.acc = false) := by
  unfold gdFields
  by_cases h : nextB s k = 125
  · rw [if_pos h]
    exact ⟨fun _ => ud_step (by rw [gu2, if_pos h]), (fun h => by cases h)⟩
  rw [if_neg h]
  have L := uloop_ud s c 6 [] k rfl (by omega)
  by_cases h1 : lwr (nextB s k)
  · have e : ud s k (U 2 c 0) = ud s k (U 6 c 0) := by
      rw [ud_step (q' := U 3 c 0) (by rw [gu2, if_neg h, if_pos h1]), ud_step (q := U 6 c 0) (q' := U 3 c 0) (by rw [gu6, if_pos h1])]
    rw [e]; exact L
  · have e : gdLoop upRule s 6 [] k = ⟨false, k, []⟩ := by
      have e1 : gdField upRule s k = ⟨false, k, zF⟩ := by
        unfold gdField; rw [if_pos (by simp only [Bool.and_eq_false_iff, decide_eq_false_iff_not]; unfold lwr at h1; omega)]
      rw [gdLoop, e1]; rfl
    rw [e]
    exact ⟨(fun h => by cases h), fun _ => ⟨U 2 c 0, ud_stop (by rw [gu2, if_neg h, if_neg h1]), rfl⟩⟩
theorem uclass_ud (s : ByteArray) (c k : Nat) (hc : c < 6) :
    ((gdClass upRule upFrom s k).ok = true → ud s k (U 0 c 0) = ud s (gdClass upRule upFrom s k).at_ (U 0 (c + 1) 0)) ∧
    ((gdClass upRule upFrom s k).ok = false → (∃ u, ud s k (U 0 c 0) = ((gdClass upRule upFrom s k).at_, u) ∧ u.acc = false) ∨ (ud s k (U 0 c 0) = (k, U 0 c 0) ∧ (gdClass upRule upFrom s k).at_ = k)) := by
  unfold gdClass
  by_cases h0 : upr (nextB s k)
  · rw [if_neg (by simp only [Bool.and_eq_false_iff, decide_eq_false_iff_not]; rintro (h | h); exact h h0.1; exact h h0.2)]
    have s1 : ud s k (U 0 c 0) = ud s (k + 1) (U 1 c 0) := ud_step (by rw [gu0, if_pos ⟨hc, h0⟩])
    have F := from_ud s (k + 1) c
    rw [s1]
    generalize upFrom s (k + 1) = r at F ⊢
    cases hr : r.ok with
    | false =>
      rw [if_pos rfl]
      exact ⟨(fun h => by cases h), fun _ => .inl (F.2 hr)⟩
    | true =>
      rw [if_neg (by decide)]
      obtain ⟨u, e1, e2, e3⟩ := F.1 hr
      by_cases h1 : nextB s r.at_ = 123
      · rw [if_neg (by simp [h1])]
        have s2 : ud s r.at_ u = ud s (r.at_ + 1) (U 2 c 0) := ud_step (by rw [e2, if_pos h1])
        have L := ufields_ud s c (r.at_ + 1)
        rw [e1, s2]
        generalize gdFields upRule s (r.at_ + 1) = x at L ⊢
        cases hx : x.ok with
        | false => rw [if_pos rfl]; exact ⟨(fun h => by cases h), fun _ => .inl (L.2 hx)⟩
        | true => rw [if_neg (by decide)]; exact ⟨fun _ => L.1 hx, (fun h => by cases h)⟩
      · rw [if_pos (by simp [h1])]
        exact ⟨(fun h => by cases h), fun _ => .inl ⟨u, by rw [e1]; exact ud_stop (by rw [e2, if_neg h1]), e3⟩⟩
  · rw [if_pos (by simp only [Bool.and_eq_false_iff, decide_eq_false_iff_not]; unfold upr at h0; omega)]
    exact ⟨(fun h => by cases h), fun _ => .inr ⟨ud_stop (by rw [gu0, if_neg (fun h => h0 h.2)]), rfl⟩⟩
theorem uloop_end (s : ByteArray) : ∀ n fs k, (gdLoop upRule s n fs k).ok = true → ∃ j, j < s.size ∧ nextB s j = 125 ∧ (gdLoop upRule s n fs k).at_ = j + 1 := by
  intro n
  induction n with
  | zero => intro fs k h; simp [gdLoop] at h
  | succ n ih =>
    intro fs k h
    rw [gdLoop] at h ⊢
    split at h
    · cases h
    · rename_i h0
      rw [if_neg h0]
      split at h
      · rename_i h1
        rw [if_pos h1]; exact ⟨_, nextB_pos (by omega), h1, rfl⟩
      · rename_i h1
        rw [if_neg h1]
        split at h
        · cases h
        · rename_i h2
          rw [if_neg h2]; exact ih _ _ h
theorem uclass_end (s : ByteArray) (k : Nat) (h : (gdClass upRule upFrom s k).ok = true) : ∃ j, j < s.size ∧ nextB s j = 125 ∧ (gdClass upRule upFrom s k).at_ = j + 1 := by
  unfold gdClass at h ⊢
  split at h
  · cases h
  · rename_i h0
    rw [if_neg h0]
    split at h
    · cases h
    · rename_i h1
      rw [if_neg h1]
      split at h
      · cases h
      · rename_i h2
        rw [if_neg h2]
        split at h
        · cases h
        · rename_i h3
          rw [if_neg h3]
          have h4 : (gdFields upRule s ((upFrom s (k + 1)).at_ + 1)).ok = true := by simpa using h3
          unfold gdFields at h4 ⊢
          split at h4
          · rename_i h5
            rw [if_pos h5]; exact ⟨_, nextB_pos (by omega), h5, rfl⟩
          · rename_i h5
            rw [if_neg h5]; exact uloop_end s _ _ _ h4
def uaccepts (s : ByteArray) : Prop := (ud s 0 (U 0 0 0)).1 = s.size ∧ (ud s 0 (U 0 0 0)).2.acc = true
theorem gc_ud (s : ByteArray) : ∀ n cs k, cs.length + n = 6 → (k < s.size ∨ cs = []) →
    ((gcLoop upRule upFrom s n cs k).ok = true → ud s k (U 0 cs.length 0) = (s.size, U 0 ((gcLoop upRule upFrom s n cs k).cs.length) 0) ∧ 0 < (gcLoop upRule upFrom s n cs k).cs.length) ∧
    ((gcLoop upRule upFrom s n cs k).ok = false → ∃ u, ud s k (U 0 cs.length 0) = ((gcLoop upRule upFrom s n cs k).at_, u) ∧ (u.acc = true → (gcLoop upRule upFrom s n cs k).at_ < s.size)) := by
  intro n
  induction n with
  | zero =>
    intro cs k hl hk
    rw [gcLoop]
    refine ⟨(fun h => by cases h), fun _ => ⟨U 0 cs.length 0, ud_stop (by rw [gu0, if_neg (by omega)]), fun _ => ?_⟩⟩
    rcases hk with h | h
    · exact h
    · subst h; simp at hl
  | succ n ih =>
    intro cs k hl hk
    have C := uclass_ud s cs.length k (by omega)
    have D := uclass_end s k
    rw [gcLoop]
    generalize gdClass upRule upFrom s k = r at C D ⊢
    by_cases h0 : r.ok = false
    · rw [if_pos h0]
      refine ⟨(fun h => by cases h), fun _ => ?_⟩
      rcases C.2 h0 with ⟨q, e, ha⟩ | ⟨e, ea⟩
      · exact ⟨q, e, fun h => by rw [ha] at h; cases h⟩
      · refine ⟨_, by rw [e, ea], fun h => ?_⟩
        rcases hk with h' | h'
        · show r.at_ < s.size; omega
        · subst h'; simp [USt.acc, U] at h
    rw [if_neg h0]
    have e1 := C.1 (by simpa using h0)
    by_cases h1 : r.at_ = s.size
    · rw [if_pos h1]
      refine ⟨fun _ => ⟨?_, by simp⟩, (fun h => by cases h)⟩
      rw [e1, ud_end (by omega), h1]; simp
    · rw [if_neg h1]
      obtain ⟨j, hj, _, hj'⟩ := D (by simpa using h0)
      have := ih (cs ++ [r.c]) r.at_ (by simp; omega) (.inl (by omega))
      rw [e1]
      simpa using this
theorem uread_accepts (s : ByteArray) : ((uR s).ok = true ↔ uaccepts s) ∧ ((uR s).ok = false → (uR s).at_ = (ud s 0 (U 0 0 0)).1) := by
  have R := gc_ud s 6 [] 0 rfl (.inr rfl)
  unfold uR uaccepts
  generalize gcLoop upRule upFrom s 6 [] 0 = r at R ⊢
  cases h : r.ok with
  | true =>
    obtain ⟨e, h0⟩ := R.1 h
    simp only [List.length_nil] at e
    rw [e]
    refine ⟨⟨fun _ => ⟨rfl, ?_⟩, fun _ => rfl⟩, (fun h => by cases h)⟩
    match hn : r.cs.length, h0 with
    | n + 1, _ => rfl
  | false =>
    obtain ⟨q, e, hq⟩ := R.2 h
    simp only [List.length_nil] at e
    rw [e]
    refine ⟨⟨(fun h => by cases h), fun ⟨h1, h2⟩ => ?_⟩, fun _ => rfl⟩
    have := hq h2
    simp only at h1
    omega
end Go.Proofs.YthckelcjncnalaaDoor
namespace Go.Proofs.YthckelcjncnalaaDoor
open Go.RowKit

theorem Below.setU {B : Nat} {a w : World} (h : Below B a w) {b o : Nat} (hp : B ≤ b) (u : Value) : Below B a (w.setCell ⟨b, o, none⟩ u) := h.setCell hp u
/-- A field of an update as the reference has it. -/
structure GU where
  n : Int
  k : Int
  p : Int
  sa : Int
  sm : Bool
  bg : Bool
  su : ByteArray
def GU.cells (g : GU) : List Value := [.int .u8 g.n, .int .u8 g.k, .int .i64 g.p, .int .i64 g.sa, .bool g.sm, .bool g.bg, .string g.su]
def sumOf (t : ByteArray) : ByteArray := t.extract 4 t.size
def cutOf (t : ByteArray) : ByteArray := (sumOf t).extract 0 ((sumOf t).size - 1)
def bangB (t : ByteArray) : Bool := decide (0 < (sumOf t).size) && (nextB (sumOf t) ((sumOf t).size - 1) == 33)
def fieldU (t : ByteArray) (p : Int) : Option GU :=
  if t.size < 3 then none
  else if (decide (97 ≤ nextB t 0) && decide (nextB t 0 ≤ 122)) = false then none
  else if (nextB t 1 == 58) = false then none
  else if isKindB (nextB t 2) = false then none
  else if t.size = 3 then some ⟨nextB t 0, nextB t 2, p, 0, false, false, ⟨#[]⟩⟩
  else if (nextB t 3 == 61) = false then none
  else if bangB t = true then (if sumB (cutOf t) 6 = true then some ⟨nextB t 0, nextB t 2, p, p + 4, true, true, cutOf t⟩ else none)
  else if sumB (sumOf t) 6 = true then some ⟨nextB t 0, nextB t 2, p, p + 4, true, false, sumOf t⟩ else none
def UPost (R : Option GU) (w : World) (e : Ending) (w' : World) : Prop := ∃ g : GU,
  e = .returned (.tuple #[.agg g.cells.toArray, .bool R.isSome]) ∧ (∀ r, R = some r → g = r) ∧ Below w.heap.size w w'
def zU : GU := ⟨0, 0, 0, 0, false, false, ⟨#[]⟩⟩

set_option maxHeartbeats 400000 in
set_option maxRecDepth 20000 in
theorem ufield_short (t : ByteArray) (p : Int) (w : World) (hs : t.size < 3) :
    Calls Tryd.prog 39 #[.string t, .int .i64 p, .bool true] w (UPost none w) := by
  go_enter Tryd.func39, Tryd.ntmps39
  go_wp2
  refine bodyPost_ret (v := .tuple #[.agg zU.cells.toArray, .bool false]) (by simp [results, Tryd.results39, go_sem, zU, GU.cells]) rfl ⟨zU, rfl, (fun r h => by cases h), ?_⟩
  exact ((Below.refl _ _).alloc (Nat.le_refl _) _).alloc (by simp) _
set_option maxHeartbeats 400000 in
set_option maxRecDepth 20000 in
theorem ufield_letter (t : ByteArray) (p : Int) (w : World) (hs : 3 ≤ t.size) (h0 : (decide (97 ≤ nextB t 0) && decide (nextB t 0 ≤ 122)) = false) :
    Calls Tryd.prog 39 #[.string t, .int .i64 p, .bool true] w (UPost none w) := by
  have x0 := nextB_at (show 0 < t.size by omega)
  go_enter Tryd.func39, Tryd.ntmps39
  go_wp2_with (go_at_call 30; refine (among_any _ _ _ _ false h0).mono ?_; rintro e w' ⟨rfl, rfl⟩)
  refine bodyPost_ret (v := .tuple #[.agg zU.cells.toArray, .bool false]) (by simp [results, Tryd.results39, go_sem, zU, GU.cells]) rfl ⟨zU, rfl, (fun r h => by cases h), ?_⟩
  exact ((Below.refl _ _).alloc (Nat.le_refl _) _).alloc (by simp) _
set_option maxHeartbeats 400000 in
set_option maxRecDepth 20000 in
theorem ufield_colon (t : ByteArray) (p : Int) (w : World) (hs : 3 ≤ t.size) (h0 : (decide (97 ≤ nextB t 0) && decide (nextB t 0 ≤ 122)) = true) (h1 : (nextB t 1 == 58) = false) :
    Calls Tryd.prog 39 #[.string t, .int .i64 p, .bool true] w (UPost none w) := by
  have x0 := nextB_at (show 0 < t.size by omega)
  have x1 := nextB_at (show 1 < t.size by omega)
  have h1n : (nextB t 1 != 58) = true := by simpa using h1
  go_enter Tryd.func39, Tryd.ntmps39
  go_wp2_with (go_at_call 30; refine (among_any _ _ _ _ true h0).mono ?_; rintro e w' ⟨rfl, rfl⟩)
  refine bodyPost_ret (v := .tuple #[.agg zU.cells.toArray, .bool false]) (by simp [results, Tryd.results39, go_sem, zU, GU.cells]) rfl ⟨zU, rfl, (fun r h => by cases h), ?_⟩
  exact ((Below.refl _ _).alloc (Nat.le_refl _) _).alloc (by simp) _
set_option maxHeartbeats 400000 in
set_option maxRecDepth 20000 in
theorem ufield_kind (t : ByteArray) (p : Int) (w : World) (hs : 3 ≤ t.size) (h0 : (decide (97 ≤ nextB t 0) && decide (nextB t 0 ≤ 122)) = true) (h1 : nextB t 1 = 58) (h2 : isKindB (nextB t 2) = false) :
    Calls Tryd.prog 39 #[.string t, .int .i64 p, .bool true] w (UPost none w) := by
  have x0 := nextB_at (show 0 < t.size by omega)
  have x1 := nextB_at (show 1 < t.size by omega)
  have x2 := nextB_at (show 2 < t.size by omega)
  rw [h1] at x1
  simp only [isKindB, Bool.or_eq_false_iff] at h2
  obtain ⟨⟨⟨⟨k1, k2⟩, k3⟩, k4⟩, k5⟩ := h2
  have n1 : (nextB t 2 != 98) = true := by simpa using k1
  have n2 : (nextB t 2 != 104) = true := by simpa using k2
  have n3 : (nextB t 2 != 119) = true := by simpa using k3
  have n4 : (nextB t 2 != 108) = true := by simpa using k4
  have n5 : (nextB t 2 != 114) = true := by simpa using k5
  go_enter Tryd.func39, Tryd.ntmps39
  go_wp2_with (go_at_call 30; refine (among_any _ _ _ _ true h0).mono ?_; rintro e w' ⟨rfl, rfl⟩)
  refine bodyPost_ret (v := .tuple #[.agg zU.cells.toArray, .bool false]) (by simp [results, Tryd.results39, go_sem, zU, GU.cells]) rfl ⟨zU, rfl, (fun r h => by cases h), ?_⟩
  exact ((Below.refl _ _).alloc (Nat.le_refl _) _).alloc (by simp) _
theorem kind_cases {x : Int} (h : isKindB x = true) : x = 98 ∨ x = 104 ∨ x = 119 ∨ x = 108 ∨ x = 114 := by
  simp only [isKindB, Bool.or_eq_true, beq_iff_eq] at h; omega
set_option maxHeartbeats 1000000 in
set_option maxRecDepth 20000 in
theorem ufield_three (t : ByteArray) (p : Int) (w : World) (hs : t.size = 3) (h0 : (decide (97 ≤ nextB t 0) && decide (nextB t 0 ≤ 122)) = true) (h1 : nextB t 1 = 58) (h2 : isKindB (nextB t 2) = true) :
    Calls Tryd.prog 39 #[.string t, .int .i64 p, .bool true] w (UPost (some ⟨nextB t 0, nextB t 2, p, 0, false, false, ⟨#[]⟩⟩) w) := by
  have x0 := nextB_at (show 0 < t.size by omega)
  have x1 := nextB_at (show 1 < t.size by omega)
  have x2 := nextB_at (show 2 < t.size by omega)
  rw [h1] at x1
  rcases kind_cases h2 with k | k | k | k | k
  all_goals
    rw [k] at x2
    go_enter Tryd.func39, Tryd.ntmps39
    go_wp2_with (go_at_call 30; refine (among_any _ _ _ _ true h0).mono ?_; rintro e w' ⟨rfl, rfl⟩)
    refine bodyPost_ret (v := .tuple #[.agg (GU.cells ⟨nextB t 0, nextB t 2, p, 0, false, false, ⟨#[]⟩⟩).toArray, .bool true]) (by simp [results, Tryd.results39, go_sem, GU.cells, k]) rfl ⟨_, rfl, (fun r h => by cases h; rfl), ?_⟩
    with_reducible repeat first | exact Below.refl _ _ | (refine Below.setU ?_ (by omega) _) | (refine Below.alloc ?_ (by simp) _)

set_option maxHeartbeats 2000000 in
set_option maxRecDepth 20000 in
theorem ufield_noeq (t : ByteArray) (p : Int) (w : World) (hs : 3 < t.size) (hm : t.size ≤ 1000) (h0 : (decide (97 ≤ nextB t 0) && decide (nextB t 0 ≤ 122)) = true) (h1 : nextB t 1 = 58) (h2 : isKindB (nextB t 2) = true) (h3 : (nextB t 3 == 61) = false) :
    Calls Tryd.prog 39 #[.string t, .int .i64 p, .bool true] w (UPost none w) := by
  have x0 := nextB_at (show 0 < t.size by omega)
  have x1 := nextB_at (show 1 < t.size by omega)
  have x2 := nextB_at (show 2 < t.size by omega)
  have x3 := nextB_at (show 3 < t.size by omega)
  have h3n : (nextB t 3 != 61) = true := by simpa using h3
  have hs3 : ((t.size : Int) == 3) = false := by simp; omega
  rw [h1] at x1
  rcases kind_cases h2 with k | k | k | k | k
  all_goals
    rw [k] at x2
    go_enter Tryd.func39, Tryd.ntmps39
    go_wp2_with (go_at_call 30; refine (among_any _ _ _ _ true h0).mono ?_; rintro e w' ⟨rfl, rfl⟩)
    refine bodyPost_ret (v := .tuple #[.agg (GU.cells ⟨nextB t 0, nextB t 2, p, 0, false, false, ⟨#[]⟩⟩).toArray, .bool false]) (by simp [results, Tryd.results39, go_sem, GU.cells, k]) rfl ⟨_, rfl, (fun r h => by cases h), ?_⟩
    with_reducible repeat first | exact Below.refl _ _ | (refine Below.setU ?_ (by omega) _) | (refine Below.alloc ?_ (by simp) _)
end Go.Proofs.YthckelcjncnalaaDoor
