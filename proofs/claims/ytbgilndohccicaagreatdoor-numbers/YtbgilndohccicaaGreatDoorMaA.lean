import Derived.Test.YtbgilndohccicaaGreatDoorRf8
namespace Go.Proofs.YtbgilndohccicaaGreatDoor
open Go.RowKit

theorem nextB_extract (s : ByteArray) (a b j : Nat) (hb : b ≤ s.size) : nextB (s.extract a b) j = if a + j < b then nextB s (a + j) else 0 := by
  have hsz : (s.extract a b).size = min b s.size - a := ByteArray.size_extract
  by_cases h : a + j < b
  · rw [if_pos h, nextB_in (show j < (s.extract a b).size by rw [hsz]; omega), nextB_in (show a + j < s.size by omega)]
    rw [ByteArray.getElem_extract]
  · rw [if_neg h, nextB_out (show ¬ j < (s.extract a b).size by rw [hsz]; omega)]
theorem nextB_app_left (p e : ByteArray) (j : Nat) (h : j < p.size) : nextB (p ++ e) j = nextB p j := by
  rw [nextB_in (show j < (p ++ e).size by rw [ByteArray.size_append]; omega), nextB_in h, ByteArray.getElem_append_left h]
theorem nextB_app_right (p e : ByteArray) (j : Nat) : nextB (p ++ e) (p.size + j) = nextB e j := by
  by_cases h : j < e.size
  · rw [nextB_in (show p.size + j < (p ++ e).size by rw [ByteArray.size_append]; omega), nextB_in h, ByteArray.getElem_append_right (by omega)]
    simp
  · rw [nextB_out (show ¬ p.size + j < (p ++ e).size by rw [ByteArray.size_append]; omega), nextB_out h]

/-- Where a reader of schemas stands: how many classes are behind it, how many fields of the class. -/
structure St where
  k : Nat
  c : Nat
  f : Nat
def St.q0 (c : Nat) : St := ⟨0, c, 0⟩
def St.q1 (c : Nat) : St := ⟨1, c, 0⟩
def St.q2 (c : Nat) : St := ⟨2, c, 0⟩
def St.q3 (c f : Nat) : St := ⟨3, c, f⟩
def St.q4 (c f : Nat) : St := ⟨4, c, f⟩
def St.q5 (c f : Nat) : St := ⟨5, c, f⟩
def St.q7 (c f : Nat) : St := ⟨6, c, f⟩

abbrev upr (x : Int) : Prop := 65 ≤ x ∧ x ≤ 90
abbrev lwr (x : Int) : Prop := 97 ≤ x ∧ x ≤ 122

def St.go (q : St) (x : Int) : Option St :=
  match q.k with
  | 0 => if q.c < 6 ∧ upr x then some (.q1 q.c) else none
  | 1 => if x = 123 then some (.q2 q.c) else none
  | 2 => if x = 125 then some (.q0 (q.c + 1)) else if lwr x then some (.q3 q.c 0) else none
  | 3 => if x = 58 then some (.q4 q.c q.f) else none
  | 4 => if isKindB x = true then some (.q5 q.c (q.f + 1)) else none
  | 5 => if x = 125 then some (.q0 (q.c + 1)) else if x = 44 ∧ q.f < 6 then some (.q7 q.c q.f) else none
  | _ => if lwr x then some (.q3 q.c q.f) else none
theorem go_q0 (c : Nat) (x : Int) : (St.q0 c).go x = if c < 6 ∧ upr x then some (.q1 c) else none := rfl
theorem go_q1 (c : Nat) (x : Int) : (St.q1 c).go x = if x = 123 then some (.q2 c) else none := rfl
theorem go_q2 (c : Nat) (x : Int) : (St.q2 c).go x = if x = 125 then some (.q0 (c + 1)) else if lwr x then some (.q3 c 0) else none := rfl
theorem go_q3 (c f : Nat) (x : Int) : (St.q3 c f).go x = if x = 58 then some (.q4 c f) else none := rfl
theorem go_q4 (c f : Nat) (x : Int) : (St.q4 c f).go x = if isKindB x = true then some (.q5 c (f + 1)) else none := rfl
theorem go_q5 (c f : Nat) (x : Int) : (St.q5 c f).go x = if x = 125 then some (.q0 (c + 1)) else if x = 44 ∧ f < 6 then some (.q7 c f) else none := rfl
theorem go_q7 (c f : Nat) (x : Int) : (St.q7 c f).go x = if lwr x then some (.q3 c f) else none := rfl

def St.acc (q : St) : Bool := decide (q.k = 0) && decide (0 < q.c)

def drN (s : ByteArray) : Nat → Nat → St → Nat × St
  | 0, i, q => (i, q)
  | n + 1, i, q => match q.go (nextB s i) with
    | none => (i, q)
    | some q' => drN s n (i + 1) q'
/-- How far it comes from the place i on, and where it stands then. -/
def dr (s : ByteArray) (i : Nat) (q : St) : Nat × St := drN s (s.size - i) i q

theorem dr_end {s : ByteArray} {i : Nat} {q : St} (h : ¬ i < s.size) : dr s i q = (i, q) := by
  have : s.size - i = 0 := by omega
  simp [dr, this, drN]
theorem dr_stop {s : ByteArray} {i : Nat} {q : St} (h : q.go (nextB s i) = none) : dr s i q = (i, q) := by
  by_cases hi : i < s.size
  · have : s.size - i = (s.size - (i + 1)) + 1 := by omega
    simp [dr, this, drN, h]
  · exact dr_end hi
theorem dr_step {s : ByteArray} {i : Nat} {q q' : St} (hi : i < s.size) (h : q.go (nextB s i) = some q') : dr s i q = dr s (i + 1) q' := by
  have : s.size - i = (s.size - (i + 1)) + 1 := by omega
  simp [dr, this, drN, h]

theorem go_pos {q q' : St} {x : Int} (h : q.go x = some q') : 0 < x := by
  simp only [St.go] at h
  split at h
  · split at h
    · rename_i h'; have := h'.2.1; omega
    · cases h
  · split at h
    · omega
    · cases h
  · split at h
    · omega
    · split at h
      · rename_i h'; have := h'.1; omega
      · cases h
  · split at h
    · omega
    · cases h
  · split at h
    · rename_i h'; exact isKindB_pos h'
    · cases h
  · split at h
    · omega
    · split at h
      · omega
      · cases h
  · split at h
    · rename_i h'; have := h'.1; omega
    · cases h
theorem dr_step' {s : ByteArray} {i : Nat} {q q' : St} (h : q.go (nextB s i) = some q') : dr s i q = dr s (i + 1) q' := dr_step (nextB_pos (go_pos h)) h

/-- readField against the states. -/
theorem field_dr (s : ByteArray) (fs : List (Int × Int)) (k : Nat) (tw : Int) (c f : Nat) :
    ((rdField s fs k tw).ok = true → dr s k (.q7 c f) = dr s (rdField s fs k tw).at_ (.q5 c (f + 1))) ∧
    ((rdField s fs k tw).ok = false → ∃ q, dr s k (.q7 c f) = ((rdField s fs k tw).at_, q) ∧ q.acc = false) := by
  by_cases h0 : nextB s k < 97 ∨ 122 < nextB s k
  · have e : rdField s fs k tw = ⟨false, k, tw, 0, 0⟩ := by simp only [rdField]; rw [if_pos h0]
    rw [e]
    refine ⟨(fun h => by cases h), fun _ => ⟨_, dr_stop ?_, rfl⟩⟩
    (first | rw [go_q0] | rw [go_q1] | rw [go_q2] | rw [go_q3] | rw [go_q4] | rw [go_q5] | rw [go_q7]); rw [if_neg]; rintro ⟨h1, h2⟩; omega
  have s1 : dr s k (.q7 c f) = dr s (k + 1) (.q3 c f) := dr_step' (by (first | rw [go_q0] | rw [go_q1] | rw [go_q2] | rw [go_q3] | rw [go_q4] | rw [go_q5] | rw [go_q7]); rw [if_pos ⟨by omega, by omega⟩])
  by_cases h1 : nextB s (k + 1) = 58
  · have s2 : dr s (k + 1) (.q3 c f) = dr s (k + 2) (.q4 c f) := dr_step' (by (first | rw [go_q0] | rw [go_q1] | rw [go_q2] | rw [go_q3] | rw [go_q4] | rw [go_q5] | rw [go_q7]); rw [if_pos h1])
    by_cases h2 : isKindB (nextB s (k + 2)) = true
    · have e : rdField s fs k tw = ⟨true, k + 3, if 0 ≤ idxF fs (nextB s k) then noteI tw k else tw, nextB s k, nextB s (k + 2)⟩ := by
        simp only [rdField]; rw [if_neg h0, if_pos h1, if_pos h2]
      rw [e]
      refine ⟨fun _ => ?_, (fun h => by cases h)⟩
      rw [s1, s2]
      exact dr_step' (by (first | rw [go_q0] | rw [go_q1] | rw [go_q2] | rw [go_q3] | rw [go_q4] | rw [go_q5] | rw [go_q7]); rw [if_pos h2])
    · have e : rdField s fs k tw = ⟨false, k + 2, if 0 ≤ idxF fs (nextB s k) then noteI tw k else tw, 0, 0⟩ := by
        simp only [rdField]; rw [if_neg h0, if_pos h1, if_neg h2]
      rw [e]
      refine ⟨(fun h => by cases h), fun _ => ⟨.q4 c f, ?_, rfl⟩⟩
      rw [s1, s2]
      exact dr_stop (by (first | rw [go_q0] | rw [go_q1] | rw [go_q2] | rw [go_q3] | rw [go_q4] | rw [go_q5] | rw [go_q7]); rw [if_neg h2])
  · have e : rdField s fs k tw = ⟨false, k + 1, if 0 ≤ idxF fs (nextB s k) then noteI tw k else tw, 0, 0⟩ := by
      simp only [rdField]; rw [if_neg h0, if_neg h1]
    rw [e]
    refine ⟨(fun h => by cases h), fun _ => ⟨.q3 c f, ?_, rfl⟩⟩
    rw [s1]
    exact dr_stop (by (first | rw [go_q0] | rw [go_q1] | rw [go_q2] | rw [go_q3] | rw [go_q4] | rw [go_q5] | rw [go_q7]); rw [if_neg h1])

theorem loop_dr (s : ByteArray) (c : Nat) : ∀ n fs k tw, fs.length + n = 6 → 0 < n →
    ((rdLoop s n fs k tw).ok = true → dr s k (.q7 c fs.length) = dr s (rdLoop s n fs k tw).at_ (.q0 (c + 1))) ∧
    ((rdLoop s n fs k tw).ok = false → ∃ q, dr s k (.q7 c fs.length) = ((rdLoop s n fs k tw).at_, q) ∧ q.acc = false) := by
  intro n
  induction n with
  | zero => intro fs k tw _ h; omega
  | succ n ih =>
    intro fs k tw hl _
    have F := field_dr s fs k tw c fs.length
    rw [rdLoop]
    generalize rdField s fs k tw = r at F ⊢
    by_cases h0 : r.ok = false
    · rw [if_pos h0]
      exact ⟨(fun h => by cases h), fun _ => F.2 h0⟩
    rw [if_neg h0]
    have h0' : r.ok = true := by simpa using h0
    have e1 := F.1 h0'
    by_cases h1 : nextB s r.at_ = 125
    · rw [if_pos h1]
      refine ⟨fun _ => ?_, (fun h => by cases h)⟩
      rw [e1]
      exact dr_step' (by (first | rw [go_q0] | rw [go_q1] | rw [go_q2] | rw [go_q3] | rw [go_q4] | rw [go_q5] | rw [go_q7]); rw [if_pos h1])
    rw [if_neg h1]
    by_cases h2 : fs.length = 5 ∨ nextB s r.at_ ≠ 44
    · rw [if_pos h2]
      refine ⟨(fun h => by cases h), fun _ => ⟨_, (by rw [e1]; exact dr_stop (by (first | rw [go_q0] | rw [go_q1] | rw [go_q2] | rw [go_q3] | rw [go_q4] | rw [go_q5] | rw [go_q7]); rw [if_neg h1, if_neg (by omega)])), rfl⟩⟩
    · rw [if_neg h2]
      have e2 : dr s r.at_ (.q5 c (fs.length + 1)) = dr s (r.at_ + 1) (.q7 c (fs.length + 1)) := dr_step' (by (first | rw [go_q0] | rw [go_q1] | rw [go_q2] | rw [go_q3] | rw [go_q4] | rw [go_q5] | rw [go_q7]); rw [if_neg h1, if_pos (by omega)])
      have := ih (fs ++ [(r.l, r.kd)]) (r.at_ + 1) r.tw (by simp; omega) (by omega)
      rw [e1, e2]
      simpa using this

theorem fields_dr (s : ByteArray) (c k : Nat) (tw : Int) :
    ((rdFields s k tw).ok = true → dr s k (.q2 c) = dr s (rdFields s k tw).at_ (.q0 (c + 1))) ∧
    ((rdFields s k tw).ok = false → ∃ q, dr s k (.q2 c) = ((rdFields s k tw).at_, q) ∧ q.acc = false) := by
  simp only [rdFields]
  by_cases h : nextB s k = 125
  · rw [if_pos h]
    exact ⟨fun _ => dr_step' (by (first | rw [go_q0] | rw [go_q1] | rw [go_q2] | rw [go_q3] | rw [go_q4] | rw [go_q5] | rw [go_q7]); rw [if_pos h]), (fun h => by cases h)⟩
  rw [if_neg h]
  have L := loop_dr s c 6 [] k tw rfl (by omega)
  by_cases h1 : lwr (nextB s k)
  · have e : dr s k (.q2 c) = dr s k (.q7 c 0) := by
      rw [dr_step' (q' := .q3 c 0) (by (first | rw [go_q0] | rw [go_q1] | rw [go_q2] | rw [go_q3] | rw [go_q4] | rw [go_q5] | rw [go_q7]); rw [if_neg h, if_pos h1]), dr_step' (q := .q7 c 0) (q' := .q3 c 0) (by (first | rw [go_q0] | rw [go_q1] | rw [go_q2] | rw [go_q3] | rw [go_q4] | rw [go_q5] | rw [go_q7]); rw [if_pos h1])]
    rw [e]; exact L
  · have h1' : nextB s k < 97 ∨ 122 < nextB s k := by simp only [lwr] at h1; omega
    have e : rdLoop s 6 [] k tw = ⟨false, k, tw, []⟩ := by
      have e1 : rdField s [] k tw = ⟨false, k, tw, 0, 0⟩ := by simp only [rdField]; rw [if_pos h1']
      rw [rdLoop, e1]; rfl
    rw [e]
    exact ⟨(fun h => by cases h), fun _ => ⟨.q2 c, dr_stop (by (first | rw [go_q0] | rw [go_q1] | rw [go_q2] | rw [go_q3] | rw [go_q4] | rw [go_q5] | rw [go_q7]); rw [if_neg h, if_neg h1]), rfl⟩⟩

theorem class_dr (s : ByteArray) (ls : List Int) (c k : Nat) (tw : Int) (hc : c < 6) :
    ((rdClass s ls k tw).ok = true → dr s k (.q0 c) = dr s (rdClass s ls k tw).at_ (.q0 (c + 1))) ∧
    ((rdClass s ls k tw).ok = false → (∃ q, dr s k (.q0 c) = ((rdClass s ls k tw).at_, q) ∧ q.acc = false) ∨ (dr s k (.q0 c) = (k, .q0 c) ∧ (rdClass s ls k tw).at_ = k)) := by
  simp only [rdClass]
  by_cases h0 : nextB s k < 65 ∨ 90 < nextB s k
  · rw [if_pos h0]
    exact ⟨(fun h => by cases h), fun _ => .inr ⟨dr_stop (by (first | rw [go_q0] | rw [go_q1] | rw [go_q2] | rw [go_q3] | rw [go_q4] | rw [go_q5] | rw [go_q7]); rw [if_neg]; rintro ⟨_, h1, h2⟩; omega), rfl⟩⟩
  rw [if_neg h0]
  have s1 : dr s k (.q0 c) = dr s (k + 1) (.q1 c) := dr_step' (by (first | rw [go_q0] | rw [go_q1] | rw [go_q2] | rw [go_q3] | rw [go_q4] | rw [go_q5] | rw [go_q7]); rw [if_pos ⟨hc, by omega, by omega⟩])
  by_cases h1 : nextB s (k + 1) = 123
  · rw [if_pos h1]
    have s2 : dr s (k + 1) (.q1 c) = dr s (k + 2) (.q2 c) := dr_step' (by (first | rw [go_q0] | rw [go_q1] | rw [go_q2] | rw [go_q3] | rw [go_q4] | rw [go_q5] | rw [go_q7]); rw [if_pos h1])
    have L := fields_dr s c (k + 2) (if ls.any (fun p => p == nextB s k) = true then noteI tw k else tw)
    generalize rdFields s (k + 2) (if ls.any (fun p => p == nextB s k) = true then noteI tw k else tw) = r at L ⊢
    by_cases h2 : r.ok = true
    · rw [if_pos h2, s1, s2]
      exact ⟨fun _ => L.1 h2, (fun h => by cases h)⟩
    · rw [if_neg h2, s1, s2]
      exact ⟨(fun h => by cases h), fun _ => .inl (L.2 (by simpa using h2))⟩
  · rw [if_neg h1, s1]
    exact ⟨(fun h => by cases h), fun _ => .inl ⟨.q1 c, dr_stop (by (first | rw [go_q0] | rw [go_q1] | rw [go_q2] | rw [go_q3] | rw [go_q4] | rw [go_q5] | rw [go_q7]); rw [if_neg h1]), rfl⟩⟩

theorem field_at (s : ByteArray) (fs : List (Int × Int)) (k : Nat) (tw : Int) (h : (rdField s fs k tw).ok = true) :
    97 ≤ nextB s k ∧ nextB s k ≤ 122 ∧ nextB s (k + 1) = 58 ∧ isKindB (nextB s (k + 2)) = true ∧ rdField s fs k tw = ⟨true, k + 3, if 0 ≤ idxF fs (nextB s k) then noteI tw k else tw, nextB s k, nextB s (k + 2)⟩ := by
  by_cases h0 : nextB s k < 97 ∨ 122 < nextB s k
  · have e : rdField s fs k tw = ⟨false, k, tw, 0, 0⟩ := by simp only [rdField]; rw [if_pos h0]
    rw [e] at h; cases h
  by_cases h1 : nextB s (k + 1) = 58
  · by_cases h2 : isKindB (nextB s (k + 2)) = true
    · exact ⟨by omega, by omega, h1, h2, by simp only [rdField]; rw [if_neg h0, if_pos h1, if_pos h2]⟩
    · have e : rdField s fs k tw = ⟨false, k + 2, if 0 ≤ idxF fs (nextB s k) then noteI tw k else tw, 0, 0⟩ := by
        simp only [rdField]; rw [if_neg h0, if_pos h1, if_neg h2]
      rw [e] at h; cases h
  · have e : rdField s fs k tw = ⟨false, k + 1, if 0 ≤ idxF fs (nextB s k) then noteI tw k else tw, 0, 0⟩ := by
      simp only [rdField]; rw [if_neg h0, if_neg h1]
    rw [e] at h; cases h
theorem field_is (s : ByteArray) (fs : List (Int × Int)) (k : Nat) (tw : Int) (h0 : 97 ≤ nextB s k) (h1 : nextB s k ≤ 122) (h2 : nextB s (k + 1) = 58) (h3 : isKindB (nextB s (k + 2)) = true) : (rdField s fs k tw).ok = true := by
  simp only [rdField]; rw [if_neg (by omega), if_pos h2, if_pos h3]

theorem loop_end (s : ByteArray) : ∀ n fs k tw, (rdLoop s n fs k tw).ok = true → ∃ j, k ≤ j ∧ j < s.size ∧ nextB s j = 125 ∧ (rdLoop s n fs k tw).at_ = j + 1 := by
  intro n
  induction n with
  | zero => intro fs k tw h; simp [rdLoop] at h
  | succ n ih =>
    intro fs k tw h
    rw [rdLoop] at h ⊢
    by_cases h0 : (rdField s fs k tw).ok = false
    · rw [if_pos h0] at h; cases h
    have ha : (rdField s fs k tw).at_ = k + 3 := by rw [(field_at s fs k tw (by simpa using h0)).2.2.2.2]
    generalize rdField s fs k tw = r at h h0 ha ⊢
    rw [if_neg h0] at h ⊢
    by_cases h1 : nextB s r.at_ = 125
    · rw [if_pos h1]; exact ⟨r.at_, by omega, nextB_pos (by omega), h1, rfl⟩
    rw [if_neg h1] at h ⊢
    by_cases h2 : fs.length = 5 ∨ nextB s r.at_ ≠ 44
    · rw [if_pos h2] at h; cases h
    rw [if_neg h2] at h ⊢
    obtain ⟨j, h3, h4, h5, h6⟩ := ih _ _ _ h
    exact ⟨j, by omega, h4, h5, h6⟩
theorem fields_end (s : ByteArray) (k : Nat) (tw : Int) (h : (rdFields s k tw).ok = true) : ∃ j, k ≤ j ∧ j < s.size ∧ nextB s j = 125 ∧ (rdFields s k tw).at_ = j + 1 := by
  simp only [rdFields] at h ⊢
  by_cases h0 : nextB s k = 125
  · rw [if_pos h0]; exact ⟨k, Nat.le_refl _, nextB_pos (by omega), h0, rfl⟩
  · rw [if_neg h0] at h ⊢; exact loop_end s _ _ _ _ h
theorem class_end (s : ByteArray) (ls : List Int) (k : Nat) (tw : Int) (h : (rdClass s ls k tw).ok = true) : ∃ j, k ≤ j ∧ j < s.size ∧ nextB s j = 125 ∧ (rdClass s ls k tw).at_ = j + 1 := by
  simp only [rdClass] at h ⊢
  by_cases h0 : nextB s k < 65 ∨ 90 < nextB s k
  · rw [if_pos h0] at h; cases h
  rw [if_neg h0] at h ⊢
  by_cases h1 : nextB s (k + 1) = 123
  · rw [if_pos h1] at h ⊢
    have L := fields_end s (k + 2) (if ls.any (fun p => p == nextB s k) = true then noteI tw k else tw)
    generalize rdFields s (k + 2) (if ls.any (fun p => p == nextB s k) = true then noteI tw k else tw) = r at h L ⊢
    by_cases h2 : r.ok = true
    · rw [if_pos h2]
      obtain ⟨j, a, b, c, d⟩ := L h2
      exact ⟨j, by omega, b, c, d⟩
    · rw [if_neg h2] at h; cases h
  · rw [if_neg h1] at h; cases h

/-- Read against the states. -/
def accepts (s : ByteArray) : Prop := (dr s 0 (.q0 0)).1 = s.size ∧ (dr s 0 (.q0 0)).2.acc = true

theorem rc_dr (s : ByteArray) : ∀ n cs k tw, cs.length + n = 6 → (k < s.size ∨ cs = []) →
    ((rcLoop s n cs k tw).ok = true → dr s k (.q0 cs.length) = (s.size, .q0 ((rcLoop s n cs k tw).cs.length)) ∧ 0 < (rcLoop s n cs k tw).cs.length) ∧
    ((rcLoop s n cs k tw).ok = false → ∃ q, dr s k (.q0 cs.length) = ((rcLoop s n cs k tw).at_, q) ∧ (q.acc = true → (rcLoop s n cs k tw).at_ < s.size)) := by
  intro n
  induction n with
  | zero =>
    intro cs k tw hl hk
    rw [rcLoop]
    refine ⟨(fun h => by cases h), fun _ => ⟨.q0 cs.length, dr_stop (by (first | rw [go_q0] | rw [go_q1] | rw [go_q2] | rw [go_q3] | rw [go_q4] | rw [go_q5] | rw [go_q7]); rw [if_neg (by omega)]), fun _ => ?_⟩⟩
    rcases hk with h | h
    · exact h
    · subst h; simp at hl
  | succ n ih =>
    intro cs k tw hl hk
    have C := class_dr s (cs.map (·.1)) cs.length k tw (by omega)
    have D := class_end s (cs.map (·.1)) k tw
    rw [rcLoop]
    generalize rdClass s (cs.map (·.1)) k tw = r at C D ⊢
    by_cases h0 : r.ok = false
    · rw [if_pos h0]
      refine ⟨(fun h => by cases h), fun _ => ?_⟩
      rcases C.2 h0 with ⟨q, e, ha⟩ | ⟨e, ea⟩
      · exact ⟨q, e, fun h => by rw [ha] at h; cases h⟩
      · refine ⟨_, by rw [e, ea], fun h => ?_⟩
        rcases hk with h' | h'
        · show r.at_ < s.size; omega
        · subst h'; simp [St.acc, St.q0] at h
    rw [if_neg h0]
    have e1 := C.1 (by simpa using h0)
    by_cases h1 : r.at_ = s.size
    · rw [if_pos h1]
      refine ⟨fun _ => ⟨?_, by simp⟩, (fun h => by cases h)⟩
      rw [e1, dr_end (by omega), h1]; simp
    · rw [if_neg h1]
      obtain ⟨j, _, hj, _, hj'⟩ := D (by simpa using h0)
      have := ih (cs ++ [(r.l, r.fs)]) r.at_ r.tw (by simp; omega) (.inl (by omega))
      rw [e1]
      simpa using this

theorem read_accepts (s : ByteArray) : ((readR s).ok = true ↔ accepts s) ∧ ((readR s).ok = false → (readR s).at_ = (dr s 0 (.q0 0)).1) := by
  have R := rc_dr s 6 [] 0 (-1) rfl (.inr rfl)
  simp only [readR, accepts]
  generalize rcLoop s 6 [] 0 (-1) = r at R ⊢
  cases h : r.ok with
  | true =>
    obtain ⟨e, h0⟩ := R.1 h
    simp only [List.length_nil] at e
    rw [e]
    refine ⟨⟨fun _ => ⟨rfl, ?_⟩, fun _ => rfl⟩, fun h => by cases h⟩
    match hn : r.cs.length, h0 with
    | n + 1, _ => rfl
  | false =>
    obtain ⟨q, e, hq⟩ := R.2 h
    simp only [List.length_nil] at e
    rw [e]
    refine ⟨⟨(fun h => by cases h), fun ⟨h1, h2⟩ => ?_⟩, fun _ => rfl⟩
    have := hq h2
    simp only at h1
    omega

/-- What agrees up to its end goes as far. -/
theorem drN_agree (p s : ByteArray) (hle : p.size ≤ s.size) (hag : ∀ j, j < p.size → nextB p j = nextB s j) : ∀ n i q, i + n = p.size →
    ((dr p i q).1 < p.size → dr s i q = dr p i q) ∧ (¬ (dr p i q).1 < p.size → dr s i q = dr s p.size (dr p i q).2 ∧ (dr p i q).1 = p.size) := by
  intro n
  induction n with
  | zero =>
    intro i q hi
    have : i = p.size := by omega
    subst this
    rw [dr_end (s := p) (by omega)]
    exact ⟨fun h => by simp at h, fun _ => ⟨rfl, rfl⟩⟩
  | succ n ih =>
    intro i q hi
    have hlt : i < p.size := by omega
    cases hg : q.go (nextB p i) with
    | none =>
      rw [dr_stop hg, dr_stop (s := s) (by rw [← hag i hlt]; exact hg)]
      exact ⟨fun _ => rfl, fun h => absurd hlt h⟩
    | some q' =>
      rw [dr_step hlt hg, dr_step (s := s) (by omega) (by rw [← hag i hlt]; exact hg)]
      exact ih (i + 1) q' (by omega)
theorem dr_agree (p s : ByteArray) (hle : p.size ≤ s.size) (hag : ∀ j, j < p.size → nextB p j = nextB s j) (q : St) :
    ((dr p 0 q).1 < p.size → dr s 0 q = dr p 0 q) ∧ (¬ (dr p 0 q).1 < p.size → dr s 0 q = dr s p.size (dr p 0 q).2 ∧ (dr p 0 q).1 = p.size) :=
  drN_agree p s hle hag p.size 0 q (by omega)
theorem drN_ge (s : ByteArray) : ∀ n i q, i + n = s.size → i ≤ (dr s i q).1 ∧ (dr s i q).1 ≤ s.size := by
  intro n
  induction n with
  | zero => intro i q hi; rw [dr_end (by omega)]; exact ⟨Nat.le_refl _, by simp; omega⟩
  | succ n ih =>
    intro i q hi
    cases hg : q.go (nextB s i) with
    | none => rw [dr_stop hg]; exact ⟨Nat.le_refl _, by simp; omega⟩
    | some q' =>
      rw [dr_step (by omega) hg]
      have := ih (i + 1) q' (by omega)
      omega
theorem dr_ge (s : ByteArray) (i : Nat) (q : St) (hi : i ≤ s.size) : i ≤ (dr s i q).1 ∧ (dr s i q).1 ≤ s.size := drN_ge s (s.size - i) i q (by omega)

/-- A text that goes on to a whole one has come to its end. -/
theorem ahead_of_accepts {p e : ByteArray} (h : accepts (p ++ e)) : (dr p 0 (.q0 0)).1 = p.size := by
  have hs : (p ++ e).size = p.size + e.size := ByteArray.size_append
  have A := dr_agree p (p ++ e) (by omega) (fun j hj => (nextB_app_left p e j hj).symm) (.q0 0)
  by_cases hlt : (dr p 0 (.q0 0)).1 < p.size
  · have := A.1 hlt
    have h1 := h.1
    rw [this] at h1; omega
  · exact (A.2 hlt).2

theorem goes_on {p : ByteArray} (q : St) (e : ByteArray) (h : dr p 0 (.q0 0) = (p.size, q)) : dr (p ++ e) 0 (.q0 0) = dr (p ++ e) p.size q := by
  have hs : (p ++ e).size = p.size + e.size := ByteArray.size_append
  have A := dr_agree p (p ++ e) (by omega) (fun j hj => (nextB_app_left p e j hj).symm) (.q0 0)
  have := A.2 (by rw [h]; simp)
  rw [h] at this
  exact this.1

theorem app_step' {p e : ByteArray} (i : Nat) {q q' : St} (h : q.go (nextB e i) = some q') : dr (p ++ e) (p.size + i) q = dr (p ++ e) (p.size + (i + 1)) q' :=
  dr_step' (by rw [nextB_app_right]; exact h)

theorem begins_of_ahead {p : ByteArray} (h : (dr p 0 (.q0 0)).1 = p.size) : ∃ j, j < 7 ∧ accepts (p ++ E j) := by
  obtain ⟨q, hq⟩ : ∃ q, dr p 0 (.q0 0) = (p.size, q) := ⟨(dr p 0 (.q0 0)).2, by rw [← h]⟩
  have fin : ∀ (j c : Nat), dr (p ++ E j) 0 (.q0 0) = dr (p ++ E j) (p.size + (E j).size) (.q0 (c + 1)) → accepts (p ++ E j) := by
    intro j c e
    have hs : (p ++ E j).size = p.size + (E j).size := ByteArray.size_append
    rw [dr_end (s := p ++ E j) (i := p.size + (E j).size) (q := .q0 (c + 1)) (by omega)] at e
    exact ⟨by rw [e, hs], by rw [e]; rfl⟩
  obtain ⟨k, c, f⟩ := q
  match k, c, hq with
  | 0, 0, hq =>
    refine ⟨1, by omega, fin 1 0 ?_⟩
    rw [goes_on _ _ hq, show p.size = p.size + 0 from rfl, app_step' 0 (q' := .q1 0) rfl, app_step' 1 (q' := .q2 0) rfl, app_step' 2 (q' := .q0 1) rfl]
    rfl
  | 0, c + 1, hq =>
    refine ⟨0, by omega, ?_⟩
    have e := goes_on _ (E 0) hq
    have hs : (p ++ E 0).size = p.size + (E 0).size := ByteArray.size_append
    have h0 : (E 0).size = 0 := rfl
    rw [dr_end (s := p ++ E 0) (i := p.size) (by omega)] at e
    exact ⟨by rw [e, hs, h0]; rfl, by rw [e]; simp [St.acc]⟩
  | 1, c, hq =>
    refine ⟨2, by omega, fin 2 c ?_⟩
    rw [goes_on _ _ hq, show p.size = p.size + 0 from rfl, app_step' 0 (q' := .q2 c) rfl, app_step' 1 (q' := .q0 (c + 1)) rfl]
    rfl
  | 2, c, hq =>
    refine ⟨6, by omega, fin 6 c ?_⟩
    rw [goes_on _ _ hq, show p.size = p.size + 0 from rfl, app_step' 0 (q' := .q0 (c + 1)) rfl]
    rfl
  | 3, c, hq =>
    refine ⟨4, by omega, fin 4 c ?_⟩
    rw [goes_on _ _ hq, show p.size = p.size + 0 from rfl, app_step' 0 (q' := .q4 c f) rfl, app_step' 1 (q' := .q5 c (f + 1)) rfl, app_step' 2 (q' := .q0 (c + 1)) rfl]
    rfl
  | 4, c, hq =>
    refine ⟨5, by omega, fin 5 c ?_⟩
    rw [goes_on _ _ hq, show p.size = p.size + 0 from rfl, app_step' 0 (q' := .q5 c (f + 1)) rfl, app_step' 1 (q' := .q0 (c + 1)) rfl]
    rfl
  | 5, c, hq =>
    refine ⟨6, by omega, fin 6 c ?_⟩
    rw [goes_on _ _ hq, show p.size = p.size + 0 from rfl, app_step' 0 (q' := .q0 (c + 1)) rfl]
    rfl
  | n + 6, c, hq =>
    refine ⟨3, by omega, fin 3 c ?_⟩
    rw [goes_on _ _ hq, show p.size = p.size + 0 from rfl, app_step' 0 (q' := .q3 c f) rfl, app_step' 1 (q' := .q4 c f) rfl, app_step' 2 (q' := .q5 c (f + 1)) rfl, app_step' 3 (q' := .q0 (c + 1)) rfl]
    rfl
end Go.Proofs.YtbgilndohccicaaGreatDoor
namespace Go.Proofs.YtbgilndohccicaaGreatDoor
open Go.RowKit

def Nf (l : List GF) (j : Nat) : Int := (l[j]?.getD noGF).n
def Pf (l : List GF) (j : Nat) : Int := (l[j]?.getD noGF).p
def DF (l : List GF) (p : Int) : Prop := VXs (Nf l) (Pf l) l.length p
def Nc (cs : List GC) (j : Nat) : Int := (cs[j]?.getD noGC).n
def Pc (cs : List GC) (j : Nat) : Int := ((cs[j]?.getD noGC).p : Int)

theorem VX_congr {N P N' P' : Nat → Int} {i k : Nat} {p : Int} (h : N i = N' i ∧ P i = P' i) (h' : ∀ j, j < k → N j = N' j) : VX N P i k p ↔ VX N' P' i k p := by
  constructor
  · rintro ⟨j, h1, h2, h3⟩; exact ⟨j, h1, by rw [← h.1, ← h' j h1]; exact h2, by rw [← h.2]; exact h3⟩
  · rintro ⟨j, h1, h2, h3⟩; exact ⟨j, h1, by rw [h.1, h' j h1]; exact h2, by rw [h.2]; exact h3⟩
theorem VXs_congr {N P N' P' : Nat → Int} {n : Nat} {p : Int} (h : ∀ j, j < n → N j = N' j ∧ P j = P' j) : VXs N P n p ↔ VXs N' P' n p := by
  constructor
  · rintro ⟨j, h1, h2⟩; exact ⟨j, h1, (VX_congr (h j h1) (fun i hi => (h i (by omega)).1)).1 h2⟩
  · rintro ⟨j, h1, h2⟩; exact ⟨j, h1, (VX_congr (h j h1) (fun i hi => (h i (by omega)).1)).2 h2⟩

theorem get_snoc_lt {α : Type} (l : List α) (x d : α) (j : Nat) (h : j < l.length) : (l ++ [x])[j]?.getD d = l[j]?.getD d := by rw [List.getElem?_append_left h]
theorem get_snoc_len {α : Type} (l : List α) (x d : α) : (l ++ [x])[l.length]?.getD d = x := by simp

theorem DF_nil (p : Int) : ¬ DF [] p := fun ⟨_, h, _⟩ => by simp at h
theorem DF_snoc (l : List GF) (f : GF) (p : Int) : DF (l ++ [f]) p ↔ DF l p ∨ ((∃ g ∈ l, g.n = f.n) ∧ p = f.p) := by
  have e : (l ++ [f]).length = l.length + 1 := by simp
  have c : VXs (Nf (l ++ [f])) (Pf (l ++ [f])) l.length p ↔ DF l p := VXs_congr fun j hj => ⟨by simp only [Nf]; rw [get_snoc_lt _ _ _ _ hj], by simp only [Pf]; rw [get_snoc_lt _ _ _ _ hj]⟩
  unfold DF
  rw [e, VXs_succ, c]
  refine or_congr Iff.rfl ?_
  constructor
  · rintro ⟨k, hk, h1, h2⟩
    simp only [Nf, Pf] at h1 h2
    rw [get_snoc_len] at h1 h2
    rw [get_snoc_lt _ _ _ _ hk] at h1
    exact ⟨⟨l[k], List.getElem_mem hk, by rw [List.getElem?_eq_getElem hk] at h1; exact h1.symm⟩, h2⟩
  · rintro ⟨⟨g, hg, h1⟩, h2⟩
    obtain ⟨k, hk, rfl⟩ := List.getElem_of_mem hg
    refine ⟨k, hk, ?_, ?_⟩
    · simp only [Nf]; rw [get_snoc_len, get_snoc_lt _ _ _ _ hk, List.getElem?_eq_getElem hk]; exact h1.symm
    · simp only [Pf]; rw [get_snoc_len]; exact h2

theorem Rep_nil (p : Int) : ¬ Rep [] p := fun ⟨_, h, _⟩ => by simp at h
theorem Rep_snoc (cs : List GC) (c : GC) (p : Int) : Rep (cs ++ [c]) p ↔ (Rep cs p ∨ ((∃ g ∈ cs, g.n = c.n) ∧ p = c.p)) ∨ DF c.l p := by
  have e : (cs ++ [c]).length = cs.length + 1 := by simp
  unfold Rep
  rw [e, VCs_succ]
  refine or_congr (or_congr ?_ ?_) ?_
  · constructor
    · rintro ⟨i, hi, h⟩
      refine ⟨i, hi, ?_⟩
      rcases h with h | h
      · exact .inl ((VX_congr ⟨by rw [get_snoc_lt _ _ _ _ hi], by rw [get_snoc_lt _ _ _ _ hi]⟩ (fun j hj => by rw [get_snoc_lt _ _ _ _ (by omega)])).1 h)
      · right; simpa only [get_snoc_lt _ _ _ _ hi] using h
    · rintro ⟨i, hi, h⟩
      refine ⟨i, hi, ?_⟩
      rcases h with h | h
      · exact .inl ((VX_congr ⟨by rw [get_snoc_lt _ _ _ _ hi], by rw [get_snoc_lt _ _ _ _ hi]⟩ (fun j hj => by rw [get_snoc_lt _ _ _ _ (by omega)])).2 h)
      · right; simpa only [get_snoc_lt _ _ _ _ hi] using h
  · constructor
    · rintro ⟨k, hk, h1, h2⟩
      simp only [get_snoc_len] at h1 h2
      rw [get_snoc_lt _ _ _ _ hk, List.getElem?_eq_getElem hk] at h1
      exact ⟨⟨cs[k], List.getElem_mem hk, h1.symm⟩, h2⟩
    · rintro ⟨⟨g, hg, h1⟩, h2⟩
      obtain ⟨k, hk, rfl⟩ := List.getElem_of_mem hg
      refine ⟨k, hk, ?_, ?_⟩
      · simp only [get_snoc_len]; rw [get_snoc_lt _ _ _ _ hk, List.getElem?_eq_getElem hk]; exact h1.symm
      · simp only [get_snoc_len]; exact h2
  · simp only [get_snoc_len]; exact Iff.rfl

/-- A place behind all others is noted, or the note stays. -/
theorem Least.note {V : Int → Prop} {tw : Int} {k : Nat} (h : Least V tw) (hb : ∀ p, V p → p < k) : Least (fun p => V p ∨ p = k) (noteI tw k) := by
  simp only [noteI]
  rcases h with ⟨h1, h2⟩ | ⟨h1, h2, h3⟩
  · rw [if_pos h1]
    exact .inr ⟨by omega, .inr rfl, fun p hp => by rcases hp with hp | hp; exact absurd hp (h2 p); omega⟩
  · rw [if_neg (by omega)]
    exact .inr ⟨h1, .inl h2, fun p hp => by rcases hp with hp | hp; exact h3 p hp; have := hb tw h2; omega⟩
theorem Least.noteIf {V : Int → Prop} {tw : Int} {k : Nat} {c : Prop} [Decidable c] (h : Least V tw) (hb : ∀ p, V p → p < k) : Least (fun p => V p ∨ (c ∧ p = k)) (if c then noteI tw k else tw) := by
  by_cases hc : c
  · rw [if_pos hc]; exact (h.note hb).congr fun p => by simp [hc]
  · rw [if_neg hc]; exact h.congr fun p => by simp [hc]

theorem idxF_iff (fs : List (Int × Int)) (x : Int) : 0 ≤ idxF fs x ↔ ∃ f ∈ fs, f.1 = x := by
  simp only [idxF]
  cases h : fs.findIdx? (fun p => p.1 == x) with
  | none =>
    rw [List.findIdx?_eq_none_iff] at h
    constructor
    · intro h'; simp at h'
    · rintro ⟨f, hf, rfl⟩; have := h f hf; simp at this
  | some i =>
    rw [List.findIdx?_eq_some_iff_getElem] at h
    obtain ⟨hi, h1, _⟩ := h
    constructor
    · intro _; exact ⟨fs[i], List.getElem_mem hi, by simpa using h1⟩
    · intro _; simp

theorem gf_jump (t : ByteArray) (p : Int) (fr : Nat) (l : List GF) : ∀ d i, (∀ j, i ≤ j → j < i + d → j < t.size ∧ nextB t j ≠ 44) → gfLoop t p (t.size + 1 - i) i fr l = gfLoop t p (t.size + 1 - (i + d)) (i + d) fr l := by
  intro d
  induction d with
  | zero => intro i _; rfl
  | succ d ih =>
    intro i h
    have h0 := h i (Nat.le_refl _) (by omega)
    have e : t.size + 1 - i = (t.size + 1 - (i + 1)) + 1 := by omega
    rw [e, gfLoop, if_pos h0, ih (i + 1) (fun j h1 h2 => h j (by omega) (by omega))]
    congr 1 <;> omega
theorem gf_at (t : ByteArray) (p : Int) (fr c : Nat) (l : List GF) (hc : c ≤ t.size) (h : c < t.size → nextB t c = 44) :
    gfLoop t p (t.size + 1 - c) c fr l = if fieldB (t.extract fr c) = false ∨ l.length = 6 then none else gfLoop t p (t.size + 1 - (c + 1)) (c + 1) (c + 1) (l ++ [⟨nextB (t.extract fr c) 0, nextB (t.extract fr c) 2, p + fr⟩]) := by
  have e : t.size + 1 - c = (t.size + 1 - (c + 1)) + 1 := by omega
  rw [e, gfLoop, if_neg (fun h' => h'.2 (h h'.1))]
theorem next_comma (t : ByteArray) : ∀ n fr, fr + n = t.size → ∃ c, fr ≤ c ∧ c ≤ t.size ∧ (∀ j, fr ≤ j → j < c → nextB t j ≠ 44) ∧ (c < t.size → nextB t c = 44) := by
  intro n
  induction n with
  | zero => intro fr h; exact ⟨fr, Nat.le_refl _, by omega, fun j h1 h2 => by omega, fun h' => by omega⟩
  | succ n ih =>
    intro fr h
    by_cases h0 : nextB t fr = 44
    · exact ⟨fr, Nat.le_refl _, by omega, fun j h1 h2 => by omega, fun _ => h0⟩
    · obtain ⟨c, h1, h2, h3, h4⟩ := ih (fr + 1) (by omega)
      refine ⟨c, by omega, h2, fun j hj1 hj2 => ?_, h4⟩
      rcases Nat.eq_or_lt_of_le hj1 with rfl | h'
      · exact h0
      · exact h3 j h' hj2
theorem gf_from (t : ByteArray) (p : Int) (fr c : Nat) (l : List GF) (h1 : fr ≤ c) (h2 : c ≤ t.size) (h3 : ∀ j, fr ≤ j → j < c → nextB t j ≠ 44) (h4 : c < t.size → nextB t c = 44) :
    gfLoop t p (t.size + 1 - fr) fr fr l = if fieldB (t.extract fr c) = false ∨ l.length = 6 then none else gfLoop t p (t.size + 1 - (c + 1)) (c + 1) (c + 1) (l ++ [⟨nextB (t.extract fr c) 0, nextB (t.extract fr c) 2, p + fr⟩]) := by
  have := gf_jump t p fr l (c - fr) fr (fun j a b => ⟨by omega, h3 j a (by omega)⟩)
  rw [this, show fr + (c - fr) = c by omega]
  exact gf_at t p fr c l h2 h4

theorem fieldB_iff (t : ByteArray) (fr c : Nat) (hc : c ≤ t.size) : fieldB (t.extract fr c) = true ↔ c = fr + 3 ∧ 97 ≤ nextB t fr ∧ nextB t fr ≤ 122 ∧ nextB t (fr + 1) = 58 ∧ isKindB (nextB t (fr + 2)) = true := by
  have hsz : (t.extract fr c).size = min c t.size - fr := ByteArray.size_extract
  simp only [fieldB, Bool.and_eq_true, decide_eq_true_eq, nextB_extract t fr c _ hc]
  constructor
  · rintro ⟨⟨⟨⟨h1, h2⟩, h3⟩, h4⟩, h5⟩
    have e : c = fr + 3 := by omega
    rw [if_pos (by omega)] at h2 h3 h4 h5
    exact ⟨e, h2, h3, h4, h5⟩
  · rintro ⟨rfl, h2, h3, h4, h5⟩
    rw [if_pos (by omega), if_pos (by omega), if_pos (by omega)]
    exact ⟨⟨⟨⟨by omega, h2⟩, h3⟩, h4⟩, h5⟩

/-- A field's pair as the program has it. -/
def gk (f : GF) : Int × Int := (f.n, f.k)

/-- The two loops over the fields of one class: it closes at m. -/
theorem fields_meet (s t : ByteArray) (a m : Nat) (hm : m < s.size) (hm125 : nextB s m = 125) (hno : ∀ j, a ≤ j → j < m → nextB s j ≠ 125) (ham : a ≤ m) (hts : t.size = m - a) (htn : ∀ j, j < t.size → nextB t j = nextB s (a + j)) (A : Int → Prop) :
    ∀ n fr l tw, l.length + n = 6 → 0 < n → fr ≤ t.size → Least (fun p => A p ∨ DF l p) tw → (∀ p, A p ∨ DF l p → p < (a + fr : Nat)) →
      ((rdLoop s n (l.map gk) (a + fr) tw).ok = false ∧ gfLoop t a (t.size + 1 - fr) fr fr l = none) ∨
      (∃ l', (rdLoop s n (l.map gk) (a + fr) tw).ok = true ∧ gfLoop t a (t.size + 1 - fr) fr fr l = some l' ∧ (rdLoop s n (l.map gk) (a + fr) tw).at_ = m + 1 ∧ (rdLoop s n (l.map gk) (a + fr) tw).fs = l'.map gk ∧
        Least (fun p => A p ∨ DF l' p) (rdLoop s n (l.map gk) (a + fr) tw).tw ∧ (∀ p, A p ∨ DF l' p → p < (m : Nat))) := by
  intro n
  induction n with
  | zero => intro fr l tw _ h; omega
  | succ n ih =>
    intro fr l tw hl _ hfr hL hB
    obtain ⟨c, c1, c2, c3, c4⟩ := next_comma t (t.size - fr) fr (by omega)
    have G := gf_from t a fr c l c1 c2 c3 c4
    have FB := fieldB_iff t fr c c2
    rw [rdLoop]
    by_cases h0 : (rdField s (l.map gk) (a + fr) tw).ok = false
    · rw [if_pos h0]
      refine .inl ⟨rfl, ?_⟩
      suffices hfalse : fieldB (t.extract fr c) = false by rw [G, if_pos (.inl hfalse)]
      cases hf : fieldB (t.extract fr c) with
      | false => rfl
      | true =>
        obtain ⟨rfl, f1, f2, f3, f4⟩ := FB.1 hf
        rw [htn fr (by omega)] at f1 f2
        rw [htn (fr + 1) (by omega)] at f3
        rw [htn (fr + 2) (by omega)] at f4
        rw [field_is s (l.map gk) (a + fr) tw f1 f2 (by rw [← f3]; congr 1) (by rw [← f4]; congr 2)] at h0
        cases h0
    rw [if_neg h0]
    obtain ⟨f1, f2, f3, f4, fe⟩ := field_at s (l.map gk) (a + fr) tw (by simpa using h0)
    rw [fe]
    simp only []
    have k1 : isKindB (nextB s (a + fr + 2)) = true := f4
    have kd := isKindB_pos f4
    have kne : nextB s (a + fr + 2) ≠ 125 ∧ nextB s (a + fr + 2) ≠ 44 := by
      constructor <;> (intro h; rw [h] at k1; simp [isKindB] at k1)
    have hq : a + fr + 3 ≤ m := by
      rcases Nat.lt_or_ge m (a + fr + 3) with h | h
      · have hm' : a + fr ≤ m := by omega
        have : m = a + fr ∨ m = a + fr + 1 ∨ m = a + fr + 2 := by omega
        rcases this with rfl | rfl | rfl
        · omega
        · omega
        · exact absurd hm125 kne.1
      · exact h
    have t0 : nextB t fr = nextB s (a + fr) := htn fr (by omega)
    have t1 : nextB t (fr + 1) = nextB s (a + fr + 1) := htn (fr + 1) (by omega)
    have t2 : nextB t (fr + 2) = nextB s (a + fr + 2) := htn (fr + 2) (by omega)
    have hc3 : fr + 3 ≤ c := by
      rcases Nat.lt_or_ge c (fr + 3) with h | h
      · have hct : c < t.size := by omega
        have := c4 hct
        have h' : c = fr ∨ c = fr + 1 ∨ c = fr + 2 := by omega
        rcases h' with rfl | rfl | rfl
        · omega
        · omega
        · rw [t2] at this; exact absurd this kne.2
      · exact h
    have hstep : Least (fun p => A p ∨ DF (l ++ [⟨nextB s (a + fr), nextB s (a + fr + 2), ((a + fr : Nat) : Int)⟩]) p) (if 0 ≤ idxF (l.map gk) (nextB s (a + fr)) then noteI tw (a + fr) else tw) := by
      refine (hL.noteIf (c := 0 ≤ idxF (l.map gk) (nextB s (a + fr))) hB).congr fun p => ?_
      rw [DF_snoc, idxF_iff]
      simp only [List.mem_map, gk]
      constructor
      · rintro ((h | h) | ⟨⟨_, ⟨g, hg, rfl⟩, h1⟩, h2⟩)
        · exact .inl h
        · exact .inr (.inl h)
        · exact .inr (.inr ⟨⟨g, hg, h1⟩, h2⟩)
      · rintro (h | h | ⟨⟨g, hg, h1⟩, h2⟩)
        · exact .inl (.inl h)
        · exact .inl (.inr h)
        · exact .inr ⟨⟨_, ⟨g, hg, rfl⟩, h1⟩, h2⟩
    have hB' : ∀ p, A p ∨ DF (l ++ [⟨nextB s (a + fr), nextB s (a + fr + 2), ((a + fr : Nat) : Int)⟩]) p → p < (a + fr + 1 : Nat) := by
      intro p hp
      rw [DF_snoc] at hp
      rcases hp with h | h | ⟨_, h⟩
      · have := hB p (.inl h); omega
      · have := hB p (.inr h); omega
      · simp only at h; omega
    have hl6 : ¬ l.length = 6 := by omega
    by_cases h125 : nextB s (a + fr + 3) = 125
    · have hme : a + fr + 3 = m := by
        rcases Nat.lt_or_ge (a + fr + 3) m with h | h
        · exact absurd h125 (hno _ (by omega) h)
        · omega
      have hce : c = fr + 3 := by omega
      subst hce
      have hfb : fieldB (t.extract fr (fr + 3)) = true := FB.2 ⟨rfl, by rw [t0]; exact f1, by rw [t0]; exact f2, by rw [t1]; exact f3, by rw [t2]; exact f4⟩
      rw [if_pos h125]
      refine .inr ⟨l ++ [⟨nextB s (a + fr), nextB s (a + fr + 2), ((a + fr : Nat) : Int)⟩], rfl, ?_, by simp only []; omega, by simp [gk], hstep, fun p hp => by have := hB' p hp; omega⟩
      rw [G, if_neg (by rw [hfb]; simp [hl6])]
      have : t.size + 1 - (fr + 3 + 1) = 0 := by omega
      rw [this, gfLoop, nextB_extract t fr (fr + 3) 0 c2, nextB_extract t fr (fr + 3) 2 c2, if_pos (by omega), if_pos (by omega)]
      simp only [Nat.add_zero, t0, t2]
      simp
    rw [if_neg h125]
    have hmlt : a + fr + 3 < m := by
      rcases Nat.lt_or_ge (a + fr + 3) m with h | h
      · exact h
      · have : a + fr + 3 = m := by omega
        rw [this] at h125; exact absurd hm125 h125
    have t3 : nextB t (fr + 3) = nextB s (a + fr + 3) := htn (fr + 3) (by omega)
    by_cases h44 : nextB s (a + fr + 3) = 44
    · have hce : c = fr + 3 := by
        rcases Nat.lt_or_ge (fr + 3) c with h | h
        · exact absurd (by rw [t3]; exact h44) (c3 (fr + 3) (by omega) h)
        · omega
      subst hce
      have hfb : fieldB (t.extract fr (fr + 3)) = true := FB.2 ⟨rfl, by rw [t0]; exact f1, by rw [t0]; exact f2, by rw [t1]; exact f3, by rw [t2]; exact f4⟩
      rw [if_neg (show ¬ (fieldB (t.extract fr (fr + 3)) = false ∨ l.length = 6) by rw [hfb]; simp [hl6]), nextB_extract t fr (fr + 3) 0 c2, nextB_extract t fr (fr + 3) 2 c2, if_pos (by omega), if_pos (by omega)] at G
      simp only [Nat.add_zero, t0, t2] at G
      rw [G]
      have hcast : (a : Int) + (fr : Int) = ((a + fr : Nat) : Int) := by omega
      rw [hcast]
      by_cases h5 : l.length = 5
      · simp only [List.length_map]
        rw [if_pos (.inl h5)]
        refine .inl ⟨rfl, ?_⟩
        obtain ⟨d, d1, d2, d3, d4⟩ := next_comma t (t.size - (fr + 3 + 1)) (fr + 3 + 1) (by omega)
        rw [gf_from t a (fr + 3 + 1) d _ d1 d2 d3 d4, if_pos (.inr (by simp; omega))]
      · simp only [List.length_map]
        rw [if_neg (by simp [h5, h44])]
        have := ih (fr + 3 + 1) (l ++ [⟨nextB s (a + fr), nextB s (a + fr + 2), ((a + fr : Nat) : Int)⟩]) _ (by simp; omega) (by omega) (by omega) hstep (fun p hp => by have := hB' p hp; omega)
        rw [show a + (fr + 3 + 1) = a + fr + 3 + 1 by omega] at this
        simpa [gk] using this
    · simp only [List.length_map]
      rw [if_pos (.inr h44)]
      refine .inl ⟨rfl, ?_⟩
      suffices hfalse : fieldB (t.extract fr c) = false by rw [G, if_pos (.inl hfalse)]
      cases hf : fieldB (t.extract fr c) with
      | false => rfl
      | true =>
        obtain ⟨hce, _⟩ := FB.1 hf
        subst hce
        have := c4 (by omega)
        rw [t3] at this
        exact absurd this h44
end Go.Proofs.YtbgilndohccicaaGreatDoor
namespace Go.Proofs.YtbgilndohccicaaGreatDoor
open Go.RowKit

theorem class_meet (s : ByteArray) (k m : Nat) (hm : m < s.size) (hkm : k ≤ m) (hm125 : nextB s m = 125) (hno : ∀ j, k ≤ j → j < m → nextB s j ≠ 125) (cs : List GC) (tw : Int) (hL : Least (Rep cs) tw) (hB : ∀ p, Rep cs p → p < (k : Nat)) :
    ((rdClass s (cs.map (·.n)) k tw).ok = false ∧ gfClass (s.extract k m) k = none) ∨
    (∃ r : Int × List GF, (rdClass s (cs.map (·.n)) k tw).ok = true ∧ gfClass (s.extract k m) k = some r ∧ (rdClass s (cs.map (·.n)) k tw).at_ = m + 1 ∧ (rdClass s (cs.map (·.n)) k tw).l = r.1 ∧ (rdClass s (cs.map (·.n)) k tw).fs = r.2.map gk ∧
      Least (Rep (cs ++ [⟨r.1, k, r.2⟩])) (rdClass s (cs.map (·.n)) k tw).tw ∧ (∀ p, Rep (cs ++ [⟨r.1, k, r.2⟩]) p → p < (m : Nat))) := by
  have hu0 := nextB_extract s k m 0 (by omega)
  have hu1 := nextB_extract s k m 1 (by omega)
  simp only [Nat.add_zero] at hu0
  simp only [rdClass]
  by_cases h0 : nextB s k < 65 ∨ 90 < nextB s k
  · rw [if_pos h0]
    refine .inl ⟨rfl, gfClass_letter ?_⟩
    rintro ⟨h1, h2⟩
    rw [hu0] at h1 h2
    split at h1 <;> simp_all <;> omega
  rw [if_neg h0]
  have hk : k < m := by
    rcases Nat.eq_or_lt_of_le hkm with rfl | h
    · omega
    · exact h
  rw [if_pos hk] at hu0
  by_cases h1 : nextB s (k + 1) = 123
  · rw [if_pos h1]
    have hk1 : k + 1 < m := by
      rcases Nat.lt_or_ge (k + 1) m with h | h
      · exact h
      · have : k + 1 = m := by omega
        rw [this] at h1; omega
    rw [if_pos hk1] at hu1
    have hA : Least (fun p => Rep cs p ∨ ((∃ g ∈ cs, g.n = nextB s k) ∧ p = k)) (if (cs.map (·.n)).any (fun p => p == nextB s k) = true then noteI tw k else tw) := by
      refine (hL.noteIf (c := (cs.map (·.n)).any (fun p => p == nextB s k) = true) hB).congr fun p => ?_
      simp [List.any_eq_true]
    have hAB : ∀ p, (Rep cs p ∨ ((∃ g ∈ cs, g.n = nextB s k) ∧ p = k)) → p < (k + 2 : Nat) := by
      rintro p (h | ⟨_, h⟩)
      · have := hB p h; omega
      · omega
    generalize (if (cs.map (·.n)).any (fun p => p == nextB s k) = true then noteI tw k else tw) = tw1 at hA ⊢
    have hus : (s.extract k m).size = m - k := by have : (s.extract k m).size = min m s.size - k := ByteArray.size_extract; omega
    have hts : ((s.extract k m).extract 2 (s.extract k m).size).size = m - (k + 2) := by
      have : ((s.extract k m).extract 2 (s.extract k m).size).size = min (s.extract k m).size (s.extract k m).size - 2 := ByteArray.size_extract
      omega
    have htn : ∀ j, j < ((s.extract k m).extract 2 (s.extract k m).size).size → nextB ((s.extract k m).extract 2 (s.extract k m).size) j = nextB s (k + 2 + j) := by
      intro j hj
      rw [nextB_extract (s.extract k m) 2 (s.extract k m).size j (Nat.le_refl _), if_pos (by omega), nextB_extract s k m (2 + j) (by omega), if_pos (by omega), show k + (2 + j) = k + 2 + j by omega]
    have hG : gfClass (s.extract k m) k = (gfFields ((s.extract k m).extract 2 (s.extract k m).size) ((k + 2 : Nat) : Int)).map (fun l => (nextB s k, l)) := by
      simp only [gfClass]
      rw [if_pos ⟨by rw [hu0]; omega, by rw [hu0]; omega, by rw [hu1]; exact h1⟩, hu0, show ((k : Int) + 1 + 1) = ((k + 2 : Nat) : Int) by omega]
    generalize (s.extract k m).extract 2 (s.extract k m).size = t at hts htn hG
    rw [hG]
    by_cases h2 : nextB s (k + 2) = 125
    · have hme : k + 2 = m := by
        rcases Nat.lt_or_ge (k + 2) m with h | h
        · exact absurd h2 (hno _ (by omega) h)
        · omega
      have e1 : rdFields s (k + 2) tw1 = ⟨true, k + 2 + 1, tw1, []⟩ := by simp only [rdFields]; rw [if_pos h2]
      rw [e1, if_pos rfl]
      have e : gfFields t ((k + 2 : Nat) : Int) = some [] := by simp only [gfFields]; rw [if_pos (by omega)]
      rw [e]
      refine .inr ⟨(nextB s k, []), rfl, rfl, by simp only []; omega, rfl, rfl, hA.congr fun p => ?_, fun p hp => ?_⟩
      · rw [Rep_snoc]; simp [DF_nil]
      · rw [Rep_snoc] at hp
        rcases hp with hp | hp
        · have := hAB p (by simpa using hp); omega
        · exact absurd hp (DF_nil p)
    · have hmlt : k + 2 < m := by
        rcases Nat.lt_or_ge (k + 2) m with h | h
        · exact h
        · have : k + 2 = m := by omega
          rw [this] at h2; exact absurd hm125 h2
      have e1 : rdFields s (k + 2) tw1 = rdLoop s 6 [] (k + 2) tw1 := by simp only [rdFields]; rw [if_neg h2]
      rw [e1]
      have e : gfFields t ((k + 2 : Nat) : Int) = gfLoop t ((k + 2 : Nat) : Int) (t.size + 1) 0 0 [] := by simp only [gfFields]; rw [if_neg (by omega)]
      rw [e]
      have M := fields_meet s t (k + 2) m hm hm125 (fun j h1 h2 => hno j (by omega) h2) (by omega) hts htn (fun p => Rep cs p ∨ ((∃ g ∈ cs, g.n = nextB s k) ∧ p = k)) 6 0 [] tw1 rfl (by omega) (Nat.zero_le _)
        (hA.congr fun p => by simp [DF_nil]) (fun p hp => by rcases hp with hp | hp; exact hAB p hp; exact absurd hp (DF_nil p))
      simp only [Nat.add_zero, List.map_nil, Nat.sub_zero] at M
      rcases M with ⟨m1, m2⟩ | ⟨l', m1, m2, m3, m4, m5, m6⟩
      · rw [m2, if_neg (by rw [m1]; simp)]
        exact .inl ⟨rfl, rfl⟩
      · rw [m2, if_pos m1]
        refine .inr ⟨(nextB s k, l'), rfl, rfl, m3, rfl, m4, m5.congr fun p => ?_, fun p hp => ?_⟩
        · rw [Rep_snoc]
        · rw [Rep_snoc] at hp; exact m6 p hp
  · rw [if_neg h1]
    refine .inl ⟨rfl, ?_⟩
    simp only [gfClass]
    rw [if_neg]
    rintro ⟨_, _, h3⟩
    rw [hu1] at h3
    split at h3
    · exact h1 h3
    · omega

theorem ga_jump (s : ByteArray) (fr : Nat) (l : List GC) : ∀ d i, (∀ j, i ≤ j → j < i + d → j < s.size ∧ nextB s j ≠ 125) → gaLoop s (s.size - i) i fr l = gaLoop s (s.size - (i + d)) (i + d) fr l := by
  intro d
  induction d with
  | zero => intro i _; rfl
  | succ d ih =>
    intro i h
    have h0 := h i (Nat.le_refl _) (by omega)
    have e : s.size - i = (s.size - (i + 1)) + 1 := by omega
    rw [e, gaLoop, if_neg h0.2, ih (i + 1) (fun j h1 h2 => h j (by omega) (by omega))]
    congr 1 <;> omega
theorem next_brace (s : ByteArray) : ∀ n k, k + n = s.size → (∃ m, k ≤ m ∧ m < s.size ∧ nextB s m = 125 ∧ ∀ j, k ≤ j → j < m → nextB s j ≠ 125) ∨ (∀ j, k ≤ j → nextB s j ≠ 125) := by
  intro n
  induction n with
  | zero => intro k h; exact .inr fun j hj => by rw [nextB_out (by omega)]; omega
  | succ n ih =>
    intro k h
    by_cases h0 : nextB s k = 125
    · exact .inl ⟨k, Nat.le_refl _, by omega, h0, fun j h1 h2 => by omega⟩
    · rcases ih (k + 1) (by omega) with ⟨m, h1, h2, h3, h4⟩ | h1
      · refine .inl ⟨m, by omega, h2, h3, fun j hj1 hj2 => ?_⟩
        rcases Nat.eq_or_lt_of_le hj1 with rfl | h'
        · exact h0
        · exact h4 j h' hj2
      · refine .inr fun j hj => ?_
        rcases Nat.eq_or_lt_of_le hj with rfl | h'
        · exact h0
        · exact h1 j h'
theorem ga_none (s : ByteArray) (k : Nat) (l : List GC) (hk : k ≤ s.size) (h : ∀ j, k ≤ j → nextB s j ≠ 125) : gaLoop s (s.size - k) k k l = some (l, k) := by
  have := ga_jump s k l (s.size - k) k (fun j h1 h2 => ⟨by omega, h j h1⟩)
  rw [this, show s.size - (k + (s.size - k)) = 0 by omega, gaLoop]
theorem ga_at (s : ByteArray) (k m : Nat) (l : List GC) (hkm : k ≤ m) (hm : m < s.size) (h125 : nextB s m = 125) (h : ∀ j, k ≤ j → j < m → nextB s j ≠ 125) :
    gaLoop s (s.size - k) k k l = match gfClass (s.extract k m) k with
      | none => none
      | some r => if l.length = 6 then none else gaLoop s (s.size - (m + 1)) (m + 1) (m + 1) (l ++ [⟨r.1, k, r.2⟩]) := by
  have := ga_jump s k l (m - k) k (fun j h1 h2 => ⟨by omega, h j h1 (by omega)⟩)
  rw [this, show k + (m - k) = m by omega, show s.size - m = (s.size - (m + 1)) + 1 by omega, gaLoop, if_pos h125]
  cases gfClass (s.extract k m) k <;> rfl

def gaFin (s : ByteArray) : Option (List GC × Nat) → Option (List GC)
  | none => none
  | some r => if 0 < r.1.length ∧ r.2 = s.size then some r.1 else none
theorem gaAll_fin (s : ByteArray) : gaAll s = gaFin s (gaLoop s s.size 0 0 []) := by
  simp only [gaAll]
  cases gaLoop s s.size 0 0 [] <;> rfl

def gcl (c : GC) : Int × List (Int × Int) := (c.n, c.l.map gk)

theorem all_meet (s : ByteArray) : ∀ n cs k tw, cs.length + n = 6 → (k < s.size ∨ cs = []) → k ≤ s.size → Least (Rep cs) tw → (∀ p, Rep cs p → p < (k : Nat)) →
    ((rcLoop s n (cs.map gcl) k tw).ok = false ∧ gaFin s (gaLoop s (s.size - k) k k cs) = none) ∨
    (∃ cs', (rcLoop s n (cs.map gcl) k tw).ok = true ∧ gaFin s (gaLoop s (s.size - k) k k cs) = some cs' ∧ (rcLoop s n (cs.map gcl) k tw).cs = cs'.map gcl ∧ Least (Rep cs') (rcLoop s n (cs.map gcl) k tw).tw) := by
  intro n
  induction n with
  | zero =>
    intro cs k tw hl hk hks _ _
    have hk' : k < s.size := by
      rcases hk with h | h
      · exact h
      · subst h; simp at hl
    refine .inl ⟨rfl, ?_⟩
    rcases next_brace s (s.size - k) k (by omega) with ⟨m, h1, h2, h3, h4⟩ | h1
    · rw [ga_at s k m cs h1 h2 h3 h4]
      cases gfClass (s.extract k m) k with
      | none => rfl
      | some r => simp only []; rw [if_pos (by omega)]; rfl
    · rw [ga_none s k cs hks h1]
      simp only [gaFin]
      rw [if_neg (by omega)]
  | succ n ih =>
    intro cs k tw hl hk hks hL hB
    have hmap : (cs.map gcl).map (·.1) = cs.map (·.n) := by simp [gcl, Function.comp_def]
    rw [rcLoop, hmap]
    rcases next_brace s (s.size - k) k (by omega) with ⟨m, h1, h2, h3, h4⟩ | h1
    · have C := class_meet s k m h2 h1 h3 h4 cs tw hL hB
      generalize rdClass s (cs.map (·.n)) k tw = r at C ⊢
      rw [ga_at s k m cs h1 h2 h3 h4]
      rcases C with ⟨c1, c2⟩ | ⟨g, c1, c2, c3, c4, c5, c6, c7⟩
      · rw [c2, if_pos c1]; exact .inl ⟨rfl, rfl⟩
      · rw [c2, if_neg (by rw [c1]; simp)]
        simp only []
        rw [if_neg (show ¬ cs.length = 6 by omega), c3, c4, c5]
        by_cases he : m + 1 = s.size
        · rw [if_pos he]
          refine .inr ⟨cs ++ [⟨g.1, k, g.2⟩], rfl, ?_, by simp [gcl], c6⟩
          rw [show s.size - (m + 1) = 0 by omega, gaLoop]
          simp only [gaFin]
          rw [if_pos ⟨by simp, he⟩]
        · rw [if_neg he]
          have := ih (cs ++ [⟨g.1, k, g.2⟩]) (m + 1) r.tw (by simp; omega) (.inl (by omega)) (by omega) c6 (fun p hp => by have := c7 p hp; omega)
          simpa [gcl] using this
    · have hf : (rdClass s (cs.map (·.n)) k tw).ok = false := by
        cases h : (rdClass s (cs.map (·.n)) k tw).ok with
        | false => rfl
        | true =>
          obtain ⟨j, j1, _, j3, _⟩ := class_end s _ k tw h
          exact absurd j3 (h1 j j1)
      rw [if_pos hf, ga_none s k cs hks h1]
      refine .inl ⟨rfl, ?_⟩
      simp only [gaFin]
      rw [if_neg]
      rintro ⟨h2, h3⟩
      rcases hk with h | h
      · omega
      · subst h; simp at h2

/-- Program and reference read the same. -/
theorem read_meet (s : ByteArray) : ((readR s).ok = false ∧ gaAll s = none) ∨ (∃ cs, (readR s).ok = true ∧ gaAll s = some cs ∧ (readR s).cs = cs.map gcl ∧ Least (Rep cs) (readR s).tw) := by
  have := all_meet s 6 [] 0 (-1) rfl (.inr rfl) (Nat.zero_le _) (.inl ⟨rfl, fun p => Rep_nil p⟩) (fun p hp => absurd hp (Rep_nil p))
  simp only [Nat.sub_zero, List.map_nil] at this
  rw [gaAll_fin]
  exact this

theorem ga_accepts (s : ByteArray) : (gaAll s).isSome = true ↔ accepts s := by
  rw [← (read_accepts s).1]
  rcases read_meet s with ⟨h1, h2⟩ | ⟨cs, h1, h2, _⟩ <;> rw [h1, h2] <;> simp

theorem begins_iff (p : ByteArray) : beginsB p = true ↔ (dr p 0 (.q0 0)).1 = p.size := by
  constructor
  · intro h
    have h' : begin1 p ∨ begin2 p := by
      by_cases h1 : begin1 p
      · exact .inl h1
      · by_cases h2 : begin2 p
        · exact .inr h2
        · rw [begins_no h1 h2] at h; cases h
    rcases h' with ⟨j, _, h⟩ | ⟨j, _, h | h⟩
    · exact ahead_of_accepts ((ga_accepts _).1 h)
    · exact ahead_of_accepts ((ga_accepts _).1 h)
    · rw [ByteArray.append_assoc] at h
      exact ahead_of_accepts ((ga_accepts _).1 h)
  · intro h
    obtain ⟨j, hj, ha⟩ := begins_of_ahead h
    exact begins_1 ⟨j, hj, (ga_accepts _).2 ha⟩

theorem ahead_goes (s : ByteArray) (i : Nat) (hi : i ≤ s.size) : (dr (s.extract 0 i) 0 (.q0 0)).1 = (s.extract 0 i).size ↔ i ≤ (dr s 0 (.q0 0)).1 := by
  have hsz : (s.extract 0 i).size = i := by have : (s.extract 0 i).size = min i s.size - 0 := ByteArray.size_extract; omega
  have A := dr_agree (s.extract 0 i) s (by omega) (fun j hj => by rw [nextB_extract s 0 i j hi, if_pos (by omega), Nat.zero_add]) (.q0 0)
  rw [hsz] at A ⊢
  by_cases h : (dr (s.extract 0 i) 0 (.q0 0)).1 < i
  · rw [A.1 h]
    omega
  · have := A.2 h
    have g := dr_ge s i (dr (s.extract 0 i) 0 (.q0 0)).2 hi
    rw [this.1]
    omega

theorem wrong_is (s : ByteArray) : ∀ n i, i + n = s.size → i ≤ (dr s 0 (.q0 0)).1 → wrongN s n i = (dr s 0 (.q0 0)).1 := by
  intro n
  induction n with
  | zero =>
    intro i hi h
    have := (dr_ge s 0 (.q0 0) (Nat.zero_le _)).2
    rw [wrongN]; omega
  | succ n ih =>
    intro i hi h
    rw [wrongN]
    have P := ahead_goes s (i + 1) (by omega)
    rw [← begins_iff] at P
    by_cases hb : beginsB (s.extract 0 (i + 1)) = true
    · rw [if_pos hb]
      exact ih (i + 1) (by omega) (P.1 hb)
    · rw [if_neg hb]
      have : ¬ i + 1 ≤ (dr s 0 (.q0 0)).1 := fun h' => hb (P.2 h')
      omega

theorem least_unique {V : Int → Prop} {a b : Int} (h : Least V a) (h' : Least V b) : a = b := by
  rcases h with ⟨h1, h2⟩ | ⟨h1, h2, h3⟩ <;> rcases h' with ⟨g1, g2⟩ | ⟨g1, g2, g3⟩
  · omega
  · exact absurd g2 (h2 b)
  · exact absurd h2 (g2 a)
  · have := h3 b g2; have := g3 a h2; omega

/-- What Schema answers is what Read answers. -/
theorem agree (s : ByteArray) (E P : Int) (h : SchemaR s E P) : E = readE s ∧ P = readP s := by
  simp only [readE, readP]
  rcases h with ⟨h, rfl, rfl⟩ | ⟨h, hn, rfl, rfl⟩ | ⟨h, cs, b, hs, hL, hb⟩
  · rw [if_pos h, if_pos h]; exact ⟨rfl, rfl⟩
  · rw [if_neg h, if_neg h]
    rcases read_meet s with ⟨h1, _⟩ | ⟨cs, _, h2, _⟩
    · rw [if_pos h1, if_pos h1, (read_accepts s).2 h1, wrong_is s s.size 0 (by omega) (Nat.zero_le _)]
      exact ⟨rfl, rfl⟩
    · rw [hn] at h2; cases h2
  · rw [if_neg h, if_neg h]
    rcases read_meet s with ⟨_, h2⟩ | ⟨cs', h1, h2, _, h4⟩
    · rw [hs] at h2; cases h2
    · rw [hs] at h2
      injection h2 with h2
      subst h2
      have e := least_unique hL h4
      have hne : ¬ (readR s).ok = false := by rw [h1]; simp
      rw [if_neg hne, if_neg hne, ← e]
      rcases hb with ⟨h0, rfl, rfl⟩ | ⟨h0, rfl, rfl⟩
      · rw [if_neg (by omega), if_neg (by omega)]; exact ⟨rfl, rfl⟩
      · have hm : b = -1 := by
          rcases hL with ⟨h, _⟩ | ⟨h, _⟩
          · exact h
          · omega
        rw [if_pos hm, if_pos hm]; exact ⟨rfl, rfl⟩
end Go.Proofs.YtbgilndohccicaaGreatDoor
