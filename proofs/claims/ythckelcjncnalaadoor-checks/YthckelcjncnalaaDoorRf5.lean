import Derived.Test.YthckelcjncnalaaDoorRf4
namespace Go.Proofs.YthckelcjncnalaaDoor
open Go.RowKit

/-- The ends that are tried. -/
def E : Nat → ByteArray
  | 0 => ⟨#[]⟩
  | 1 => ⟨#[65, 123, 125]⟩
  | 2 => ⟨#[123, 125]⟩
  | 3 => ⟨#[97, 58, 98, 125]⟩
  | 4 => ⟨#[58, 98, 125]⟩
  | 5 => ⟨#[98, 125]⟩
  | _ => ⟨#[125]⟩
def closeS : Nat → ByteArray
  | 0 => ⟨#[125]⟩
  | k + 1 => ⟨#[41]⟩ ++ closeS k
/-- The package's variable holds them. -/
def Ends (w : World) : Prop := 0 < w.heap.size ∧ ∀ k, k < 7 → w.cell? ⟨0, k, none⟩ = some (.string (E k))

def begin1 (s : ByteArray) : Prop := ∃ j, j < 7 ∧ (gaAll (s ++ E j)).isSome = true
def begin2 (s : ByteArray) : Prop := ∃ k, k < 7 ∧ ((gaAll (s ++ closeS k)).isSome = true ∨ (gaAll (s ++ ⟨#[49]⟩ ++ closeS k)).isSome = true)
def beginsB (s : ByteArray) : Bool := (List.range 7).any (fun j => (gaAll (s ++ E j)).isSome) || (List.range 7).any (fun k => (gaAll (s ++ closeS k)).isSome || (gaAll (s ++ ⟨#[49]⟩ ++ closeS k)).isSome)

theorem E_size (k : Nat) : (E k).size ≤ 4 := by
  match k with
  | 0 | 1 | 2 | 3 | 4 | 5 => decide
  | _ + 6 => show (⟨#[125]⟩ : ByteArray).size ≤ 4; decide
theorem closeS_size (k : Nat) : (closeS k).size = k + 1 := by
  induction k with
  | zero => rfl
  | succ k ih => rw [closeS, ByteArray.size_append, ih]; show 1 + (k + 1) = _; omega

theorem all_rs {u : ByteArray} {w : World} (hm : u.size ≤ 800) (y : Bool) (hy : (gaAll u).isSome = y) :
    Calls Tryd.prog 10 #[.string u, .bool false] w fun e w' => ∃ a n c, e = .returned (.tuple #[.slice a n c, .bool y]) ∧ Below w.heap.size w w' := by
  subst hy
  exact (all_any u w hm).mono fun _ _ ⟨a, n, c, h1, _, h3⟩ => ⟨a, n, c, h1, h3⟩
theorem ret_bool {a b : Bool} (h : a = b) : Ending.returned (.bool a) = .returned (.bool b) := by rw [h]
theorem begins_1 {s : ByteArray} (h : begin1 s) : beginsB s = true := by
  obtain ⟨j, hj, h⟩ := h
  simp only [beginsB, Bool.or_eq_true, List.any_eq_true, List.mem_range]
  exact .inl ⟨j, hj, h⟩
theorem begins_2 {s : ByteArray} (h : begin2 s) : beginsB s = true := by
  obtain ⟨j, hj, h⟩ := h
  simp only [beginsB, Bool.or_eq_true, List.any_eq_true, List.mem_range]
  exact .inr ⟨j, hj, h⟩
theorem begins_no {s : ByteArray} (h1 : ¬ begin1 s) (h2 : ¬ begin2 s) : beginsB s = false := by
  cases h : beginsB s with
  | false => rfl
  | true =>
    simp only [beginsB, Bool.or_eq_true, List.any_eq_true, List.mem_range] at h
    rcases h with ⟨j, hj, h⟩ | ⟨j, hj, h⟩
    · exact absurd ⟨j, hj, h⟩ h1
    · exact absurd ⟨j, hj, h⟩ h2

theorem no2_step {s : ByteArray} {m : Nat} (hno : ∀ j, j < m → ¬ ((gaAll (s ++ closeS j)).isSome = true ∨ (gaAll (s ++ ⟨#[49]⟩ ++ closeS j)).isSome = true))
    (e1 : (gaAll (s ++ closeS m)).isSome = false) (e2 : (gaAll (s ++ ⟨#[49]⟩ ++ closeS m)).isSome = false) : ∀ j, j < m + 1 → ¬ ((gaAll (s ++ closeS j)).isSome = true ∨ (gaAll (s ++ ⟨#[49]⟩ ++ closeS j)).isSome = true) := by
  intro j hj
  rcases Nat.lt_succ_iff_lt_or_eq.1 hj with h | rfl
  · exact hno j h
  · rw [e1, e2]; simp

set_option maxHeartbeats 1000000 in
set_option maxRecDepth 20000 in
theorem begins_any (s : ByteArray) (w : World) (hm : s.size ≤ 300) (hE : Ends w) :
    Calls Tryd.prog 19 #[.string s, .bool false] w fun e w' => e = .returned (.bool (beginsB s)) ∧ Below w.heap.size w w' := by
  obtain ⟨h0, hE⟩ := hE
  go_enter Tryd.func19, Tryd.ntmps19
  go_wp2
  go_loopw [5] (fun i wr => ∃ k : Nat, k ≤ 7 ∧ i = .int .i64 k ∧ Hid (∀ j, j < k → (gaAll (s ++ E j)).isSome = false) ∧ Below w.heap.size w wr) (fun i _ => 7 - (intOf i).toNat)
  case atStart => exact ⟨0, by omega, rfl, fun j hj => by omega, Below.refl _ _⟩
  case round =>
    obtain ⟨k, hk, rfl, hno, hb⟩ := hrel
    by_cases hlt : k < 7
    · have c0 : wr.cell? ⟨0, k, none⟩ = some (.string (E k)) := (hb.cell (by exact h0)).trans (hE k hlt)
      have hsz := E_size k
      go_wp2_with (go_at_call 10; refine (all_any _ _ (by simp; omega)).mono ?_; rintro e w1 ⟨aa, an, ac, rfl, _, hb1⟩; have B1 := hb.trans (hb1.mono hb.size); clear hb1)
      · have h1 : (gaAll (s ++ E k)).isSome = true := by assumption
        go_ret
        exact ⟨ret_bool (begins_1 ⟨k, hlt, h1⟩).symm, B1⟩
      · have h1 : (gaAll (s ++ E k)).isSome = false := by assumption
        go_roundw
        case rel => exact ⟨k + 1, by omega, by go_num, fun j hj => by rcases Nat.lt_succ_iff_lt_or_eq.1 hj with h | rfl; exact hno j h; exact h1, B1⟩
        case measure => simp [intOf]; omega
    · have hno1 : Hid (¬ begin1 s) := fun ⟨j, hj, h⟩ => by rw [hno j (by omega)] at h; cases h
      have hge : 7 ≤ k := by omega
      clear hlt hno
      go_wp2
      go_loopw [8, 9] (fun c i wr => ∃ m : Nat, m ≤ 7 ∧ i = .int .i64 m ∧ c = .string (closeS m) ∧ Hid (∀ j, j < m → ¬ ((gaAll (s ++ closeS j)).isSome = true ∨ (gaAll (s ++ ⟨#[49]⟩ ++ closeS j)).isSome = true)) ∧ Below w.heap.size w wr) (fun _ i _ => 7 - (intOf i).toNat)
      case atStart => exact ⟨0, by omega, rfl, rfl, fun j hj => by omega, hb⟩
      case round =>
        obtain ⟨m, hm7, rfl, rfl, hno, hb⟩ := hrel
        by_cases hlt : m < 7
        · have hsz := closeS_size m
          have hs3 : Hid ((s ++ ⟨#[49]⟩ ++ closeS m).size ≤ 800) := by
            show (s ++ ⟨#[49]⟩ ++ closeS m).size ≤ 800
            rw [ByteArray.size_append, ByteArray.size_append, hsz]
            show s.size + 1 + (m + 1) ≤ 800
            omega
          have hs2 : Hid ((s ++ closeS m).size ≤ 800) := by
            show (s ++ closeS m).size ≤ 800
            rw [ByteArray.size_append, hsz]
            omega
          cases h1 : (gaAll (s ++ closeS m)).isSome with
          | true =>
            have e1 : Hid ((gaAll (s ++ closeS m)).isSome = true) := h1
            obtain ⟨b2, e2'⟩ : ∃ b2, (gaAll (s ++ ⟨#[49]⟩ ++ closeS m)).isSome = b2 := ⟨_, rfl⟩
            have e2 : Hid ((gaAll (s ++ ⟨#[49]⟩ ++ closeS m)).isSome = b2) := e2'
            clear h1 e2'
            go_wp2_with (go_at_call 10; refine (all_rs (by first | exact hs2.out | exact hs3.out) _ (by first | exact e1.out | exact e2.out)).mono ?_; rintro e w1 ⟨aa, an, ac, rfl, hb1⟩; have hb := hb.trans (hb1.mono hb.size); clear hb1)
            go_ret
            exact ⟨ret_bool (begins_2 ⟨m, hlt, .inl e1.out⟩).symm, hb⟩
          | false =>
            have e1 : Hid ((gaAll (s ++ closeS m)).isSome = false) := h1
            cases h2 : (gaAll (s ++ ⟨#[49]⟩ ++ closeS m)).isSome with
            | true =>
              have e2 : Hid ((gaAll (s ++ ⟨#[49]⟩ ++ closeS m)).isSome = true) := h2
              clear h1 h2
              go_wp2_with (go_at_call 10; refine (all_rs (by first | exact hs2.out | exact hs3.out) _ (by first | exact e1.out | exact e2.out)).mono ?_; rintro e w1 ⟨aa, an, ac, rfl, hb1⟩; have hb := hb.trans (hb1.mono hb.size); clear hb1)
              go_ret
              exact ⟨ret_bool (begins_2 ⟨m, hlt, .inr e2.out⟩).symm, hb⟩
            | false =>
              have e2 : Hid ((gaAll (s ++ ⟨#[49]⟩ ++ closeS m)).isSome = false) := h2
              clear h1 h2
              go_wp2_with (go_at_call 10; refine (all_rs (by first | exact hs2.out | exact hs3.out) _ (by first | exact e1.out | exact e2.out)).mono ?_; rintro e w1 ⟨aa, an, ac, rfl, hb1⟩; have hb := hb.trans (hb1.mono hb.size); clear hb1)
              go_roundw
              case rel => exact ⟨m + 1, by omega, by go_num, rfl, no2_step hno e1.out e2.out, hb⟩
              case measure => simp [intOf]; omega
        · have hno2 : Hid (¬ begin2 s) := fun ⟨j, hj, h⟩ => hno j (by omega) h
          have hge2 : 7 ≤ m := by omega
          clear hlt hno
          go_wp2
          go_ret
          exact ⟨ret_bool (begins_no hno1.out hno2.out).symm, hb⟩

/-- The place of the first byte with which no text of the form begins. -/
def wrongN (s : ByteArray) : Nat → Nat → Nat
  | 0, i => i
  | n + 1, i => if beginsB (s.extract 0 (i + 1)) = true then wrongN s n (i + 1) else i

theorem Ends.below {w w' : World} (h : Ends w) (hb : Below w.heap.size w w') : Ends w' := ⟨Nat.lt_of_lt_of_le h.1 hb.size, fun k hk => (hb.cell (by exact h.1)).trans (h.2 k hk)⟩
theorem begins_rs {u : ByteArray} {w : World} (hm : u.size ≤ 300) (hE : Ends w) (y : Bool) (hy : beginsB u = y) :
    Calls Tryd.prog 19 #[.string u, .bool false] w fun e w' => e = .returned (.bool y) ∧ Below w.heap.size w w' := by
  subst hy; exact begins_any u w hm hE

set_option maxHeartbeats 1000000 in
set_option maxRecDepth 20000 in
theorem wrong_any (s : ByteArray) (w : World) (hm : s.size ≤ 300) (hE : Ends w) :
    Calls Tryd.prog 11 #[.string s, .bool false] w fun e w' => e = .returned (.int .i64 (wrongN s s.size 0 : Nat)) ∧ Below w.heap.size w w' := by
  have HE : Hid (Ends w) := hE
  clear hE
  go_enter Tryd.func11, Tryd.ntmps11
  go_wp2
  go_loopw [5] (fun i wr => ∃ k : Nat, k ≤ s.size ∧ i = .int .i64 k ∧ Hid (wrongN s s.size 0 = wrongN s (s.size - k) k) ∧ Below w.heap.size w wr) (fun i _ => s.size - (intOf i).toNat)
  case atStart => exact ⟨0, by omega, rfl, rfl, Below.refl _ _⟩
  case round =>
    obtain ⟨k, hk, rfl, HR, hb⟩ := hrel
    by_cases hlt : k < s.size
    · obtain ⟨n', hn'⟩ : ∃ n', s.size - k = n' + 1 := ⟨s.size - k - 1, by omega⟩
      have HR2 := HR.out
      rw [hn', wrongN] at HR2
      have HN : Hid (s.size - k = n' + 1) := hn'
      clear hn' HR
      have hsz : Hid ((s.extract 0 (k + 1)).size ≤ 300) := by show (s.extract 0 (k + 1)).size ≤ 300; simp; omega
      have HEr : Hid (Ends wr) := HE.out.below hb
      cases h1 : beginsB (s.extract 0 (k + 1)) with
      | true =>
        rw [h1, if_pos rfl] at HR2
        have e1 : Hid (beginsB (s.extract 0 (k + 1)) = true) := h1
        have HR3 : Hid _ := HR2
        clear h1 HR2
        go_wp2_with (go_at_call 19; refine (begins_rs hsz.out HEr.out true e1.out).mono ?_; rintro e w1 ⟨rfl, hb1⟩; have B1 := hb.trans (hb1.mono hb.size); clear hb1)
        go_roundw
        case rel => exact ⟨k + 1, by omega, by go_num, by have := HN.out; rw [show s.size - (k + 1) = n' by omega]; exact HR3, B1⟩
        case measure => simp [intOf]; omega
      | false =>
        rw [h1, if_neg Bool.false_ne_true] at HR2
        have e1 : Hid (beginsB (s.extract 0 (k + 1)) = false) := h1
        have HR3 : Hid _ := HR2
        clear h1 HR2
        go_wp2_with (go_at_call 19; refine (begins_rs hsz.out HEr.out false e1.out).mono ?_; rintro e w1 ⟨rfl, hb1⟩; have B1 := hb.trans (hb1.mono hb.size); clear hb1)
        go_ret
        exact ⟨by rw [HR3.out]; rfl, B1⟩
    · have HR2 := HR.out
      rw [show s.size - k = 0 by omega, wrongN] at HR2
      have HR3 : Hid (wrongN s s.size 0 = s.size) := by show wrongN s s.size 0 = s.size; rw [HR2]; omega
      have hge : s.size ≤ k := by omega
      clear HR HR2 hlt
      go_wp2
      go_ret
      exact ⟨by rw [HR3.out]; rfl, hb⟩
end Go.Proofs.YthckelcjncnalaaDoor
