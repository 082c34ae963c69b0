import Derived.Test.YthckelcjncnalaaDoorFz32
import Derived.Test.YthckelcjncnalaaDoorFz26
import Derived.Test.YthckelcjncnalaaDoorFz28
namespace Go.Proofs.YthckelcjncnalaaDoor
open Go.RowKit

def ubegin1 (s : ByteArray) : Prop := ∃ j, j < 7 ∧ (haAll (s ++ E j)).isSome = true
def ubegin2 (s : ByteArray) : Prop := ∃ k, k < 7 ∧ ((haAll (s ++ closeS k)).isSome = true ∨ (haAll (s ++ ⟨#[49]⟩ ++ closeS k)).isSome = true)
def ubeginsB (s : ByteArray) : Bool := (List.range 7).any (fun j => (haAll (s ++ E j)).isSome) || (List.range 7).any (fun k => (haAll (s ++ closeS k)).isSome || (haAll (s ++ ⟨#[49]⟩ ++ closeS k)).isSome)

theorem uall_rs {u : ByteArray} {w : World} (hm : u.size ≤ 400) (y : Bool) (hy : (haAll u).isSome = y) :
    Calls Tryd.prog 10 #[.string u, .bool true] w fun e w' => ∃ a n c, e = .returned (.tuple #[.slice a n c, .bool y]) ∧ Below w.heap.size w w' := by
  subst hy
  exact (uall_any u w hm).mono fun _ _ ⟨a, n, c, h1, _, h3⟩ => ⟨a, n, c, h1, h3⟩
theorem ubegins_1 {s : ByteArray} (h : ubegin1 s) : ubeginsB s = true := by
  obtain ⟨j, hj, h⟩ := h
  simp only [ubeginsB, Bool.or_eq_true, List.any_eq_true, List.mem_range]
  exact .inl ⟨j, hj, h⟩
theorem ubegins_2 {s : ByteArray} (h : ubegin2 s) : ubeginsB s = true := by
  obtain ⟨j, hj, h⟩ := h
  simp only [ubeginsB, Bool.or_eq_true, List.any_eq_true, List.mem_range]
  exact .inr ⟨j, hj, h⟩
theorem ubegins_no {s : ByteArray} (h1 : ¬ ubegin1 s) (h2 : ¬ ubegin2 s) : ubeginsB s = false := by
  cases h : ubeginsB s with
  | false => rfl
  | true =>
    simp only [ubeginsB, Bool.or_eq_true, List.any_eq_true, List.mem_range] at h
    rcases h with ⟨j, hj, h⟩ | ⟨j, hj, h⟩
    · exact absurd ⟨j, hj, h⟩ h1
    · exact absurd ⟨j, hj, h⟩ h2

theorem uno2_step {s : ByteArray} {m : Nat} (hno : ∀ j, j < m → ¬ ((haAll (s ++ closeS j)).isSome = true ∨ (haAll (s ++ ⟨#[49]⟩ ++ closeS j)).isSome = true))
    (e1 : (haAll (s ++ closeS m)).isSome = false) (e2 : (haAll (s ++ ⟨#[49]⟩ ++ closeS m)).isSome = false) : ∀ j, j < m + 1 → ¬ ((haAll (s ++ closeS j)).isSome = true ∨ (haAll (s ++ ⟨#[49]⟩ ++ closeS j)).isSome = true) := by
  intro j hj
  rcases Nat.lt_succ_iff_lt_or_eq.1 hj with h | rfl
  · exact hno j h
  · rw [e1, e2]; simp

set_option maxHeartbeats 1000000 in
set_option maxRecDepth 20000 in
theorem ubegins_any (s : ByteArray) (w : World) (hm : s.size ≤ 300) (hE : Ends w) :
    Calls Tryd.prog 19 #[.string s, .bool true] w fun e w' => e = .returned (.bool (ubeginsB s)) ∧ Below w.heap.size w w' := by
  obtain ⟨h0, hE⟩ := hE
  go_enter Tryd.func19, Tryd.ntmps19
  go_wp2
  go_loopw [5] (fun i wr => ∃ k : Nat, k ≤ 7 ∧ i = .int .i64 k ∧ Hid (∀ j, j < k → (haAll (s ++ E j)).isSome = false) ∧ Below w.heap.size w wr) (fun i _ => 7 - (intOf i).toNat)
  case atStart => exact ⟨0, by omega, rfl, fun j hj => by omega, Below.refl _ _⟩
  case round =>
    obtain ⟨k, hk, rfl, hno, hb⟩ := hrel
    by_cases hlt : k < 7
    · have c0 : wr.cell? ⟨0, k, none⟩ = some (.string (E k)) := (hb.cell (by exact h0)).trans (hE k hlt)
      have hsz := E_size k
      go_wp2_with (go_at_call 10; refine (uall_any _ _ (by simp; omega)).mono ?_; rintro e w1 ⟨aa, an, ac, rfl, _, hb1⟩; have B1 := hb.trans (hb1.mono hb.size); clear hb1)
      · have h1 : (haAll (s ++ E k)).isSome = true := by assumption
        go_ret
        exact ⟨ret_bool (ubegins_1 ⟨k, hlt, h1⟩).symm, B1⟩
      · have h1 : (haAll (s ++ E k)).isSome = false := by assumption
        go_roundw
        case rel => exact ⟨k + 1, by omega, by go_num, fun j hj => by rcases Nat.lt_succ_iff_lt_or_eq.1 hj with h | rfl; exact hno j h; exact h1, B1⟩
        case measure => simp [intOf]; omega
    · have hno1 : Hid (¬ ubegin1 s) := fun ⟨j, hj, h⟩ => by rw [hno j (by omega)] at h; cases h
      have hge : 7 ≤ k := by omega
      clear hlt hno
      go_wp2
      go_loopw [8, 9] (fun c i wr => ∃ m : Nat, m ≤ 7 ∧ i = .int .i64 m ∧ c = .string (closeS m) ∧ Hid (∀ j, j < m → ¬ ((haAll (s ++ closeS j)).isSome = true ∨ (haAll (s ++ ⟨#[49]⟩ ++ closeS j)).isSome = true)) ∧ Below w.heap.size w wr) (fun _ i _ => 7 - (intOf i).toNat)
      case atStart => exact ⟨0, by omega, rfl, rfl, fun j hj => by omega, hb⟩
      case round =>
        obtain ⟨m, hm7, rfl, rfl, hno, hb⟩ := hrel
        by_cases hlt : m < 7
        · have hsz := closeS_size m
          have hs3 : Hid ((s ++ ⟨#[49]⟩ ++ closeS m).size ≤ 400) := by
            show (s ++ ⟨#[49]⟩ ++ closeS m).size ≤ 400
            rw [ByteArray.size_append, ByteArray.size_append, hsz]
            show s.size + 1 + (m + 1) ≤ 400
            omega
          have hs2 : Hid ((s ++ closeS m).size ≤ 400) := by
            show (s ++ closeS m).size ≤ 400
            rw [ByteArray.size_append, hsz]
            omega
          cases h1 : (haAll (s ++ closeS m)).isSome with
          | true =>
            have e1 : Hid ((haAll (s ++ closeS m)).isSome = true) := h1
            obtain ⟨b2, e2'⟩ : ∃ b2, (haAll (s ++ ⟨#[49]⟩ ++ closeS m)).isSome = b2 := ⟨_, rfl⟩
            have e2 : Hid ((haAll (s ++ ⟨#[49]⟩ ++ closeS m)).isSome = b2) := e2'
            clear h1 e2'
            go_wp2_with (go_at_call 10; refine (uall_rs (by first | exact hs2.out | exact hs3.out) _ (by first | exact e1.out | exact e2.out)).mono ?_; rintro e w1 ⟨aa, an, ac, rfl, hb1⟩; have hb := hb.trans (hb1.mono hb.size); clear hb1)
            go_ret
            exact ⟨ret_bool (ubegins_2 ⟨m, hlt, .inl e1.out⟩).symm, hb⟩
          | false =>
            have e1 : Hid ((haAll (s ++ closeS m)).isSome = false) := h1
            cases h2 : (haAll (s ++ ⟨#[49]⟩ ++ closeS m)).isSome with
            | true =>
              have e2 : Hid ((haAll (s ++ ⟨#[49]⟩ ++ closeS m)).isSome = true) := h2
              clear h1 h2
              go_wp2_with (go_at_call 10; refine (uall_rs (by first | exact hs2.out | exact hs3.out) _ (by first | exact e1.out | exact e2.out)).mono ?_; rintro e w1 ⟨aa, an, ac, rfl, hb1⟩; have hb := hb.trans (hb1.mono hb.size); clear hb1)
              go_ret
              exact ⟨ret_bool (ubegins_2 ⟨m, hlt, .inr e2.out⟩).symm, hb⟩
            | false =>
              have e2 : Hid ((haAll (s ++ ⟨#[49]⟩ ++ closeS m)).isSome = false) := h2
              clear h1 h2
              go_wp2_with (go_at_call 10; refine (uall_rs (by first | exact hs2.out | exact hs3.out) _ (by first | exact e1.out | exact e2.out)).mono ?_; rintro e w1 ⟨aa, an, ac, rfl, hb1⟩; have hb := hb.trans (hb1.mono hb.size); clear hb1)
              go_roundw
              case rel => exact ⟨m + 1, by omega, by go_num, rfl, uno2_step hno e1.out e2.out, hb⟩
              case measure => simp [intOf]; omega
        · have hno2 : Hid (¬ ubegin2 s) := fun ⟨j, hj, h⟩ => hno j (by omega) h
          have hge2 : 7 ≤ m := by omega
          clear hlt hno
          go_wp2
          go_ret
          exact ⟨ret_bool (ubegins_no hno1.out hno2.out).symm, hb⟩

/-- The place of the first byte with which no text of the form begins. -/
def uwrongN (s : ByteArray) : Nat → Nat → Nat
  | 0, i => i
  | n + 1, i => if ubeginsB (s.extract 0 (i + 1)) = true then uwrongN s n (i + 1) else i

theorem ubegins_rs {u : ByteArray} {w : World} (hm : u.size ≤ 300) (hE : Ends w) (y : Bool) (hy : ubeginsB u = y) :
    Calls Tryd.prog 19 #[.string u, .bool true] w fun e w' => e = .returned (.bool y) ∧ Below w.heap.size w w' := by
  subst hy; exact ubegins_any u w hm hE

set_option maxHeartbeats 1000000 in
set_option maxRecDepth 20000 in
theorem uwrong_any (s : ByteArray) (w : World) (hm : s.size ≤ 300) (hE : Ends w) :
    Calls Tryd.prog 11 #[.string s, .bool true] w fun e w' => e = .returned (.int .i64 (uwrongN s s.size 0 : Nat)) ∧ Below w.heap.size w w' := by
  have HE : Hid (Ends w) := hE
  clear hE
  go_enter Tryd.func11, Tryd.ntmps11
  go_wp2
  go_loopw [5] (fun i wr => ∃ k : Nat, k ≤ s.size ∧ i = .int .i64 k ∧ Hid (uwrongN s s.size 0 = uwrongN s (s.size - k) k) ∧ Below w.heap.size w wr) (fun i _ => s.size - (intOf i).toNat)
  case atStart => exact ⟨0, by omega, rfl, rfl, Below.refl _ _⟩
  case round =>
    obtain ⟨k, hk, rfl, HR, hb⟩ := hrel
    by_cases hlt : k < s.size
    · obtain ⟨n', hn'⟩ : ∃ n', s.size - k = n' + 1 := ⟨s.size - k - 1, by omega⟩
      have HR2 := HR.out
      rw [hn', uwrongN] at HR2
      have HN : Hid (s.size - k = n' + 1) := hn'
      clear hn' HR
      have hsz : Hid ((s.extract 0 (k + 1)).size ≤ 300) := by show (s.extract 0 (k + 1)).size ≤ 300; simp; omega
      have HEr : Hid (Ends wr) := HE.out.below hb
      cases h1 : ubeginsB (s.extract 0 (k + 1)) with
      | true =>
        rw [h1, if_pos rfl] at HR2
        have e1 : Hid (ubeginsB (s.extract 0 (k + 1)) = true) := h1
        have HR3 : Hid _ := HR2
        clear h1 HR2
        go_wp2_with (go_at_call 19; refine (ubegins_rs hsz.out HEr.out true e1.out).mono ?_; rintro e w1 ⟨rfl, hb1⟩; have B1 := hb.trans (hb1.mono hb.size); clear hb1)
        go_roundw
        case rel => exact ⟨k + 1, by omega, by go_num, by have := HN.out; rw [show s.size - (k + 1) = n' by omega]; exact HR3, B1⟩
        case measure => simp [intOf]; omega
      | false =>
        rw [h1, if_neg Bool.false_ne_true] at HR2
        have e1 : Hid (ubeginsB (s.extract 0 (k + 1)) = false) := h1
        have HR3 : Hid _ := HR2
        clear h1 HR2
        go_wp2_with (go_at_call 19; refine (ubegins_rs hsz.out HEr.out false e1.out).mono ?_; rintro e w1 ⟨rfl, hb1⟩; have B1 := hb.trans (hb1.mono hb.size); clear hb1)
        go_ret
        exact ⟨by rw [HR3.out]; rfl, B1⟩
    · have HR2 := HR.out
      rw [show s.size - k = 0 by omega, uwrongN] at HR2
      have HR3 : Hid (uwrongN s s.size 0 = s.size) := by show uwrongN s s.size 0 = s.size; rw [HR2]; omega
      have hge : s.size ≤ k := by omega
      clear HR HR2 hlt
      go_wp2
      go_ret
      exact ⟨by rw [HR3.out]; rfl, hb⟩
end Go.Proofs.YthckelcjncnalaaDoor
namespace Go.Proofs.YthckelcjncnalaaDoor
open Go.RowKit

/-- The Letter that a class is made of. -/
def madeI (N : Nat → Int) (m : Nat) (x s : Int) : Int := if s ≠ 0 then s else if ∃ i, i < m ∧ N i = x then x else 0
set_option maxHeartbeats 400000 in
set_option maxRecDepth 20000 in
theorem umade_any (x0 x1 x2 x3 : Int) (a : Option Addr) (n c : Nat) (g cap m : Nat) (N : Nat → Int) (w : World) (hg : g < w.heap.size) (hm : m ≤ 1000)
    (hc : ∀ i, i < m → w.cell? ⟨g, i * 5, none⟩ = some (.int .u8 (N i))) :
    Calls Tryd.prog 20 #[.agg #[.int .u8 x0, .int .u8 x1, .int .i64 x2, .int .i64 x3, .slice a n c], .slice (some ⟨g, 0, none⟩) m cap] w fun e w' => e = .returned (.int .u8 (madeI N m x0 x1)) ∧ Below w.heap.size w w' := by
  have HC : Hid (∀ i, i < m → w.cell? ⟨g, i * 5, none⟩ = some (.int .u8 (N i))) := hc
  clear hc
  have B0 : ∀ o : Obj, Below w.heap.size w (w.alloc o) := fun o => (Below.refl _ _).alloc (Nat.le_refl _) o
  by_cases h1 : x1 = 0
  · have hx : (x1 != 0) = false := by simp [h1]
    obtain ⟨R, hR⟩ : ∃ R, R = madeI N m x0 x1 := ⟨_, rfl⟩
    rw [← hR]
    have HR : Hid (R = if ∃ i, i < m ∧ N i = x0 then x0 else 0) := by
      show R = _
      rw [hR]; unfold madeI; rw [if_neg (by simp [h1])]
    clear hR h1
    go_enter Tryd.func20, Tryd.ntmps20
    go_wp2
    go_loopw [5] (fun i wr => ∃ k : Nat, k ≤ m ∧ i = .int .i64 k ∧ Hid (∀ j, j < k → N j ≠ x0) ∧ Below (w.heap.size + 1) (w.alloc (.cells #[.int .u8 x0, .int .u8 x1, .int .i64 x2, .int .i64 x3, .slice a n c] 53)) wr) (fun i _ => m - (intOf i).toNat)
    case atStart => exact ⟨0, Nat.zero_le _, rfl, fun j hj => by omega, Below.refl _ _⟩
    case round =>
      obtain ⟨k, hk, rfl, HJ, hb⟩ := hrel
      have B1 : Below w.heap.size w wr := (B0 _).trans (hb.mono (by omega))
      have c0 : wr.cell? ⟨w.heap.size, 0, none⟩ = some (.int .u8 x0) := (hb.cell (by exact Nat.lt_succ_self _)).trans (by go_simp)
      by_cases hlt : k < m
      · have ck : wr.cell? ⟨g, k * 5, none⟩ = some (.int .u8 (N k)) := (B1.cell (by exact hg)).trans (HC.out k hlt)
        by_cases heq : N k = x0
        · have heq' : (N k == x0) = true := by simpa using heq
          have hr : R = x0 := by rw [HR.out, if_pos ⟨k, hlt, heq⟩]
          subst hr
          clear heq HR
          go_wp2
          go_quiet (fail)
          go_wp2
          go_ret
          exact ⟨rfl, below_drewN B1 nq⟩
        · have heq' : (N k == x0) = false := by simpa using heq
          have HJ' : Hid (∀ j, j < k + 1 → N j ≠ x0) := fun j hj => by
            rcases Nat.lt_succ_iff_lt_or_eq.1 hj with h | rfl
            · exact HJ.out j h
            · exact heq
          clear heq
          go_wp2
          go_quiet (fail)
          go_wp2
          go_roundw
          case rel => exact ⟨k + 1, by omega, by go_num, HJ', below_drewN hb nq⟩
          case measure => simp [intOf]; omega
      · have hr : R = 0 := by rw [HR.out, if_neg]; rintro ⟨i, hi, e⟩; exact HJ.out i (by omega) e
        subst hr
        have hge : m ≤ k := by omega
        clear hlt HR
        go_wp2
        go_ret
        exact ⟨rfl, B1⟩
  · have hx : (x1 != 0) = true := by simpa using h1
    have e : madeI N m x0 x1 = x1 := by unfold madeI; rw [if_pos h1]
    rw [e]
    clear e h1
    go_enter Tryd.func20, Tryd.ntmps20
    go_wp2
    go_ret
    exact ⟨rfl, B0 _⟩
end Go.Proofs.YthckelcjncnalaaDoor
