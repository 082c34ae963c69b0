import Derived.Test.YtbgilndohccicabMz01
import Derived.Deep.RegionWith
namespace Go.Proofs.Ytbgilndohccicab
open Go.RowKit

set_option maxHeartbeats 400000 in
theorem next_in (s : ByteArray) (b k : Nat) (w : World) (hk : k < s.size) (_hm : s.size ≤ 9223372036854775807)
    (c0 : w.cell? ⟨b, 0, none⟩ = some (.string s)) (c1 : w.cell? ⟨b, 1, none⟩ = some (.int .i64 k)) :
    Calls Try.prog 107 #[.pointer (some ⟨b, 0, none⟩)] w fun e w' => e = .returned (.int .u8 (s[k].toNat)) ∧ ∃ n, w' = w.drewN n := by
  have h1 : ¬ (k : Int) < 0 := by omega
  have h2 : (k : Int) < (s.size : Int) := by omega
  have hd : decide ((k : Int) < 0) = false := by simp [h1]
  go_enter Try.func107, Try.ntmps107
  go_wp2
  go_quiet (fail)
  go_wp2
  go_quiet (fail)
  go_wp2
  go_ret
  exact ⟨rfl, _, World.drewN_drewN _ _ _⟩
set_option maxHeartbeats 400000 in
theorem next_out (s : ByteArray) (b k : Nat) (w : World) (hk : ¬ k < s.size) (hm : k ≤ 9223372036854775807) (_hm' : s.size ≤ 9223372036854775807)
    (c0 : w.cell? ⟨b, 0, none⟩ = some (.string s)) (c1 : w.cell? ⟨b, 1, none⟩ = some (.int .i64 k)) :
    Calls Try.prog 107 #[.pointer (some ⟨b, 0, none⟩)] w fun e w' => e = .returned (.int .u8 0) ∧ ∃ n, w' = w.drewN n := by
  have h1 : ¬ (k : Int) < 0 := by omega
  have h2 : (s.size : Int) ≤ (k : Int) := by omega
  have hd : decide ((k : Int) < 0) = false := by simp [h1]
  go_enter Try.func107, Try.ntmps107
  go_wp2
  go_quiet (fail)
  go_wp2
  go_ret
  exact ⟨rfl, _, rfl⟩
theorem next_any (s : ByteArray) (b k : Nat) (w : World) (hk : k ≤ s.size) (hm : s.size ≤ 9223372036854775807)
    (c0 : w.cell? ⟨b, 0, none⟩ = some (.string s)) (c1 : w.cell? ⟨b, 1, none⟩ = some (.int .i64 k)) :
    Calls Try.prog 107 #[.pointer (some ⟨b, 0, none⟩)] w fun e w' => e = .returned (.int .u8 (nextB s k)) ∧ ∃ n, w' = w.drewN n := by
  by_cases h : k < s.size
  · rw [nextB_in h]; exact next_in s b k w h hm c0 c1
  · rw [nextB_out h]; exact next_out s b k w h (by omega) hm c0 c1

/-- The reader in block b: its text, how far it has come, whether it reads an update. -/
structure RS (w : World) (b : Nat) (s : ByteArray) (k : Nat) (u : Bool) : Prop where
  c0 : w.cell? ⟨b, 0, none⟩ = some (.string s)
  c1 : w.cell? ⟨b, 1, none⟩ = some (.int .i64 k)
  c2 : w.cell? ⟨b, 2, none⟩ = some (.bool u)
  c3 : ∃ v, w.cell? ⟨b, 3, none⟩ = some v
  f1 : w.frozen? ⟨b, 1, none⟩ = false
  f3 : w.frozen? ⟨b, 3, none⟩ = false
  le : k ≤ s.size
  lt : s.size ≤ 1000
theorem RS.drewN {w : World} {b : Nat} {s : ByteArray} {k : Nat} {u : Bool} (h : RS w b s k u) (n : Nat) : RS (w.drewN n) b s k u := ⟨h.c0, h.c1, h.c2, h.c3, h.f1, h.f3, h.le, h.lt⟩
theorem RS.drew {w : World} {b : Nat} {s : ByteArray} {k : Nat} {u : Bool} (h : RS w b s k u) : RS w.drew b s k u := ⟨h.c0, h.c1, h.c2, h.c3, h.f1, h.f3, h.le, h.lt⟩
theorem RS.kept {w w' : World} {b : Nat} {s : ByteArray} {k : Nat} {u : Bool} {r : Option Nat} (h : RS w b s k u) (g : w.grownBy w' r) (hr : some b ≠ r) : RS w' b s k u := by
  have hlt : b < w.heap.size := World.block_lt_of_cell? w ⟨b, 0, none⟩ h.c0
  have e : w'.heap[b]? = w.heap[b]? := g.block b hlt hr
  obtain ⟨c0, c1, c2, ⟨v, c3⟩, f1, f3, le, lt⟩ := h
  have ec : ∀ o, w'.cell? ⟨b, o, none⟩ = w.cell? ⟨b, o, none⟩ := fun o => World.cell?_of_block (a := ⟨b, o, none⟩) e
  have ef : ∀ o, w'.frozen? ⟨b, o, none⟩ = w.frozen? ⟨b, o, none⟩ := fun o => World.frozen?_of_block (a := ⟨b, o, none⟩) e
  exact ⟨by rw [ec]; exact c0, by rw [ec]; exact c1, by rw [ec]; exact c2, ⟨v, by rw [ec]; exact c3⟩, by rw [ef]; exact f1, by rw [ef]; exact f3, le, lt⟩
theorem RS.blt {w : World} {b : Nat} {s : ByteArray} {k : Nat} {u : Bool} (h : RS w b s k u) : b < w.heap.size := World.block_lt_of_cell? w ⟨b, 0, none⟩ h.c0
theorem RS.alloc {w : World} {b : Nat} {s : ByteArray} {k : Nat} {u : Bool} (h : RS w b s k u) (o : Obj) : RS (w.alloc o) b s k u := h.kept (World.grownBy_alloc w o none) (by simp)
theorem RS.below {w w' : World} {b : Nat} {s : ByteArray} {k : Nat} {u : Bool} (h : RS w b s k u) (hb : Below w.heap.size w w') : RS w' b s k u := h.kept (gb_below hb none) (by simp)
theorem RS.setOther {w : World} {b : Nat} {s : ByteArray} {k : Nat} {u : Bool} (h : RS w b s k u) {r o : Nat} (hr : b ≠ r) (x : Value) : RS (w.setCell ⟨r, o, none⟩ x) b s k u :=
  h.kept (gb_set w r o x) (by simpa using hr)
theorem RS.set1 {w : World} {b : Nat} {s : ByteArray} {k k' : Nat} {u : Bool} (h : RS w b s k u) (hk : k' ≤ s.size) : RS (w.setCell ⟨b, 1, none⟩ (.int .i64 k')) b s k' u := by
  obtain ⟨c0, c1, c2, ⟨v, c3⟩, f1, f3, le, lt⟩ := h
  exact ⟨by go_simp, by go_simp, by go_simp, ⟨v, by go_simp⟩, by go_simp, by go_simp, hk, lt⟩
theorem RS.inc {w : World} {b : Nat} {s : ByteArray} {k : Nat} {u : Bool} (h : RS w b s k u) (hk : k < s.size) : RS (w.setCell ⟨b, 1, none⟩ (.int .i64 ((k : Int) + 1))) b s (k + 1) u := by
  have := h.set1 (k' := k + 1) (by omega)
  simpa using this
theorem next_rs {s : ByteArray} {b k : Nat} {u : Bool} {w : World} (h : RS w b s k u) :
    Calls Try.prog 107 #[.pointer (some ⟨b, 0, none⟩)] w fun e w' => e = .returned (.int .u8 (nextB s k)) ∧ ∃ n, w' = w.drewN n :=
  next_any s b k w h.le (by have := h.lt; omega) h.c0 h.c1

set_option maxHeartbeats 400000 in
theorem take_any (s : ByteArray) (b k : Nat) (u : Bool) (x : Int) (w : World) (h : RS w b s k u) (hx : 0 < x) :
    Calls Try.prog 104 #[.pointer (some ⟨b, 0, none⟩), .int .u8 x] w fun e w' =>
      e = .returned (.bool (nextB s k == x)) ∧ RS w' b s (if nextB s k == x then k + 1 else k) u ∧ w.grownBy w' (some b) := by
  have H : Hid (RS w b s k u) := h
  have N := next_rs h
  obtain ⟨c0, c1, c2, _, f1, f3, le, lt⟩ := h
  obtain ⟨y, hy⟩ : ∃ y, y = nextB s k := ⟨_, rfl⟩
  have hlt : y = x → k < s.size := by
    intro e; exact nextB_pos (by omega)
  rw [← hy] at N ⊢
  have HY : Hid (y = nextB s k) := hy
  clear hy
  by_cases e : y = x
  · have hl := hlt e
    have e' : (y == x) = true := by simpa using e
    clear hlt e
    go_enter Try.func104, Try.ntmps104
    go_wp2_with (go_at_call 107; refine N.mono ?_; rintro e w' ⟨rfl, n, rfl⟩)
    go_ret
    exact ⟨rfl, by simpa using (H.out.drewN n).set1 (k' := k + 1) (by omega), gb_trans (gb_drewN _ n _) (by simpa using gb_set (w.drewN n) b 1 _)⟩
  · have e' : (y == x) = false := by simpa using e
    clear hlt
    go_enter Try.func104, Try.ntmps104
    go_wp2_with (go_at_call 107; refine N.mono ?_; rintro e w' ⟨rfl, n, rfl⟩)
    go_ret
    exact ⟨rfl, by simpa using H.out.drewN n, gb_drewN _ n _⟩
theorem take_rs {s : ByteArray} {b k : Nat} {u : Bool} {x : Int} {w : World} (h : RS w b s k u) (hx : 0 < x) (y : Bool) (hy : (nextB s k == x) = y) :
    Calls Try.prog 104 #[.pointer (some ⟨b, 0, none⟩), .int .u8 x] w fun e w' =>
      e = .returned (.bool y) ∧ RS w' b s (if y then k + 1 else k) u ∧ w.grownBy w' (some b) := by
  subst hy; exact take_any s b k u x w h hx

set_option maxHeartbeats 400000 in
theorem isIn_any (x lo hi : Int) (w : World) :
    Calls Try.prog 106 #[.int .u8 x, .int .u8 lo, .int .u8 hi] w fun e w' => e = .returned (.bool (decide (lo ≤ x) && decide (x ≤ hi))) ∧ w' = w := by
  by_cases h1 : lo ≤ x
  · go_enter Try.func106, Try.ntmps106
    go_wp2
    go_ret
    exact ⟨by simp [h1], rfl⟩
  · go_enter Try.func106, Try.ntmps106
    go_wp2
    go_ret
    exact ⟨by rw [decide_eq_false (Int.not_le.2 h1)]; rfl, rfl⟩
theorem isIn_rs {x lo hi : Int} {w : World} (y : Bool) (hy : (decide (lo ≤ x) && decide (x ≤ hi)) = y) :
    Calls Try.prog 106 #[.int .u8 x, .int .u8 lo, .int .u8 hi] w fun e w' => e = .returned (.bool y) ∧ w' = w := by
  subst hy; exact isIn_any x lo hi w

set_option maxHeartbeats 400000 in
theorem isKind_any (x : Int) (w : World) :
    Calls Try.prog 109 #[.int .u8 x] w fun e w' => e = .returned (.bool (isKindB x)) ∧ w' = w := by
  by_cases h1 : x = 98
  · subst h1; go_enter Try.func109, Try.ntmps109; go_wp2; go_ret; exact ⟨rfl, rfl⟩
  by_cases h2 : x = 104
  · subst h2; go_enter Try.func109, Try.ntmps109; go_wp2; go_ret; exact ⟨rfl, rfl⟩
  by_cases h3 : x = 119
  · subst h3; go_enter Try.func109, Try.ntmps109; go_wp2; go_ret; exact ⟨rfl, rfl⟩
  by_cases h4 : x = 108
  · subst h4; go_enter Try.func109, Try.ntmps109; go_wp2; go_ret; exact ⟨rfl, rfl⟩
  by_cases h5 : x = 114
  · subst h5; go_enter Try.func109, Try.ntmps109; go_wp2; go_ret; exact ⟨rfl, rfl⟩
  have e : isKindB x = false := by simp [isKindB, h1, h2, h3, h4, h5]
  rw [e]; clear e
  go_enter Try.func109, Try.ntmps109
  go_wp2
  go_ret
  exact ⟨rfl, rfl⟩
theorem isKind_rs {x : Int} {w : World} (y : Bool) (hy : isKindB x = y) :
    Calls Try.prog 109 #[.int .u8 x] w fun e w' => e = .returned (.bool y) ∧ w' = w := by
  subst hy; exact isKind_any x w

theorem gb_drew1 {a w : World} {row : Option Nat} (h : a.grownBy w row) : a.grownBy w.drew row := ⟨h.os, h.tape, h.output, h.size, h.block⟩
set_option maxHeartbeats 600000 in
theorem letter_yes (s : ByteArray) (b k : Nat) (u : Bool) (lo hi : Int) (w : World) (h : RS w b s k u) (hlo : 0 < lo) (h1 : lo ≤ nextB s k) (h2 : nextB s k ≤ hi) :
    Calls Try.prog 102 #[.pointer (some ⟨b, 0, none⟩), .int .u8 lo, .int .u8 hi] w fun e w' =>
      e = .returned (.tuple #[.agg #[.int .u8 (nextB s k), .int .i64 k], .bool true]) ∧ RS w' b s (k + 1) u ∧ w.grownBy w' (some b) := by
  have hb := h.blt
  have hk : k < s.size := nextB_pos (by omega)
  have hin : (decide (lo ≤ nextB s k) && decide (nextB s k ≤ hi)) = true := by simp [h1, h2]
  have R0 : RS (w.alloc (.cells #[.int .u8 0, .int .i64 0] 153)) b s k u := h.alloc _
  obtain ⟨c0, c1, c2, _, f1, f3, le, lt⟩ := id h
  go_enter Try.func102, Try.ntmps102
  go_wp2
  go_region_with (go_at_call 107; refine (next_rs (s := s) (b := b) (k := k) (u := u) (by with_reducible repeat first | exact R0 | apply RS.drew | apply RS.alloc | apply RS.drewN)).mono ?_; rintro e w' ⟨rfl, n, rfl⟩)
  all_goals
    go_wp2_with (go_at_call 106; refine (isIn_rs true hin).mono ?_; rintro e w' ⟨rfl, rfl⟩)
    refine bodyPost_ret (v := .tuple #[.agg #[.int .u8 (nextB s k), .int .i64 k], .bool true]) (by simp [results, Try.results102, go_sem]) rfl ⟨rfl, ?_, ?_⟩
    · with_reducible repeat first | exact h | (refine RS.inc ?_ hk) | apply RS.drew | apply RS.drewN | apply RS.alloc | (refine RS.setOther ?_ (by omega) _)
    · with_reducible repeat first | exact World.grownBy.refl _ _ | apply gb_drew | apply gb_drew1 | apply gb_alloc | apply gb_setB | (refine gb_setNew ?_ (by omega) _)
set_option maxHeartbeats 600000 in
theorem letter_no (s : ByteArray) (b k : Nat) (u : Bool) (lo hi : Int) (w : World) (h : RS w b s k u) (hin : (decide (lo ≤ nextB s k) && decide (nextB s k ≤ hi)) = false) :
    Calls Try.prog 102 #[.pointer (some ⟨b, 0, none⟩), .int .u8 lo, .int .u8 hi] w fun e w' =>
      e = .returned (.tuple #[.agg #[.int .u8 0, .int .i64 0], .bool false]) ∧ RS w' b s k u ∧ w.grownBy w' (some b) := by
  have hb := h.blt
  have R0 : RS (w.alloc (.cells #[.int .u8 0, .int .i64 0] 153)) b s k u := h.alloc _
  obtain ⟨c0, c1, c2, _, f1, f3, le, lt⟩ := id h
  go_enter Try.func102, Try.ntmps102
  go_wp2
  go_region_with (go_at_call 107; refine (next_rs (s := s) (b := b) (k := k) (u := u) (by with_reducible repeat first | exact R0 | apply RS.drew | apply RS.alloc | apply RS.drewN)).mono ?_; rintro e w' ⟨rfl, n, rfl⟩)
  all_goals
    go_wp2_with (go_at_call 106; refine (isIn_rs false hin).mono ?_; rintro e w' ⟨rfl, rfl⟩)
    refine bodyPost_ret (v := .tuple #[.agg #[.int .u8 0, .int .i64 0], .bool false]) (by simp [results, Try.results102, go_sem]) rfl ⟨rfl, ?_, ?_⟩
    · with_reducible repeat first | exact h | apply RS.drew | apply RS.drewN | apply RS.alloc | (refine RS.setOther ?_ (by omega) _)
    · with_reducible repeat first | exact World.grownBy.refl _ _ | apply gb_drew | apply gb_drew1 | apply gb_alloc | apply gb_setB | (refine gb_setNew ?_ (by omega) _)

/-- takeLetter: the letter and its place, or nothing. -/
theorem letter_rs {s : ByteArray} {b k : Nat} {u : Bool} {lo hi : Int} {w : World} (h : RS w b s k u) (hlo : 0 < lo) (y : Bool) (hy : (decide (lo ≤ nextB s k) && decide (nextB s k ≤ hi)) = y) :
    Calls Try.prog 102 #[.pointer (some ⟨b, 0, none⟩), .int .u8 lo, .int .u8 hi] w fun e w' =>
      e = .returned (.tuple #[.agg #[.int .u8 (if y then nextB s k else 0), .int .i64 (if y then (k : Int) else 0)], .bool y]) ∧ RS w' b s (if y then k + 1 else k) u ∧ w.grownBy w' (some b) := by
  cases y with
  | true =>
    simp only [Bool.and_eq_true, decide_eq_true_eq] at hy
    exact letter_yes s b k u lo hi w h hlo hy.1 hy.2
  | false => exact letter_no s b k u lo hi w h hy
end Go.Proofs.Ytbgilndohccicab
