import Derived.Test.YtiofbnmpppjdbabProg
import Derived.WalkKit
import Derived.WalkSpells
import Derived.WalkLawsBesides
import Derived.Deep.QuietTactic
import Derived.BigQuiet
namespace Go.Proofs.Ytiofbnmpppjdbab
open Go.RowKit

def nextB (s : ByteArray) (k : Nat) : Int := if h : k < s.size then (s[k].toNat : Int) else 0

theorem nextB_in {s : ByteArray} {k : Nat} (h : k < s.size) : nextB s k = (s[k].toNat : Int) := by simp [nextB, h]
theorem nextB_out {s : ByteArray} {k : Nat} (h : ¬ k < s.size) : nextB s k = 0 := by simp [nextB, h]

set_option maxHeartbeats 400000 in
theorem next_in (s : ByteArray) (b k : Nat) (w : World) (hk : k < s.size) (_hm : s.size ≤ 9223372036854775807)
    (c0 : w.cell? ⟨b, 0, none⟩ = some (.string s)) (c1 : w.cell? ⟨b, 1, none⟩ = some (.int .i64 k)) :
    Calls Try.prog 13 #[.pointer (some ⟨b, 0, none⟩)] w fun e w' => e = .returned (.int .u8 (s[k].toNat)) ∧ ∃ n, w' = w.drewN n := by
  have h1 : ¬ (k : Int) < 0 := by omega
  have h2 : (k : Int) < (s.size : Int) := by omega
  have hd : decide ((k : Int) < 0) = false := by simp [h1]
  go_enter Try.func13, Try.ntmps13
  go_wp2
  go_quiet (fail)
  go_wp2
  go_quiet (fail)
  go_wp2
  go_ret
  exact ⟨rfl, _, World.drewN_drewN _ _ _⟩

set_option maxHeartbeats 400000 in
theorem next_out (s : ByteArray) (b k : Nat) (w : World) (hk : ¬ k < s.size) (hm : k ≤ 9223372036854775807) (_hm' : s.size ≤ 9223372036854775807)
    (c0 : w.cell? ⟨b, 0, none⟩ = some (.string s)) (c1 : w.cell? ⟨b, 1, none⟩ = some (.int .i64 k)) :
    Calls Try.prog 13 #[.pointer (some ⟨b, 0, none⟩)] w fun e w' => e = .returned (.int .u8 0) ∧ ∃ n, w' = w.drewN n := by
  have h1 : ¬ (k : Int) < 0 := by omega
  have h2 : (s.size : Int) ≤ (k : Int) := by omega
  have hd : decide ((k : Int) < 0) = false := by simp [h1]
  go_enter Try.func13, Try.ntmps13
  go_wp2
  go_quiet (fail)
  go_wp2
  go_ret
  exact ⟨rfl, _, rfl⟩

theorem next_any (s : ByteArray) (b k : Nat) (w : World) (hk : k ≤ s.size) (hm : s.size ≤ 9223372036854775807)
    (c0 : w.cell? ⟨b, 0, none⟩ = some (.string s)) (c1 : w.cell? ⟨b, 1, none⟩ = some (.int .i64 k)) :
    Calls Try.prog 13 #[.pointer (some ⟨b, 0, none⟩)] w fun e w' => e = .returned (.int .u8 (nextB s k)) ∧ ∃ n, w' = w.drewN n := by
  by_cases h : k < s.size
  · rw [nextB_in h]; exact next_in s b k w h hm c0 c1
  · rw [nextB_out h]; exact next_out s b k w h (by omega) hm c0 c1

/-- The reader in block b: its text, how far it has come, the first letter that stood before. -/
structure RS (w : World) (b : Nat) (s : ByteArray) (k : Nat) (tw : Int) : Prop where
  c0 : w.cell? ⟨b, 0, none⟩ = some (.string s)
  c1 : w.cell? ⟨b, 1, none⟩ = some (.int .i64 k)
  c2 : w.cell? ⟨b, 2, none⟩ = some (.int .i64 tw)
  f1 : w.frozen? ⟨b, 1, none⟩ = false
  f2 : w.frozen? ⟨b, 2, none⟩ = false
  le : k ≤ s.size
  lt : s.size ≤ 4611686018427387904

theorem RS.drewN {w : World} {b : Nat} {s : ByteArray} {k : Nat} {tw : Int} (h : RS w b s k tw) (n : Nat) : RS (w.drewN n) b s k tw := by
  obtain ⟨c0, c1, c2, f1, f2, le, lt⟩ := h
  exact ⟨by go_simp, by go_simp, by go_simp, by go_simp, by go_simp, le, lt⟩

theorem gb_set (w : World) (b o : Nat) (v : Value) : w.grownBy (w.setCell ⟨b, o, none⟩ v) (some b) :=
  ⟨rfl, rfl, rfl, by simp [World.setCell], fun k _ hne => Below.heap_setCell _ _ _ _ (fun e => hne (by rw [e]))⟩
theorem gb_drewN (w : World) (n : Nat) (r : Option Nat) : w.grownBy (w.drewN n) r := ⟨rfl, rfl, rfl, Nat.le_refl _, fun _ _ _ => rfl⟩
theorem gb_trans {a b c : World} {row : Option Nat} (h : a.grownBy b row) (k : b.grownBy c row) : a.grownBy c row :=
  ⟨k.os.trans h.os, k.tape.trans h.tape, k.output.trans h.output, Nat.le_trans h.size k.size, fun i hi hne => (k.block i (Nat.lt_of_lt_of_le hi h.size) hne).trans (h.block i hi hne)⟩
theorem gb_below {w w' : World} (h : Below w.heap.size w w') (r : Option Nat) : w.grownBy w' r := ⟨h.os, h.tape, h.output, h.size, fun k hk _ => h.block k hk⟩

theorem RS.set1 {w : World} {b : Nat} {s : ByteArray} {k k' : Nat} {tw : Int} (h : RS w b s k tw) (hk : k' ≤ s.size) : RS (w.setCell ⟨b, 1, none⟩ (.int .i64 k')) b s k' tw := by
  obtain ⟨c0, c1, c2, f1, f2, le, lt⟩ := h
  exact ⟨by go_simp, by go_simp, by go_simp, by go_simp, by go_simp, hk, lt⟩
theorem RS.set2 {w : World} {b : Nat} {s : ByteArray} {k : Nat} {tw tw' : Int} (h : RS w b s k tw) : RS (w.setCell ⟨b, 2, none⟩ (.int .i64 tw')) b s k tw' := by
  obtain ⟨c0, c1, c2, f1, f2, le, lt⟩ := h
  exact ⟨by go_simp, by go_simp, by go_simp, by go_simp, by go_simp, le, lt⟩
theorem RS.kept {w w' : World} {b : Nat} {s : ByteArray} {k : Nat} {tw : Int} {r : Option Nat} (h : RS w b s k tw) (g : w.grownBy w' r) (hr : some b ≠ r) : RS w' b s k tw := by
  have hlt : b < w.heap.size := World.block_lt_of_cell? w ⟨b, 0, none⟩ h.c0
  have e : w'.heap[b]? = w.heap[b]? := g.block b hlt hr
  obtain ⟨c0, c1, c2, f1, f2, le, lt⟩ := h
  have ec : ∀ o, w'.cell? ⟨b, o, none⟩ = w.cell? ⟨b, o, none⟩ := fun o => World.cell?_of_block (a := ⟨b, o, none⟩) e
  have ef : ∀ o, w'.frozen? ⟨b, o, none⟩ = w.frozen? ⟨b, o, none⟩ := fun o => World.frozen?_of_block (a := ⟨b, o, none⟩) e
  exact ⟨by rw [ec]; exact c0, by rw [ec]; exact c1, by rw [ec]; exact c2, by rw [ef]; exact f1, by rw [ef]; exact f2, le, lt⟩

def noteI (tw : Int) (k : Nat) : Int := if tw = -1 then k else tw

set_option maxHeartbeats 400000 in
theorem note_any (s : ByteArray) (b k : Nat) (tw : Int) (w : World) (h : RS w b s k tw) :
    Calls Try.prog 15 #[.pointer (some ⟨b, 0, none⟩)] w fun e w' => e = .returned (.tuple #[]) ∧ RS w' b s k (noteI tw k) ∧ w.grownBy w' (some b) := by
  have H : Hid (RS w b s k tw) := h
  obtain ⟨c0, c1, c2, f1, f2, le, lt⟩ := h
  by_cases ht : tw = -1
  · subst ht
    go_enter Try.func15, Try.ntmps15
    go_wp2
    go_end0
    exact ⟨rfl, by simpa [noteI] using H.out.set2, gb_set _ _ _ _⟩
  · have ht' : (tw == -1) = false := by simpa using ht
    have hn : noteI tw k = tw := by simp [noteI, ht]
    rw [hn]; clear hn
    go_enter Try.func15, Try.ntmps15
    go_wp2
    go_end0
    exact ⟨rfl, H.out, World.grownBy.refl _ _⟩

set_option maxHeartbeats 400000 in
theorem take_any (s : ByteArray) (b k : Nat) (tw : Int) (x : Int) (w : World) (h : RS w b s k tw) (hx : 0 < x) :
    Calls Try.prog 16 #[.pointer (some ⟨b, 0, none⟩), .int .u8 x] w fun e w' =>
      e = .returned (.bool (nextB s k == x)) ∧ RS w' b s (if nextB s k == x then k + 1 else k) tw ∧ w.grownBy w' (some b) := by
  have H : Hid (RS w b s k tw) := h
  obtain ⟨c0, c1, c2, f1, f2, le, lt⟩ := h
  obtain ⟨y, hy⟩ : ∃ y, y = nextB s k := ⟨_, rfl⟩
  have N : ∀ w : World, w.cell? ⟨b, 0, none⟩ = some (.string s) → w.cell? ⟨b, 1, none⟩ = some (.int .i64 k) → Calls Try.prog 13 #[.pointer (some ⟨b, 0, none⟩)] w fun e w' => e = .returned (.int .u8 y) ∧ ∃ n, w' = w.drewN n := by
    intro w c0 c1; rw [hy]; exact next_any s b k w le (by omega) c0 c1
  have hlt : y = x → k < s.size := by
    intro e; by_cases hk : k < s.size
    · exact hk
    · rw [hy, nextB_out hk] at e; omega
  rw [← hy]
  have HY : Hid (y = nextB s k) := hy
  clear hy
  by_cases e : y = x
  · have hl := hlt e
    have e' : (y == x) = true := by simpa using e
    clear hlt e
    go_enter Try.func16, Try.ntmps16
    go_wp2_with (go_at_call 13; refine (N _ (by go_simp) (by go_simp)).mono ?_; rintro e w' ⟨rfl, n, rfl⟩)
    go_ret
    exact ⟨rfl, by simpa using (H.out.drewN n).set1 (k' := k + 1) (by omega), gb_trans (gb_drewN _ n _) (by simpa using gb_set (w.drewN n) b 1 _)⟩
  · have e' : (y == x) = false := by simpa using e
    clear hlt
    go_enter Try.func16, Try.ntmps16
    go_wp2_with (go_at_call 13; refine (N _ (by go_simp) (by go_simp)).mono ?_; rintro e w' ⟨rfl, n, rfl⟩)
    go_ret
    exact ⟨rfl, by simpa using H.out.drewN n, gb_drewN _ n _⟩

def isKindB (x : Int) : Bool := x == 98 || x == 104 || x == 119 || x == 108 || x == 114

set_option maxHeartbeats 400000 in
theorem isKind_any (x : Int) (w : World) :
    Calls Try.prog 20 #[.int .u8 x] w fun e w' => e = .returned (.bool (isKindB x)) ∧ w' = w := by
  by_cases h1 : x = 98
  · subst h1; go_enter Try.func20, Try.ntmps20; go_wp2; go_ret; exact ⟨rfl, rfl⟩
  by_cases h2 : x = 104
  · subst h2; go_enter Try.func20, Try.ntmps20; go_wp2; go_ret; exact ⟨rfl, rfl⟩
  by_cases h3 : x = 119
  · subst h3; go_enter Try.func20, Try.ntmps20; go_wp2; go_ret; exact ⟨rfl, rfl⟩
  by_cases h4 : x = 108
  · subst h4; go_enter Try.func20, Try.ntmps20; go_wp2; go_ret; exact ⟨rfl, rfl⟩
  by_cases h5 : x = 114
  · subst h5; go_enter Try.func20, Try.ntmps20; go_wp2; go_ret; exact ⟨rfl, rfl⟩
  have e : isKindB x = false := by simp [isKindB, h1, h2, h3, h4, h5]
  rw [e]; clear e
  go_enter Try.func20, Try.ntmps20
  go_wp2
  go_ret
  exact ⟨rfl, rfl⟩
end Go.Proofs.Ytiofbnmpppjdbab
