import Derived.Test.YthckelcjncnalabKz06
import Derived.Test.YthckelcjncnalabKz30
import Derived.Deep.RegionWith
namespace Go.Proofs.Ythckelcjncnalab
open Go.RowKit

theorem CV.drew {w : World} {v : Value} {vs : List (Int × SV)} (h : CV w v vs) : CV w.drew v vs := h
/-- The update's slice, as the row 201 of the numbers tells it. -/
def updV (N : Nat → Nat → Int) : Value := .slice (if N 201 4 = 0 then none else some ⟨(N 201 1).toNat, 0, none⟩) (N 201 2).toNat (N 201 3).toNat
/-- The heap in block hb: its schema's slice, its size, its roots; of each object the class, the numbers, the references. -/
structure HP (w : World) (hb : Nat) (sv : SV) (sz : Int) (R : Nat → Nat) (K : Nat → Int) (N : Nat → Nat → Int) (F : Nat → Nat → Nat) : Prop where
  sch : w.cell? ⟨hb, 0, none⟩ = some (.slice sv.a sv.n sv.c)
  size : w.cell? ⟨hb, 1, none⟩ = some (.int .i64 sz)
  root : ∀ i, i < 8 → w.cell? ⟨hb, 2 + i, none⟩ = some (.int .i64 (R i))
  cls : ∀ i, i < 201 → w.cell? ⟨hb, 10 + i * 13, none⟩ = some (.int .u8 (K i))
  num : ∀ i j, i < 201 → j < 6 → w.cell? ⟨hb, 10 + i * 13 + 1 + j, none⟩ = some (.int .i64 (N i j))
  ref : ∀ i j, i < 201 → j < 6 → w.cell? ⟨hb, 10 + i * 13 + 7 + j, none⟩ = some (.int .i64 (F i j))
  frz : ∀ o, w.frozen? ⟨hb, o, none⟩ = false
  pend : w.cell? ⟨hb, 2623, none⟩ = some (.bool (decide (N 201 0 ≠ 0)))
  upd : w.cell? ⟨hb, 2625, none⟩ = some (updV N)

set_option maxHeartbeats 400000 in
theorem isRoot_any (x : Int) (w : World) : Calls Try.prog 23 #[.int .i64 x] w fun e w' => e = .returned (.bool (rtB x)) ∧ w' = w := by
  unfold rtB
  by_cases h : 0 ≤ x
  · go_enter Try.func23, Try.ntmps23
    go_wp2
    go_ret
    exact ⟨by rw [decide_eq_true h]; rfl, rfl⟩
  · go_enter Try.func23, Try.ntmps23
    go_wp2
    go_ret
    exact ⟨by rw [decide_eq_false (by omega)]; rfl, rfl⟩
theorem isRoot_rs {x : Int} {w : World} (y : Bool) (hy : rtB x = y) : Calls Try.prog 23 #[.int .i64 x] w fun e w' => e = .returned (.bool y) ∧ w' = w := by
  subst hy; exact isRoot_any x w
/-- What held tells: the object's number, the error. -/
def heldI (R : Nat → Nat) (root : Int) : Nat × Int := if rtB root = false then (0, 8) else if R root.toNat = 0 then (0, 9) else (R root.toNat, 0)
theorem HP.lt {w : World} {hb : Nat} {sv : SV} {sz : Int} {R : Nat → Nat} {K : Nat → Int} {N : Nat → Nat → Int} {F : Nat → Nat → Nat} (h : HP w hb sv sz R K N F) : hb < w.heap.size := World.block_lt_of_cell? w ⟨hb, 0, none⟩ h.sch
set_option maxHeartbeats 400000 in
theorem held_any (hb : Nat) (sv : SV) (sz : Int) (R : Nat → Nat) (K : Nat → Int) (N : Nat → Nat → Int) (F : Nat → Nat → Nat) (w : World) (h : HP w hb sv sz R K N F) (root : Int) :
    Calls Try.prog 32 #[.pointer (some ⟨hb, 0, none⟩), .int .i64 root] w fun e w' => e = .returned (.tuple #[.int .i64 (heldI R root).1, .int .i64 (heldI R root).2]) ∧ w' = w := by
  have hbl := h.lt
  cases h1 : rtB root with
  | false =>
    have e : heldI R root = (0, 8) := by unfold heldI; rw [if_pos h1]
    rw [e]; clear e
    go_enter Try.func32, Try.ntmps32
    go_wp2_with (go_at_call 23; refine (isRoot_rs false h1).mono ?_; rintro e w' ⟨rfl, rfl⟩)
    go_ret2
    exact ⟨rfl, rfl⟩
  | true =>
    obtain ⟨r, rfl, hr8⟩ := rtB_nat h1
    have cr := h.root r hr8
    have hi : (0 : Int) ≤ (r : Int) ∧ (r : Int) < 8 := by omega
    by_cases h2 : R r = 0
    · have e : heldI R r = (0, 9) := by unfold heldI; rw [if_neg (by rw [h1]; decide), Int.toNat_natCast, if_pos h2]
      rw [e]; clear e
      rw [h2] at cr
      go_enter Try.func32, Try.ntmps32
      go_wp2_with (go_at_call 23; refine (isRoot_rs true h1).mono ?_; rintro e w' ⟨rfl, rfl⟩)
      go_ret2
      exact ⟨rfl, rfl⟩
    · have e : heldI R r = (R r, 0) := by unfold heldI; rw [if_neg (by rw [h1]; decide), Int.toNat_natCast, if_neg h2]
      rw [e]; clear e
      have hne : ((R r : Int) == 0) = false := by simp; omega
      go_enter Try.func32, Try.ntmps32
      go_wp2_with (go_at_call 23; refine (isRoot_rs true h1).mono ?_; rintro e w' ⟨rfl, rfl⟩)
      go_ret2
      exact ⟨rfl, rfl⟩

set_option maxHeartbeats 1000000 in
theorem classOf_any (hb n : Nat) (sv : SV) (sz : Int) (R : Nat → Nat) (K : Nat → Int) (N : Nat → Nat → Int) (F : Nat → Nat → Nat) (vs : List (Int × SV)) (w : World) (h : HP w hb sv sz R K N F) (hv : CV w (.slice sv.a sv.n sv.c) vs) (hn : n < 201) :
    Calls Try.prog 42 #[.pointer (some ⟨hb, 0, none⟩), .int .i64 n] w fun e w' => e = .returned (clsV (findC vs (K n))) ∧ Below w.heap.size w w' := by
  have hbl : hb < w.heap.size := World.block_lt_of_cell? w ⟨hb, 0, none⟩ h.sch
  have c0 := h.sch
  have c1 := h.cls n hn
  have V0 : CV (w.alloc (.cells #[.int .u8 0, .slice none 0 0] 69)) (.slice sv.a sv.n sv.c) vs := hv.alloc _
  have hi : (0 : Int) ≤ (n : Int) ∧ (n : Int) < 201 := by omega
  obtain ⟨l, a, m, c, hf⟩ : ∃ l a m c, findC vs (K n) = (l, ⟨a, m, c⟩) := ⟨_, _, _, _, rfl⟩
  obtain ⟨y, hy⟩ : ∃ y, hasC vs (K n) = y := ⟨_, rfl⟩
  have FC : ∀ W : World, CV W (.slice sv.a sv.n sv.c) vs → Calls Try.prog 24 #[.agg #[.slice sv.a sv.n sv.c], .int .u8 (K n)] W fun e w' => e = .returned (.tuple #[.agg #[.int .u8 l, .slice a m c], .bool y]) ∧ Below W.heap.size W w' := by
    intro W hW
    have := find_any (K n) _ vs W hW
    rw [hf, hy] at this
    exact this
  rw [hf]
  show Calls _ _ _ _ fun e w' => e = .returned (.agg #[.int .u8 l, .slice a m c]) ∧ _
  clear hf hy hv
  go_enter Try.func42, Try.ntmps42
  go_wp2
  go_region_with (go_at_call 24; refine (FC _ (by with_reducible repeat first | exact V0 | apply CV.drew | apply CV.alloc)).mono ?_; rintro e w2 ⟨rfl, hb2⟩; have hz2 : w.heap.size < w2.heap.size := (by have := hb2.size; simp at this; omega); have r0 : w2.cell? ⟨w.heap.size, 0, none⟩ = some (.int .u8 0) := (hb2.cell (by show w.heap.size < _; simp; try omega)).trans (by go_simp); have r1 : w2.cell? ⟨w.heap.size, 1, none⟩ = some (.slice none 0 0) := (hb2.cell (by show w.heap.size < _; simp; try omega)).trans (by go_simp); have rf0 : w2.frozen? ⟨w.heap.size, 0, none⟩ = false := (hb2.frozen (by show w.heap.size < _; simp; try omega)).trans (by go_simp); have rf1 : w2.frozen? ⟨w.heap.size, 1, none⟩ = false := (hb2.frozen (by show w.heap.size < _; simp; try omega)).trans (by go_simp); (first | (have hq : w.heap.size + 1 < w2.heap.size := (by have := hb2.size; simp at this; omega); have q0 : w2.cell? ⟨w.heap.size + 1, 0, none⟩ = some (.int .u8 0) := (hb2.cell (by show w.heap.size + 1 < _; simp)).trans (by go_simp); have q1 : w2.cell? ⟨w.heap.size + 1, 1, none⟩ = some (.slice none 0 0) := (hb2.cell (by show w.heap.size + 1 < _; simp)).trans (by go_simp); have qf0 : w2.frozen? ⟨w.heap.size + 1, 0, none⟩ = false := (hb2.frozen (by show w.heap.size + 1 < _; simp)).trans (by go_simp); have qf1 : w2.frozen? ⟨w.heap.size + 1, 1, none⟩ = false := (hb2.frozen (by show w.heap.size + 1 < _; simp)).trans (by go_simp)) | skip))
  all_goals
    have B2 : Below w.heap.size w w2 := by
      first
        | exact (((Below.refl _ w).alloc (Nat.le_refl _) _).drew).trans (hb2.mono (by simp))
        | exact ((((Below.refl _ w).alloc (Nat.le_refl _) _).alloc (by simp) _).drew).trans (hb2.mono (by simp; omega))
    have hs2 := B2.size
    clear hb2
    go_wp2
    refine bodyPost_ret (v := .agg #[.int .u8 l, .slice a m c]) (by simp [results, Try.results42, go_sem, r0, r1, hz2]) rfl ⟨rfl, ?_⟩
    with_reducible repeat first | exact B2 | apply Below.drew | (refine Below.setCell ?_ (by first | exact Nat.le_refl _ | (show w.heap.size ≤ w.heap.size + 1; omega)) _) | (refine Below.alloc ?_ (by simp; omega) _)
end Go.Proofs.Ythckelcjncnalab
