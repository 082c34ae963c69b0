import Derived.Test.YtiofbnmpppjdbabRd2
namespace Go.Proofs.Ytiofbnmpppjdbab
open Go.RowKit

structure RF where
  ok : Bool
  at_ : Nat
  tw : Int
  l : Int
  kd : Int

/-- What readField does: the field that stands at k, behind the fields fs. -/
def rdField (s : ByteArray) (fs : List (Int × Int)) (k : Nat) (tw : Int) : RF :=
  if nextB s k < 97 ∨ 122 < nextB s k then ⟨false, k, tw, 0, 0⟩
  else if nextB s (k + 1) = 58 then
    if isKindB (nextB s (k + 2)) = true then ⟨true, k + 3, if 0 ≤ idxF fs (nextB s k) then noteI tw k else tw, nextB s k, nextB s (k + 2)⟩
    else ⟨false, k + 2, if 0 ≤ idxF fs (nextB s k) then noteI tw k else tw, 0, 0⟩
  else ⟨false, k + 1, if 0 ≤ idxF fs (nextB s k) then noteI tw k else tw, 0, 0⟩

theorem nextB_pos {s : ByteArray} {k : Nat} (h : 0 < nextB s k) : k < s.size := by
  by_cases hk : k < s.size
  · exact hk
  · rw [nextB_out hk] at h; omega
theorem isKindB_pos {x : Int} (h : isKindB x = true) : 0 < x := by
  simp [isKindB] at h; omega

theorem loc {W w' : World} {b r : Nat} (g : W.grownBy w' (some b)) (hr : r < W.heap.size) (hne : r ≠ b) :
    (∀ o, w'.cell? ⟨r, o, none⟩ = W.cell? ⟨r, o, none⟩) ∧ (∀ o, w'.frozen? ⟨r, o, none⟩ = W.frozen? ⟨r, o, none⟩) ∧ r < w'.heap.size := by
  have e := g.block r hr (by simpa using hne)
  exact ⟨fun o => World.cell?_of_block (a := ⟨r, o, none⟩) e, fun o => World.frozen?_of_block (a := ⟨r, o, none⟩) e, Nat.lt_of_lt_of_le hr g.size⟩

theorem FV.alloc {w : World} {v : Value} {fs : List (Int × Int)} (h : FV w v fs) (o : Obj) : FV (w.alloc o) v fs := World.ownsRow.alloc h o
theorem FV.drewN {w : World} {v : Value} {fs : List (Int × Int)} (h : FV w v fs) (n : Nat) : FV (w.drewN n) v fs := h
theorem FV.below {w w' : World} {v : Value} {fs : List (Int × Int)} (h : FV w v fs) (hb : Below w.heap.size w w') : FV w' v fs := World.ownsRow.kept h (gb_below hb none) (by cases hv : v.ownBlock <;> simp)
theorem RS.blt {w : World} {b : Nat} {s : ByteArray} {k : Nat} {tw : Int} (h : RS w b s k tw) : b < w.heap.size := World.block_lt_of_cell? w ⟨b, 0, none⟩ h.c0
theorem RS.alloc {w : World} {b : Nat} {s : ByteArray} {k : Nat} {tw : Int} (h : RS w b s k tw) (o : Obj) : RS (w.alloc o) b s k tw := h.kept (World.grownBy_alloc w o none) (by simp)
theorem RS.below {w w' : World} {b : Nat} {s : ByteArray} {k : Nat} {tw : Int} (h : RS w b s k tw) (hb : Below w.heap.size w w') : RS w' b s k tw := h.kept (gb_below hb none) (by simp)

theorem gb_setNew {a w : World} {row : Option Nat} (h : a.grownBy w row) {p o : Nat} (hp : a.heap.size ≤ p) (u : Value) : a.grownBy (w.setCell ⟨p, o, none⟩ u) row :=
  ⟨h.os, h.tape, h.output, by simpa [World.setCell] using h.size, fun k hk hne => (Below.heap_setCell _ _ _ _ (by show k ≠ p; omega)).trans (h.block k hk hne)⟩
theorem gb_alloc {a w : World} {row : Option Nat} (h : a.grownBy w row) (o : Obj) : a.grownBy (w.alloc o) row := gb_trans h (World.grownBy_alloc w o row)
theorem gb_drew {a w : World} {row : Option Nat} (h : a.grownBy w row) (n : Nat) : a.grownBy (w.drewN n) row := gb_trans h (gb_drewN w n row)
theorem gb_setB {a w : World} {b : Nat} (h : a.grownBy w (some b)) (o : Nat) (u : Value) : a.grownBy (w.setCell ⟨b, o, none⟩ u) (some b) := gb_trans h (gb_set w b o u)
theorem RS.setOther {w : World} {b : Nat} {s : ByteArray} {k : Nat} {tw : Int} (h : RS w b s k tw) {r o : Nat} (hr : b ≠ r) (u : Value) : RS (w.setCell ⟨r, o, none⟩ u) b s k tw :=
  h.kept (gb_set w r o u) (by simpa using hr)

theorem RS.inc {w : World} {b : Nat} {s : ByteArray} {k : Nat} {tw : Int} (h : RS w b s k tw) (hk : k < s.size) : RS (w.setCell ⟨b, 1, none⟩ (.int .i64 ((k : Int) + 1))) b s (k + 1) tw := by
  have := h.set1 (k' := k + 1) (by omega)
  simpa using this

set_option maxHeartbeats 400000 in
theorem field_no (s : ByteArray) (b k : Nat) (tw L : Int) (v : Value) (w : World) (h : RS w b s k tw)
    (hy : nextB s k < 97 ∨ 122 < nextB s k) :
    Calls Try.prog 18 #[.pointer (some ⟨b, 0, none⟩), .agg #[.int .u8 L, v]] w fun e w' =>
      e = .returned (.tuple #[.agg #[.int .u8 0, .int .u8 0], .bool false]) ∧ RS w' b s k tw ∧ w.grownBy w' (some b) := by
  have hb := h.blt
  have H : Hid (RS w b s k tw) := h
  obtain ⟨c0, c1, c2, f1, f2, le, lt⟩ := h
  have N : ∀ w : World, w.cell? ⟨b, 0, none⟩ = some (.string s) → w.cell? ⟨b, 1, none⟩ = some (.int .i64 k) → Calls Try.prog 13 #[.pointer (some ⟨b, 0, none⟩)] w fun e w' => e = .returned (.int .u8 (nextB s k)) ∧ ∃ n, w' = w.drewN n :=
    fun w c0 c1 => next_any s b k w le (by omega) c0 c1
  generalize nextB s k = y at hy N
  rcases hy with hy | hy
  all_goals
    go_enter Try.func18, Try.ntmps18
    go_wp2_with (go_at_call 13; refine (N _ (by go_simp) (by go_simp)).mono ?_; rintro e w' ⟨rfl, n, rfl⟩)
    refine bodyPost_ret (v := .tuple #[.agg #[.int .u8 0, .int .u8 0], .bool false]) (by simp [results, Try.results18, go_sem]) rfl ⟨rfl, ?_, ?_⟩
    · exact ((((H.out.alloc _).alloc _).drewN n).setOther (by omega) _).setOther (by omega) _
    · exact gb_setNew (gb_setNew (gb_drew (gb_alloc (gb_alloc (World.grownBy.refl _ _) _) _) n) (by omega) _) (by omega) _

theorem next_rs {s : ByteArray} {b k : Nat} {tw : Int} {w : World} (h : RS w b s k tw) :
    Calls Try.prog 13 #[.pointer (some ⟨b, 0, none⟩)] w fun e w' => e = .returned (.int .u8 (nextB s k)) ∧ ∃ n, w' = w.drewN n :=
  next_any s b k w h.le (by have := h.lt; omega) h.c0 h.c1
theorem take_rs {s : ByteArray} {b k : Nat} {tw x : Int} {w : World} (h : RS w b s k tw) (hx : 0 < x) (y : Bool) (hy : (nextB s k == x) = y) :
    Calls Try.prog 16 #[.pointer (some ⟨b, 0, none⟩), .int .u8 x] w fun e w' =>
      e = .returned (.bool y) ∧ RS w' b s (if y then k + 1 else k) tw ∧ w.grownBy w' (some b) := by
  subst hy; exact take_any s b k tw x w h hx
theorem isKind_rs {x : Int} {w : World} (y : Bool) (hy : isKindB x = y) :
    Calls Try.prog 20 #[.int .u8 x] w fun e w' => e = .returned (.bool y) ∧ w' = w := by
  subst hy; exact isKind_any x w

/-- What stands of a callee's frame: the block r of our own is as it was. -/
structure Loc (W w' : World) (r : Nat) : Prop where
  c : ∀ o, w'.cell? ⟨r, o, none⟩ = W.cell? ⟨r, o, none⟩
  f : ∀ o, w'.frozen? ⟨r, o, none⟩ = W.frozen? ⟨r, o, none⟩
  l : r < w'.heap.size
theorem Loc.of {W w' : World} {b r : Nat} (g : W.grownBy w' (some b)) (hr : r < W.heap.size) (hne : r ≠ b) : Loc W w' r := ⟨(loc g hr hne).1, (loc g hr hne).2.1, (loc g hr hne).2.2⟩

set_option maxHeartbeats 600000 in
theorem field_100 (s : ByteArray) (b k : Nat) (tw L : Int) (v : Value) (fs : List (Int × Int)) (w : World) (h : RS w b s k tw) (hv : FV w v fs)
    (hy1 : 97 ≤ nextB s k) (hy2 : nextB s k ≤ 122) (hi : 0 ≤ idxF fs (nextB s k)) (hb1 : (nextB s (k + 1) == 58) = false) :
    Calls Try.prog 18 #[.pointer (some ⟨b, 0, none⟩), .agg #[.int .u8 L, v]] w fun e w' =>
      e = .returned (.tuple #[.agg #[.int .u8 0, .int .u8 0], .bool false]) ∧ RS w' b s (k + 1) (noteI tw k) ∧ w.grownBy w' (some b) := by
  have hb := h.blt
  have hk : k < s.size := nextB_pos (by omega)
  have R0 : RS ((w.alloc (.cells #[.int .u8 L, v] 59)).alloc (.cells #[.int .u8 0, .int .u8 0] 68)) b s k tw := (h.alloc _).alloc _
  have V0 : FV ((w.alloc (.cells #[.int .u8 L, v] 59)).alloc (.cells #[.int .u8 0, .int .u8 0] 68)) v fs := (hv.alloc _).alloc _
  have G1 : w.grownBy ((w.alloc (.cells #[.int .u8 L, v] 59)).alloc (.cells #[.int .u8 0, .int .u8 0] 68)) (some b) := gb_alloc (gb_alloc (World.grownBy.refl _ _) _) _
  clear h hv
  go_enter Try.func18, Try.ntmps18
  go_wp2_with (first | (go_at_call 13; refine (next_rs R0).mono ?_; rintro e w' ⟨rfl, n, rfl⟩; have V1 := V0.drewN n; have R1 := R0.drewN n) | (go_at_call 19; refine (index_any L (nextB s k) v fs _ V1).mono ?_; rintro e w2 ⟨rfl, hb2⟩; have R2 := R1.below hb2; obtain ⟨p0, p1, p2, q1, q2, _, _⟩ := id R2; obtain ⟨lc2, lf2, ls2⟩ := Loc.of (gb_below hb2 (some b)) (r := w.heap.size + 1) (by simp) (by omega); have G2 := gb_trans G1 (gb_trans (gb_drewN _ n _) (gb_below hb2 (some b))); clear hb2) | (go_at_call 15; refine (note_any s b k tw w2 R2).mono ?_; rintro e w3 ⟨rfl, R3, hg3⟩; obtain ⟨p0, p1, p2, q1, q2, _, _⟩ := id R3; obtain ⟨lc3, lf3, ls3⟩ := Loc.of hg3 (r := w.heap.size + 1) ls2 (by omega); have G3 := gb_trans G2 hg3; clear hg3; have R3i := R3.inc hk; have G3i := gb_setB G3 1 (.int .i64 ((k : Int) + 1))) | (go_at_call 16; refine (take_rs R3i (by omega) false hb1).mono ?_; rintro e w4 ⟨rfl, R4', hg4⟩; have R4 : RS w4 b s (k + 1) _ := R4'; clear R4'; obtain ⟨p0, p1, p2, q1, q2, _, _⟩ := id R4; obtain ⟨lc4, lf4, ls4⟩ := Loc.of hg4 (r := w.heap.size + 1) (by simpa using ls3) (by omega); have G4 := gb_trans G3i hg4; clear hg4))
  refine bodyPost_ret (v := .tuple #[.agg #[.int .u8 0, .int .u8 0], .bool false]) (by simp [results, Try.results18, go_sem, lc2, lc3, lc4]) rfl ⟨rfl, ?_, ?_⟩
  · exact (R4.setOther (by omega) _).setOther (by omega) _
  · exact gb_setNew (gb_setNew G4 (by omega) _) (by omega) _

set_option maxHeartbeats 600000 in
theorem field_110 (s : ByteArray) (b k : Nat) (tw L : Int) (v : Value) (fs : List (Int × Int)) (w : World) (h : RS w b s k tw) (hv : FV w v fs)
    (hy1 : 97 ≤ nextB s k) (hy2 : nextB s k ≤ 122) (hi : 0 ≤ idxF fs (nextB s k)) (hb1 : (nextB s (k + 1) == 58) = true) (hb2 : isKindB (nextB s (k + 1 + 1)) = false) :
    Calls Try.prog 18 #[.pointer (some ⟨b, 0, none⟩), .agg #[.int .u8 L, v]] w fun e w' =>
      e = .returned (.tuple #[.agg #[.int .u8 0, .int .u8 0], .bool false]) ∧ RS w' b s (k + 1 + 1) (noteI tw k) ∧ w.grownBy w' (some b) := by
  have hb := h.blt
  have hk : k < s.size := nextB_pos (by omega)
  have R0 : RS ((w.alloc (.cells #[.int .u8 L, v] 59)).alloc (.cells #[.int .u8 0, .int .u8 0] 68)) b s k tw := (h.alloc _).alloc _
  have V0 : FV ((w.alloc (.cells #[.int .u8 L, v] 59)).alloc (.cells #[.int .u8 0, .int .u8 0] 68)) v fs := (hv.alloc _).alloc _
  have G1 : w.grownBy ((w.alloc (.cells #[.int .u8 L, v] 59)).alloc (.cells #[.int .u8 0, .int .u8 0] 68)) (some b) := gb_alloc (gb_alloc (World.grownBy.refl _ _) _) _
  clear h hv
  go_enter Try.func18, Try.ntmps18
  go_wp2_with (first | (go_at_call 13; refine (next_rs R0).mono ?_; rintro e w' ⟨rfl, n, rfl⟩; have V1 := V0.drewN n; have R1 := R0.drewN n) | (go_at_call 19; refine (index_any L (nextB s k) v fs _ V1).mono ?_; rintro e w2 ⟨rfl, hb2⟩; have R2 := R1.below hb2; obtain ⟨p0, p1, p2, q1, q2, _, _⟩ := id R2; obtain ⟨lc2, lf2, ls2⟩ := Loc.of (gb_below hb2 (some b)) (r := w.heap.size + 1) (by simp) (by omega); have G2 := gb_trans G1 (gb_trans (gb_drewN _ n _) (gb_below hb2 (some b))); clear hb2) | (go_at_call 15; refine (note_any s b k tw w2 R2).mono ?_; rintro e w3 ⟨rfl, R3, hg3⟩; obtain ⟨p0, p1, p2, q1, q2, _, _⟩ := id R3; obtain ⟨lc3, lf3, ls3⟩ := Loc.of hg3 (r := w.heap.size + 1) ls2 (by omega); have G3 := gb_trans G2 hg3; clear hg3; have R3i := R3.inc hk; have G3i := gb_setB G3 1 (.int .i64 ((k : Int) + 1))) | (go_at_call 16; refine (take_rs R3i (by omega) true hb1).mono ?_; rintro e w4 ⟨rfl, R4', hg4⟩; have R4 : RS w4 b s (k + 1 + 1) _ := R4'; clear R4'; obtain ⟨p0, p1, p2, q1, q2, _, _⟩ := id R4; obtain ⟨lc4, lf4, ls4⟩ := Loc.of hg4 (r := w.heap.size + 1) (by simpa using ls3) (by omega); have G4 := gb_trans G3i hg4; clear hg4))
  go_wp2_with (first | (go_at_call 13; refine (next_rs R4).mono ?_; rintro e w' ⟨rfl, n2, rfl⟩; have R5 := R4.drewN n2) | (go_at_call 20; refine (isKind_rs false hb2).mono ?_; rintro e w' ⟨rfl, rfl⟩))
  refine bodyPost_ret (v := .tuple #[.agg #[.int .u8 0, .int .u8 0], .bool false]) (by simp [results, Try.results18, go_sem, lc2, lc3, lc4]) rfl ⟨rfl, ?_, ?_⟩
  · exact (R5.setOther (by omega) _).setOther (by omega) _
  · exact gb_setNew (gb_setNew (gb_drew G4 n2) (by omega) _) (by omega) _

set_option maxHeartbeats 600000 in
theorem field_111 (s : ByteArray) (b k : Nat) (tw L : Int) (v : Value) (fs : List (Int × Int)) (w : World) (h : RS w b s k tw) (hv : FV w v fs)
    (hy1 : 97 ≤ nextB s k) (hy2 : nextB s k ≤ 122) (hi : 0 ≤ idxF fs (nextB s k)) (hb1 : (nextB s (k + 1) == 58) = true) (hb2 : isKindB (nextB s (k + 1 + 1)) = true) :
    Calls Try.prog 18 #[.pointer (some ⟨b, 0, none⟩), .agg #[.int .u8 L, v]] w fun e w' =>
      e = .returned (.tuple #[.agg #[.int .u8 (nextB s k), .int .u8 (nextB s (k + 1 + 1))], .bool true]) ∧ RS w' b s (k + 1 + 1 + 1) (noteI tw k) ∧ w.grownBy w' (some b) := by
  have hb := h.blt
  have hk : k < s.size := nextB_pos (by omega)
  have hk2 : k + 1 + 1 < s.size := nextB_pos (isKindB_pos hb2)
  have R0 : RS ((w.alloc (.cells #[.int .u8 L, v] 59)).alloc (.cells #[.int .u8 0, .int .u8 0] 68)) b s k tw := (h.alloc _).alloc _
  have V0 : FV ((w.alloc (.cells #[.int .u8 L, v] 59)).alloc (.cells #[.int .u8 0, .int .u8 0] 68)) v fs := (hv.alloc _).alloc _
  have G1 : w.grownBy ((w.alloc (.cells #[.int .u8 L, v] 59)).alloc (.cells #[.int .u8 0, .int .u8 0] 68)) (some b) := gb_alloc (gb_alloc (World.grownBy.refl _ _) _) _
  clear h hv
  go_enter Try.func18, Try.ntmps18
  go_wp2_with (first | (go_at_call 13; refine (next_rs R0).mono ?_; rintro e w' ⟨rfl, n, rfl⟩; have V1 := V0.drewN n; have R1 := R0.drewN n) | (go_at_call 19; refine (index_any L (nextB s k) v fs _ V1).mono ?_; rintro e w2 ⟨rfl, hb2⟩; have R2 := R1.below hb2; obtain ⟨p0, p1, p2, q1, q2, _, _⟩ := id R2; obtain ⟨lc2, lf2, ls2⟩ := Loc.of (gb_below hb2 (some b)) (r := w.heap.size + 1) (by simp) (by omega); have G2 := gb_trans G1 (gb_trans (gb_drewN _ n _) (gb_below hb2 (some b))); clear hb2) | (go_at_call 15; refine (note_any s b k tw w2 R2).mono ?_; rintro e w3 ⟨rfl, R3, hg3⟩; obtain ⟨p0, p1, p2, q1, q2, _, _⟩ := id R3; obtain ⟨lc3, lf3, ls3⟩ := Loc.of hg3 (r := w.heap.size + 1) ls2 (by omega); have G3 := gb_trans G2 hg3; clear hg3; have R3i := R3.inc hk; have G3i := gb_setB G3 1 (.int .i64 ((k : Int) + 1))) | (go_at_call 16; refine (take_rs R3i (by omega) true hb1).mono ?_; rintro e w4 ⟨rfl, R4', hg4⟩; have R4 : RS w4 b s (k + 1 + 1) _ := R4'; clear R4'; obtain ⟨p0, p1, p2, q1, q2, _, _⟩ := id R4; obtain ⟨lc4, lf4, ls4⟩ := Loc.of hg4 (r := w.heap.size + 1) (by simpa using ls3) (by omega); have G4 := gb_trans G3i hg4; clear hg4))
  go_wp2_with (first | (go_at_call 13; refine (next_rs R4).mono ?_; rintro e w' ⟨rfl, n2, rfl⟩; have R5 := R4.drewN n2) | (go_at_call 20; refine (isKind_rs true hb2).mono ?_; rintro e w' ⟨rfl, rfl⟩))
  refine bodyPost_ret (v := .tuple #[.agg #[.int .u8 (nextB s k), .int .u8 (nextB s (k + 1 + 1))], .bool true]) (by simp [results, Try.results18, go_sem, lc2, lc3, lc4]) rfl ⟨rfl, ?_, ?_⟩
  · exact ((R5.inc hk2).setOther (by omega) _).setOther (by omega) _
  · exact gb_setNew (gb_setNew (gb_setB (gb_drew G4 n2) 1 _) (by omega) _) (by omega) _

set_option maxHeartbeats 600000 in
theorem field_000 (s : ByteArray) (b k : Nat) (tw L : Int) (v : Value) (fs : List (Int × Int)) (w : World) (h : RS w b s k tw) (hv : FV w v fs)
    (hy1 : 97 ≤ nextB s k) (hy2 : nextB s k ≤ 122) (hi : ¬ 0 ≤ idxF fs (nextB s k)) (hb1 : (nextB s (k + 1) == 58) = false) :
    Calls Try.prog 18 #[.pointer (some ⟨b, 0, none⟩), .agg #[.int .u8 L, v]] w fun e w' =>
      e = .returned (.tuple #[.agg #[.int .u8 0, .int .u8 0], .bool false]) ∧ RS w' b s (k + 1) (tw) ∧ w.grownBy w' (some b) := by
  have hb := h.blt
  have hk : k < s.size := nextB_pos (by omega)
  have R0 : RS ((w.alloc (.cells #[.int .u8 L, v] 59)).alloc (.cells #[.int .u8 0, .int .u8 0] 68)) b s k tw := (h.alloc _).alloc _
  have V0 : FV ((w.alloc (.cells #[.int .u8 L, v] 59)).alloc (.cells #[.int .u8 0, .int .u8 0] 68)) v fs := (hv.alloc _).alloc _
  have G1 : w.grownBy ((w.alloc (.cells #[.int .u8 L, v] 59)).alloc (.cells #[.int .u8 0, .int .u8 0] 68)) (some b) := gb_alloc (gb_alloc (World.grownBy.refl _ _) _) _
  clear h hv
  go_enter Try.func18, Try.ntmps18
  go_wp2_with (first | (go_at_call 13; refine (next_rs R0).mono ?_; rintro e w' ⟨rfl, n, rfl⟩; have V1 := V0.drewN n; have R1 := R0.drewN n) | (go_at_call 19; refine (index_any L (nextB s k) v fs _ V1).mono ?_; rintro e w2 ⟨rfl, hb2⟩; have R2 := R1.below hb2; obtain ⟨p0, p1, p2, q1, q2, _, _⟩ := id R2; obtain ⟨lc2, lf2, ls2⟩ := Loc.of (gb_below hb2 (some b)) (r := w.heap.size + 1) (by simp) (by omega); have G2 := gb_trans G1 (gb_trans (gb_drewN _ n _) (gb_below hb2 (some b))); clear hb2; have R2i := R2.inc hk; have G2i := gb_setB G2 1 (.int .i64 ((k : Int) + 1))) | (go_at_call 16; refine (take_rs R2i (by omega) false hb1).mono ?_; rintro e w4 ⟨rfl, R4', hg4⟩; have R4 : RS w4 b s (k + 1) _ := R4'; clear R4'; obtain ⟨p0, p1, p2, q1, q2, _, _⟩ := id R4; obtain ⟨lc4, lf4, ls4⟩ := Loc.of hg4 (r := w.heap.size + 1) (by simpa using ls2) (by omega); have G4 := gb_trans G2i hg4; clear hg4))
  refine bodyPost_ret (v := .tuple #[.agg #[.int .u8 0, .int .u8 0], .bool false]) (by simp [results, Try.results18, go_sem, lc2, lc4]) rfl ⟨rfl, ?_, ?_⟩
  · exact (R4.setOther (by omega) _).setOther (by omega) _
  · exact gb_setNew (gb_setNew G4 (by omega) _) (by omega) _

set_option maxHeartbeats 600000 in
theorem field_010 (s : ByteArray) (b k : Nat) (tw L : Int) (v : Value) (fs : List (Int × Int)) (w : World) (h : RS w b s k tw) (hv : FV w v fs)
    (hy1 : 97 ≤ nextB s k) (hy2 : nextB s k ≤ 122) (hi : ¬ 0 ≤ idxF fs (nextB s k)) (hb1 : (nextB s (k + 1) == 58) = true) (hb2 : isKindB (nextB s (k + 1 + 1)) = false) :
    Calls Try.prog 18 #[.pointer (some ⟨b, 0, none⟩), .agg #[.int .u8 L, v]] w fun e w' =>
      e = .returned (.tuple #[.agg #[.int .u8 0, .int .u8 0], .bool false]) ∧ RS w' b s (k + 1 + 1) (tw) ∧ w.grownBy w' (some b) := by
  have hb := h.blt
  have hk : k < s.size := nextB_pos (by omega)
  have R0 : RS ((w.alloc (.cells #[.int .u8 L, v] 59)).alloc (.cells #[.int .u8 0, .int .u8 0] 68)) b s k tw := (h.alloc _).alloc _
  have V0 : FV ((w.alloc (.cells #[.int .u8 L, v] 59)).alloc (.cells #[.int .u8 0, .int .u8 0] 68)) v fs := (hv.alloc _).alloc _
  have G1 : w.grownBy ((w.alloc (.cells #[.int .u8 L, v] 59)).alloc (.cells #[.int .u8 0, .int .u8 0] 68)) (some b) := gb_alloc (gb_alloc (World.grownBy.refl _ _) _) _
  clear h hv
  go_enter Try.func18, Try.ntmps18
  go_wp2_with (first | (go_at_call 13; refine (next_rs R0).mono ?_; rintro e w' ⟨rfl, n, rfl⟩; have V1 := V0.drewN n; have R1 := R0.drewN n) | (go_at_call 19; refine (index_any L (nextB s k) v fs _ V1).mono ?_; rintro e w2 ⟨rfl, hb2⟩; have R2 := R1.below hb2; obtain ⟨p0, p1, p2, q1, q2, _, _⟩ := id R2; obtain ⟨lc2, lf2, ls2⟩ := Loc.of (gb_below hb2 (some b)) (r := w.heap.size + 1) (by simp) (by omega); have G2 := gb_trans G1 (gb_trans (gb_drewN _ n _) (gb_below hb2 (some b))); clear hb2; have R2i := R2.inc hk; have G2i := gb_setB G2 1 (.int .i64 ((k : Int) + 1))) | (go_at_call 16; refine (take_rs R2i (by omega) true hb1).mono ?_; rintro e w4 ⟨rfl, R4', hg4⟩; have R4 : RS w4 b s (k + 1 + 1) _ := R4'; clear R4'; obtain ⟨p0, p1, p2, q1, q2, _, _⟩ := id R4; obtain ⟨lc4, lf4, ls4⟩ := Loc.of hg4 (r := w.heap.size + 1) (by simpa using ls2) (by omega); have G4 := gb_trans G2i hg4; clear hg4))
  go_wp2_with (first | (go_at_call 13; refine (next_rs R4).mono ?_; rintro e w' ⟨rfl, n2, rfl⟩; have R5 := R4.drewN n2) | (go_at_call 20; refine (isKind_rs false hb2).mono ?_; rintro e w' ⟨rfl, rfl⟩))
  refine bodyPost_ret (v := .tuple #[.agg #[.int .u8 0, .int .u8 0], .bool false]) (by simp [results, Try.results18, go_sem, lc2, lc4]) rfl ⟨rfl, ?_, ?_⟩
  · exact (R5.setOther (by omega) _).setOther (by omega) _
  · exact gb_setNew (gb_setNew (gb_drew G4 n2) (by omega) _) (by omega) _

set_option maxHeartbeats 600000 in
theorem field_011 (s : ByteArray) (b k : Nat) (tw L : Int) (v : Value) (fs : List (Int × Int)) (w : World) (h : RS w b s k tw) (hv : FV w v fs)
    (hy1 : 97 ≤ nextB s k) (hy2 : nextB s k ≤ 122) (hi : ¬ 0 ≤ idxF fs (nextB s k)) (hb1 : (nextB s (k + 1) == 58) = true) (hb2 : isKindB (nextB s (k + 1 + 1)) = true) :
    Calls Try.prog 18 #[.pointer (some ⟨b, 0, none⟩), .agg #[.int .u8 L, v]] w fun e w' =>
      e = .returned (.tuple #[.agg #[.int .u8 (nextB s k), .int .u8 (nextB s (k + 1 + 1))], .bool true]) ∧ RS w' b s (k + 1 + 1 + 1) (tw) ∧ w.grownBy w' (some b) := by
  have hb := h.blt
  have hk : k < s.size := nextB_pos (by omega)
  have hk2 : k + 1 + 1 < s.size := nextB_pos (isKindB_pos hb2)
  have R0 : RS ((w.alloc (.cells #[.int .u8 L, v] 59)).alloc (.cells #[.int .u8 0, .int .u8 0] 68)) b s k tw := (h.alloc _).alloc _
  have V0 : FV ((w.alloc (.cells #[.int .u8 L, v] 59)).alloc (.cells #[.int .u8 0, .int .u8 0] 68)) v fs := (hv.alloc _).alloc _
  have G1 : w.grownBy ((w.alloc (.cells #[.int .u8 L, v] 59)).alloc (.cells #[.int .u8 0, .int .u8 0] 68)) (some b) := gb_alloc (gb_alloc (World.grownBy.refl _ _) _) _
  clear h hv
  go_enter Try.func18, Try.ntmps18
  go_wp2_with (first | (go_at_call 13; refine (next_rs R0).mono ?_; rintro e w' ⟨rfl, n, rfl⟩; have V1 := V0.drewN n; have R1 := R0.drewN n) | (go_at_call 19; refine (index_any L (nextB s k) v fs _ V1).mono ?_; rintro e w2 ⟨rfl, hb2⟩; have R2 := R1.below hb2; obtain ⟨p0, p1, p2, q1, q2, _, _⟩ := id R2; obtain ⟨lc2, lf2, ls2⟩ := Loc.of (gb_below hb2 (some b)) (r := w.heap.size + 1) (by simp) (by omega); have G2 := gb_trans G1 (gb_trans (gb_drewN _ n _) (gb_below hb2 (some b))); clear hb2; have R2i := R2.inc hk; have G2i := gb_setB G2 1 (.int .i64 ((k : Int) + 1))) | (go_at_call 16; refine (take_rs R2i (by omega) true hb1).mono ?_; rintro e w4 ⟨rfl, R4', hg4⟩; have R4 : RS w4 b s (k + 1 + 1) _ := R4'; clear R4'; obtain ⟨p0, p1, p2, q1, q2, _, _⟩ := id R4; obtain ⟨lc4, lf4, ls4⟩ := Loc.of hg4 (r := w.heap.size + 1) (by simpa using ls2) (by omega); have G4 := gb_trans G2i hg4; clear hg4))
  go_wp2_with (first | (go_at_call 13; refine (next_rs R4).mono ?_; rintro e w' ⟨rfl, n2, rfl⟩; have R5 := R4.drewN n2) | (go_at_call 20; refine (isKind_rs true hb2).mono ?_; rintro e w' ⟨rfl, rfl⟩))
  refine bodyPost_ret (v := .tuple #[.agg #[.int .u8 (nextB s k), .int .u8 (nextB s (k + 1 + 1))], .bool true]) (by simp [results, Try.results18, go_sem, lc2, lc4]) rfl ⟨rfl, ?_, ?_⟩
  · exact ((R5.inc hk2).setOther (by omega) _).setOther (by omega) _
  · exact gb_setNew (gb_setNew (gb_setB (gb_drew G4 n2) 1 _) (by omega) _) (by omega) _

/-- readField, by its twin. -/
theorem field_any (s : ByteArray) (b k : Nat) (tw L : Int) (v : Value) (fs : List (Int × Int)) (w : World) (h : RS w b s k tw) (hv : FV w v fs) :
    Calls Try.prog 18 #[.pointer (some ⟨b, 0, none⟩), .agg #[.int .u8 L, v]] w fun e w' =>
      e = .returned (.tuple #[.agg #[.int .u8 (rdField s fs k tw).l, .int .u8 (rdField s fs k tw).kd], .bool (rdField s fs k tw).ok]) ∧
        RS w' b s (rdField s fs k tw).at_ (rdField s fs k tw).tw ∧ w.grownBy w' (some b) := by
  by_cases h0 : nextB s k < 97 ∨ 122 < nextB s k
  · have e : rdField s fs k tw = ⟨false, k, tw, 0, 0⟩ := by simp only [rdField]; rw [if_pos h0]
    rw [e]; exact field_no s b k tw L v w h h0
  have g1 : 97 ≤ nextB s k := by omega
  have g2 : nextB s k ≤ 122 := by omega
  by_cases h1 : nextB s (k + 1) = 58
  · have h1' : (nextB s (k + 1) == 58) = true := by simpa using h1
    cases h2 : isKindB (nextB s (k + 2)) with
    | true =>
      have e : rdField s fs k tw = ⟨true, k + 3, if 0 ≤ idxF fs (nextB s k) then noteI tw k else tw, nextB s k, nextB s (k + 2)⟩ := by
        simp only [rdField]; rw [if_neg h0, if_pos h1, if_pos h2]
      rw [e]
      by_cases hi : 0 ≤ idxF fs (nextB s k)
      · simp only [if_pos hi]; exact field_111 s b k tw L v fs w h hv g1 g2 hi h1' h2
      · simp only [if_neg hi]; exact field_011 s b k tw L v fs w h hv g1 g2 hi h1' h2
    | false =>
      have e : rdField s fs k tw = ⟨false, k + 2, if 0 ≤ idxF fs (nextB s k) then noteI tw k else tw, 0, 0⟩ := by
        simp only [rdField]; rw [if_neg h0, if_pos h1, if_neg (by simp [h2])]
      rw [e]
      by_cases hi : 0 ≤ idxF fs (nextB s k)
      · simp only [if_pos hi]; exact field_110 s b k tw L v fs w h hv g1 g2 hi h1' h2
      · simp only [if_neg hi]; exact field_010 s b k tw L v fs w h hv g1 g2 hi h1' h2
  · have h1' : (nextB s (k + 1) == 58) = false := by simpa using h1
    have e : rdField s fs k tw = ⟨false, k + 1, if 0 ≤ idxF fs (nextB s k) then noteI tw k else tw, 0, 0⟩ := by
      simp only [rdField]; rw [if_neg h0, if_neg h1]
    rw [e]
    by_cases hi : 0 ≤ idxF fs (nextB s k)
    · simp only [if_pos hi]; exact field_100 s b k tw L v fs w h hv g1 g2 hi h1'
    · simp only [if_neg hi]; exact field_000 s b k tw L v fs w h hv g1 g2 hi h1'
end Go.Proofs.Ytiofbnmpppjdbab
