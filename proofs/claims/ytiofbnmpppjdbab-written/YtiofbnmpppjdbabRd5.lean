import Derived.Test.YtiofbnmpppjdbabRd4
namespace Go.Proofs.Ytiofbnmpppjdbab
open Go.RowKit

structure RC where
  ok : Bool
  at_ : Nat
  tw : Int
  l : Int
  fs : List (Int × Int)

/-- What readClass does: the class that stands at k, behind classes of the letters ls. -/
def rdClass (s : ByteArray) (ls : List Int) (k : Nat) (tw : Int) : RC :=
  if nextB s k < 65 ∨ 90 < nextB s k then ⟨false, k, tw, 0, []⟩
  else if nextB s (k + 1) = 123 then
    if (rdFields s (k + 2) (if ls.any (fun p => p == nextB s k) = true then noteI tw k else tw)).ok = true then
      ⟨true, (rdFields s (k + 2) (if ls.any (fun p => p == nextB s k) = true then noteI tw k else tw)).at_, (rdFields s (k + 2) (if ls.any (fun p => p == nextB s k) = true then noteI tw k else tw)).tw, nextB s k, (rdFields s (k + 2) (if ls.any (fun p => p == nextB s k) = true then noteI tw k else tw)).fs⟩
    else ⟨false, (rdFields s (k + 2) (if ls.any (fun p => p == nextB s k) = true then noteI tw k else tw)).at_, (rdFields s (k + 2) (if ls.any (fun p => p == nextB s k) = true then noteI tw k else tw)).tw, 0, []⟩
  else ⟨false, k + 1, if ls.any (fun p => p == nextB s k) = true then noteI tw k else tw, 0, []⟩

theorem CV.alloc {w : World} {v : Value} {vs : List (Int × SV)} (h : CV w v vs) (o : Obj) : CV (w.alloc o) v vs := World.ownsRow.alloc h o
theorem CV.drewN {w : World} {v : Value} {vs : List (Int × SV)} (h : CV w v vs) (n : Nat) : CV (w.drewN n) v vs := h
theorem CV.below {w w' : World} {v : Value} {vs : List (Int × SV)} (h : CV w v vs) (hb : Below w.heap.size w w') : CV w' v vs := World.ownsRow.kept h (gb_below hb none) (by cases hv : v.ownBlock <;> simp)
theorem hasC_map (vs : List (Int × SV)) (x : Int) : hasC vs x = (vs.map (·.1)).any (fun p => p == x) := by simp [hasC, List.any_map, Function.comp_def]

theorem find_rs {x : Int} {v : Value} {vs : List (Int × SV)} {w : World} (h : CV w v vs) (y : Bool) (hy : hasC vs x = y) :
    Calls Try.prog 14 #[.agg #[v], .int .u8 x] w fun e w' => e = .returned (.tuple #[.agg #[.int .u8 (findC vs x).1, .slice (findC vs x).2.a (findC vs x).2.n (findC vs x).2.c], .bool y]) ∧ Below w.heap.size w w' := by
  subst hy; exact find_any x v vs w h

set_option maxHeartbeats 400000 in
theorem class_no (s : ByteArray) (b k : Nat) (tw : Int) (v : Value) (w : World) (h : RS w b s k tw)
    (hy : nextB s k < 65 ∨ 90 < nextB s k) :
    Calls Try.prog 12 #[.pointer (some ⟨b, 0, none⟩), .agg #[v]] w fun e w' =>
      e = .returned (.tuple #[.agg #[.int .u8 0, .slice none 0 0], .bool false]) ∧ RS w' b s k tw ∧ w.grownBy w' (some b) := by
  have hb := h.blt
  have R0 : RS ((w.alloc (.cells #[v] 39)).alloc (.cells #[.int .u8 0, .slice none 0 0] 59)) b s k tw := (h.alloc _).alloc _
  rcases hy with hy | hy
  all_goals
    go_enter Try.func12, Try.ntmps12
    go_wp2_with (go_at_call 13; refine (next_rs R0).mono ?_; rintro e w' ⟨rfl, n, rfl⟩)
    refine bodyPost_ret (v := .tuple #[.agg #[.int .u8 0, .slice none 0 0], .bool false]) (by simp [results, Try.results12, go_sem]) rfl ⟨rfl, ?_, ?_⟩
    · exact ((R0.drewN n).setOther (by omega) _).setOther (by omega) _
    · exact gb_setNew (gb_setNew (gb_drew (gb_alloc (gb_alloc (World.grownBy.refl _ _) _) _) n) (by omega) _) (by omega) _

theorem fields_rs {s : ByteArray} {b k : Nat} {tw : Int} {w : World} (ok : Bool) {a : Nat} {t : Int} {fs : List (Int × Int)} (h : RS w b s k tw) (hf : rdFields s k tw = ⟨ok, a, t, fs⟩) :
    Calls Try.prog 17 #[.pointer (some ⟨b, 0, none⟩)] w fun e w' => ∃ a5 n5 c5,
      e = .returned (.tuple #[.slice a5 n5 c5, .bool ok]) ∧ FVb w' w.heap.size (.slice a5 n5 c5) fs ∧ RS w' b s a t ∧ w.grownBy w' (some b) := by
  refine (fields_any s b k tw w h).mono ?_
  rintro e w' ⟨v, rfl, V, R, G⟩
  rw [hf] at V R ⊢
  obtain ⟨a5, c5, rfl⟩ := V.shape
  exact ⟨a5, _, c5, rfl, V, R, G⟩

set_option maxHeartbeats 600000 in
theorem class_100 (s : ByteArray) (b k : Nat) (tw : Int) (v : Value) (vs : List (Int × SV)) (w : World) (h : RS w b s k tw) (hv : CV w v vs)
    (hy1 : 65 ≤ nextB s k) (hy2 : nextB s k ≤ 90) (hi : hasC vs (nextB s k) = true) (hb1 : (nextB s (k + 1) == 123) = false) :
    Calls Try.prog 12 #[.pointer (some ⟨b, 0, none⟩), .agg #[v]] w fun e w' =>
      e = .returned (.tuple #[.agg #[.int .u8 0, .slice none 0 0], .bool false]) ∧ RS w' b s (k + 1) (noteI tw k) ∧ w.grownBy w' (some b) := by
  have hb := h.blt
  have hk : k < s.size := nextB_pos (by omega)
  have R0 : RS ((w.alloc (.cells #[v] 39)).alloc (.cells #[.int .u8 0, .slice none 0 0] 59)) b s k tw := (h.alloc _).alloc _
  have V0 : CV ((w.alloc (.cells #[v] 39)).alloc (.cells #[.int .u8 0, .slice none 0 0] 59)) v vs := (hv.alloc _).alloc _
  have G1 : w.grownBy ((w.alloc (.cells #[v] 39)).alloc (.cells #[.int .u8 0, .slice none 0 0] 59)) (some b) := gb_alloc (gb_alloc (World.grownBy.refl _ _) _) _
  clear h hv
  go_enter Try.func12, Try.ntmps12
  go_wp2_with (first | (go_at_call 13; refine (next_rs R0).mono ?_; rintro e w' ⟨rfl, n, rfl⟩; have V1 := V0.drewN n; have R1 := R0.drewN n) | (go_at_call 14; refine (find_rs V1 true hi).mono ?_; rintro e w2 ⟨rfl, hb2⟩; have R2' := R1.below hb2; have R2 := R2'.alloc (.cells #[.int .u8 (findC vs (nextB s k)).1, .slice (findC vs (nextB s k)).2.a (findC vs (nextB s k)).2.n (findC vs (nextB s k)).2.c] 59); obtain ⟨p0, p1, p2, q1, q2, _, _⟩ := id R2'; have hb2lt := R2'.blt; obtain ⟨lc2, lf2, ls2⟩ := Loc.of (gb_below hb2 (some b)) (r := w.heap.size + 1) (by simp) (by omega); have G2 := gb_alloc (gb_trans G1 (gb_trans (gb_drewN _ n _) (gb_below hb2 (some b)))) (.cells #[.int .u8 (findC vs (nextB s k)).1, .slice (findC vs (nextB s k)).2.a (findC vs (nextB s k)).2.n (findC vs (nextB s k)).2.c] 59); clear hb2 R2') | (go_at_call 15; refine (note_any s b k tw _ R2).mono ?_; rintro e w3 ⟨rfl, R3, hg3⟩; obtain ⟨p0, p1, p2, q1, q2, _, _⟩ := id R3; obtain ⟨lc3, lf3, ls3⟩ := Loc.of hg3 (r := w.heap.size + 1) (by simp; omega) (by omega); have G3 := gb_trans G2 hg3; clear hg3; have R3i := R3.inc hk; have G3i := gb_setB G3 1 (.int .i64 ((k : Int) + 1))) | (go_at_call 16; refine (take_rs R3i (by omega) false hb1).mono ?_; rintro e w4 ⟨rfl, R4', hg4⟩; have R4 : RS w4 b s (k + 1) _ := R4'; clear R4'; obtain ⟨p0, p1, p2, q1, q2, _, _⟩ := id R4; obtain ⟨lc4, lf4, ls4⟩ := Loc.of hg4 (r := w.heap.size + 1) (by simp; omega) (by omega); have G4 := gb_trans G3i hg4; clear hg4))
  have d0 : w4.cell? ⟨w.heap.size + 1, 0, none⟩ = some (.int .u8 0) := by go_simp
  have d1 : w4.cell? ⟨w.heap.size + 1, 1, none⟩ = some (.slice none 0 0) := by go_simp
  refine bodyPost_ret (v := .tuple #[.agg #[.int .u8 0, .slice none 0 0], .bool false]) (by simp [results, Try.results12, go_sem, d0, d1]) rfl ⟨rfl, ?_, ?_⟩
  · exact (R4.setOther (by omega) _).setOther (by omega) _
  · exact gb_setNew (gb_setNew G4 (by omega) _) (by omega) _

set_option maxHeartbeats 600000 in
theorem class_110 (s : ByteArray) (b k : Nat) (tw : Int) (v : Value) (vs : List (Int × SV)) (w : World) (h : RS w b s k tw) (hv : CV w v vs)
    (hy1 : 65 ≤ nextB s k) (hy2 : nextB s k ≤ 90) (hi : hasC vs (nextB s k) = true) (hb1 : (nextB s (k + 1) == 123) = true) (a : Nat) (t : Int) (fs : List (Int × Int)) (hf : rdFields s (k + 1 + 1) (noteI tw k) = ⟨false, a, t, fs⟩) :
    Calls Try.prog 12 #[.pointer (some ⟨b, 0, none⟩), .agg #[v]] w fun e w' =>
      e = .returned (.tuple #[.agg #[.int .u8 0, .slice none 0 0], .bool false]) ∧ RS w' b s a t ∧ w.grownBy w' (some b) := by
  have hb := h.blt
  have hk : k < s.size := nextB_pos (by omega)
  have R0 : RS ((w.alloc (.cells #[v] 39)).alloc (.cells #[.int .u8 0, .slice none 0 0] 59)) b s k tw := (h.alloc _).alloc _
  have V0 : CV ((w.alloc (.cells #[v] 39)).alloc (.cells #[.int .u8 0, .slice none 0 0] 59)) v vs := (hv.alloc _).alloc _
  have G1 : w.grownBy ((w.alloc (.cells #[v] 39)).alloc (.cells #[.int .u8 0, .slice none 0 0] 59)) (some b) := gb_alloc (gb_alloc (World.grownBy.refl _ _) _) _
  clear h hv
  go_enter Try.func12, Try.ntmps12
  go_wp2_with (first | (go_at_call 13; refine (next_rs R0).mono ?_; rintro e w' ⟨rfl, n, rfl⟩; have V1 := V0.drewN n; have R1 := R0.drewN n) | (go_at_call 14; refine (find_rs V1 true hi).mono ?_; rintro e w2 ⟨rfl, hb2⟩; have R2' := R1.below hb2; have R2 := R2'.alloc (.cells #[.int .u8 (findC vs (nextB s k)).1, .slice (findC vs (nextB s k)).2.a (findC vs (nextB s k)).2.n (findC vs (nextB s k)).2.c] 59); obtain ⟨p0, p1, p2, q1, q2, _, _⟩ := id R2'; have hb2lt := R2'.blt; obtain ⟨lc2, lf2, ls2⟩ := Loc.of (gb_below hb2 (some b)) (r := w.heap.size + 1) (by simp) (by omega); have G2 := gb_alloc (gb_trans G1 (gb_trans (gb_drewN _ n _) (gb_below hb2 (some b)))) (.cells #[.int .u8 (findC vs (nextB s k)).1, .slice (findC vs (nextB s k)).2.a (findC vs (nextB s k)).2.n (findC vs (nextB s k)).2.c] 59); clear hb2 R2') | (go_at_call 15; refine (note_any s b k tw _ R2).mono ?_; rintro e w3 ⟨rfl, R3, hg3⟩; obtain ⟨p0, p1, p2, q1, q2, _, _⟩ := id R3; obtain ⟨lc3, lf3, ls3⟩ := Loc.of hg3 (r := w.heap.size + 1) (by simp; omega) (by omega); have G3 := gb_trans G2 hg3; clear hg3; have R3i := R3.inc hk; have G3i := gb_setB G3 1 (.int .i64 ((k : Int) + 1))) | (go_at_call 16; refine (take_rs R3i (by omega) true hb1).mono ?_; rintro e w4 ⟨rfl, R4', hg4⟩; have R4 : RS w4 b s (k + 1 + 1) _ := R4'; clear R4'; obtain ⟨p0, p1, p2, q1, q2, _, _⟩ := id R4; obtain ⟨lc4, lf4, ls4⟩ := Loc.of hg4 (r := w.heap.size + 1) (by simp; omega) (by omega); have G4 := gb_trans G3i hg4; clear hg4) | (go_at_call 17; refine (fields_rs false R4 hf).mono ?_; rintro e w5 ⟨a5, n5, c5, rfl, V5, R5, hg5⟩; obtain ⟨p0, p1, p2, q1, q2, _, _⟩ := id R5; obtain ⟨lc5, lf5, ls5⟩ := Loc.of hg5 (r := w.heap.size + 1) ls4 (by omega); have G5 := gb_trans G4 hg5; have hV : w.heap.size + 2 ≤ w4.heap.size := by omega))
  have d0 : w5.cell? ⟨w.heap.size + 1, 0, none⟩ = some (.int .u8 0) := by go_simp
  have d1 : w5.cell? ⟨w.heap.size + 1, 1, none⟩ = some (.slice none 0 0) := by go_simp
  refine bodyPost_ret (v := .tuple #[.agg #[.int .u8 0, .slice none 0 0], .bool false]) (by simp [results, Try.results12, go_sem, d0, d1]) rfl ⟨rfl, ?_, ?_⟩
  · exact (R5.setOther (by omega) _).setOther (by omega) _
  · exact gb_setNew (gb_setNew G5 (by omega) _) (by omega) _

set_option maxHeartbeats 600000 in
theorem class_111 (s : ByteArray) (b k : Nat) (tw : Int) (v : Value) (vs : List (Int × SV)) (w : World) (h : RS w b s k tw) (hv : CV w v vs)
    (hy1 : 65 ≤ nextB s k) (hy2 : nextB s k ≤ 90) (hi : hasC vs (nextB s k) = true) (hb1 : (nextB s (k + 1) == 123) = true) (a : Nat) (t : Int) (fs : List (Int × Int)) (hf : rdFields s (k + 1 + 1) (noteI tw k) = ⟨true, a, t, fs⟩) :
    Calls Try.prog 12 #[.pointer (some ⟨b, 0, none⟩), .agg #[v]] w fun e w' =>
      ∃ sv : SV, e = .returned (.tuple #[clsV (nextB s k, sv), .bool true]) ∧ FVb w' w.heap.size sv.val fs ∧ RS w' b s a t ∧ w.grownBy w' (some b) := by
  have hb := h.blt
  have hk : k < s.size := nextB_pos (by omega)
  have R0 : RS ((w.alloc (.cells #[v] 39)).alloc (.cells #[.int .u8 0, .slice none 0 0] 59)) b s k tw := (h.alloc _).alloc _
  have V0 : CV ((w.alloc (.cells #[v] 39)).alloc (.cells #[.int .u8 0, .slice none 0 0] 59)) v vs := (hv.alloc _).alloc _
  have G1 : w.grownBy ((w.alloc (.cells #[v] 39)).alloc (.cells #[.int .u8 0, .slice none 0 0] 59)) (some b) := gb_alloc (gb_alloc (World.grownBy.refl _ _) _) _
  clear h hv
  go_enter Try.func12, Try.ntmps12
  go_wp2_with (first | (go_at_call 13; refine (next_rs R0).mono ?_; rintro e w' ⟨rfl, n, rfl⟩; have V1 := V0.drewN n; have R1 := R0.drewN n) | (go_at_call 14; refine (find_rs V1 true hi).mono ?_; rintro e w2 ⟨rfl, hb2⟩; have R2' := R1.below hb2; have R2 := R2'.alloc (.cells #[.int .u8 (findC vs (nextB s k)).1, .slice (findC vs (nextB s k)).2.a (findC vs (nextB s k)).2.n (findC vs (nextB s k)).2.c] 59); obtain ⟨p0, p1, p2, q1, q2, _, _⟩ := id R2'; have hb2lt := R2'.blt; obtain ⟨lc2, lf2, ls2⟩ := Loc.of (gb_below hb2 (some b)) (r := w.heap.size + 1) (by simp) (by omega); have G2 := gb_alloc (gb_trans G1 (gb_trans (gb_drewN _ n _) (gb_below hb2 (some b)))) (.cells #[.int .u8 (findC vs (nextB s k)).1, .slice (findC vs (nextB s k)).2.a (findC vs (nextB s k)).2.n (findC vs (nextB s k)).2.c] 59); clear hb2 R2') | (go_at_call 15; refine (note_any s b k tw _ R2).mono ?_; rintro e w3 ⟨rfl, R3, hg3⟩; obtain ⟨p0, p1, p2, q1, q2, _, _⟩ := id R3; obtain ⟨lc3, lf3, ls3⟩ := Loc.of hg3 (r := w.heap.size + 1) (by simp; omega) (by omega); have G3 := gb_trans G2 hg3; clear hg3; have R3i := R3.inc hk; have G3i := gb_setB G3 1 (.int .i64 ((k : Int) + 1))) | (go_at_call 16; refine (take_rs R3i (by omega) true hb1).mono ?_; rintro e w4 ⟨rfl, R4', hg4⟩; have R4 : RS w4 b s (k + 1 + 1) _ := R4'; clear R4'; obtain ⟨p0, p1, p2, q1, q2, _, _⟩ := id R4; obtain ⟨lc4, lf4, ls4⟩ := Loc.of hg4 (r := w.heap.size + 1) (by simp; omega) (by omega); have G4 := gb_trans G3i hg4; clear hg4) | (go_at_call 17; refine (fields_rs true R4 hf).mono ?_; rintro e w5 ⟨a5, n5, c5, rfl, V5, R5, hg5⟩; obtain ⟨p0, p1, p2, q1, q2, _, _⟩ := id R5; obtain ⟨lc5, lf5, ls5⟩ := Loc.of hg5 (r := w.heap.size + 1) ls4 (by omega); have G5 := gb_trans G4 hg5; have hV : w.heap.size + 2 ≤ w4.heap.size := by omega))
  have d0 : w5.cell? ⟨w.heap.size + 1, 0, none⟩ = some (.int .u8 0) := by go_simp
  have d1 : w5.cell? ⟨w.heap.size + 1, 1, none⟩ = some (.slice none 0 0) := by go_simp
  refine bodyPost_ret (v := .tuple #[.agg #[.int .u8 (nextB s k), .slice a5 n5 c5], .bool true]) (by simp [results, Try.results12, go_sem, d0, d1]) rfl ⟨⟨a5, n5, c5⟩, rfl, ?_, ?_, ?_⟩
  · exact ((V5.set0 (by omega)).set0 (by omega)).mono (by omega)
  · exact (R5.setOther (by omega) _).setOther (by omega) _
  · exact gb_setNew (gb_setNew G5 (by omega) _) (by omega) _

set_option maxHeartbeats 600000 in
theorem class_000 (s : ByteArray) (b k : Nat) (tw : Int) (v : Value) (vs : List (Int × SV)) (w : World) (h : RS w b s k tw) (hv : CV w v vs)
    (hy1 : 65 ≤ nextB s k) (hy2 : nextB s k ≤ 90) (hi : hasC vs (nextB s k) = false) (hb1 : (nextB s (k + 1) == 123) = false) :
    Calls Try.prog 12 #[.pointer (some ⟨b, 0, none⟩), .agg #[v]] w fun e w' =>
      e = .returned (.tuple #[.agg #[.int .u8 0, .slice none 0 0], .bool false]) ∧ RS w' b s (k + 1) tw ∧ w.grownBy w' (some b) := by
  have hb := h.blt
  have hk : k < s.size := nextB_pos (by omega)
  have R0 : RS ((w.alloc (.cells #[v] 39)).alloc (.cells #[.int .u8 0, .slice none 0 0] 59)) b s k tw := (h.alloc _).alloc _
  have V0 : CV ((w.alloc (.cells #[v] 39)).alloc (.cells #[.int .u8 0, .slice none 0 0] 59)) v vs := (hv.alloc _).alloc _
  have G1 : w.grownBy ((w.alloc (.cells #[v] 39)).alloc (.cells #[.int .u8 0, .slice none 0 0] 59)) (some b) := gb_alloc (gb_alloc (World.grownBy.refl _ _) _) _
  clear h hv
  go_enter Try.func12, Try.ntmps12
  go_wp2_with (first | (go_at_call 13; refine (next_rs R0).mono ?_; rintro e w' ⟨rfl, n, rfl⟩; have V1 := V0.drewN n; have R1 := R0.drewN n) | (go_at_call 14; refine (find_rs V1 false hi).mono ?_; rintro e w2 ⟨rfl, hb2⟩; have R2' := R1.below hb2; have R2 := R2'.alloc (.cells #[.int .u8 (findC vs (nextB s k)).1, .slice (findC vs (nextB s k)).2.a (findC vs (nextB s k)).2.n (findC vs (nextB s k)).2.c] 59); obtain ⟨p0, p1, p2, q1, q2, _, _⟩ := id R2'; have hb2lt := R2'.blt; obtain ⟨lc2, lf2, ls2⟩ := Loc.of (gb_below hb2 (some b)) (r := w.heap.size + 1) (by simp) (by omega); have G2 := gb_alloc (gb_trans G1 (gb_trans (gb_drewN _ n _) (gb_below hb2 (some b)))) (.cells #[.int .u8 (findC vs (nextB s k)).1, .slice (findC vs (nextB s k)).2.a (findC vs (nextB s k)).2.n (findC vs (nextB s k)).2.c] 59); have R2i := (R2'.inc hk).alloc (.cells #[.int .u8 (findC vs (nextB s k)).1, .slice (findC vs (nextB s k)).2.a (findC vs (nextB s k)).2.n (findC vs (nextB s k)).2.c] 59); have G2i := gb_alloc (gb_setB (gb_trans G1 (gb_trans (gb_drewN _ n _) (gb_below hb2 (some b)))) 1 (.int .i64 ((k : Int) + 1))) (.cells #[.int .u8 (findC vs (nextB s k)).1, .slice (findC vs (nextB s k)).2.a (findC vs (nextB s k)).2.n (findC vs (nextB s k)).2.c] 59); clear hb2 R2') | (go_at_call 16; refine (take_rs R2i (by omega) false hb1).mono ?_; rintro e w4 ⟨rfl, R4', hg4⟩; have R4 : RS w4 b s (k + 1) _ := R4'; clear R4'; obtain ⟨p0, p1, p2, q1, q2, _, _⟩ := id R4; obtain ⟨lc4, lf4, ls4⟩ := Loc.of hg4 (r := w.heap.size + 1) (by simp; omega) (by omega); have G4 := gb_trans G2i hg4; clear hg4))
  have d0 : w4.cell? ⟨w.heap.size + 1, 0, none⟩ = some (.int .u8 0) := by go_simp
  have d1 : w4.cell? ⟨w.heap.size + 1, 1, none⟩ = some (.slice none 0 0) := by go_simp
  refine bodyPost_ret (v := .tuple #[.agg #[.int .u8 0, .slice none 0 0], .bool false]) (by simp [results, Try.results12, go_sem, d0, d1]) rfl ⟨rfl, ?_, ?_⟩
  · exact (R4.setOther (by omega) _).setOther (by omega) _
  · exact gb_setNew (gb_setNew G4 (by omega) _) (by omega) _

set_option maxHeartbeats 600000 in
theorem class_010 (s : ByteArray) (b k : Nat) (tw : Int) (v : Value) (vs : List (Int × SV)) (w : World) (h : RS w b s k tw) (hv : CV w v vs)
    (hy1 : 65 ≤ nextB s k) (hy2 : nextB s k ≤ 90) (hi : hasC vs (nextB s k) = false) (hb1 : (nextB s (k + 1) == 123) = true) (a : Nat) (t : Int) (fs : List (Int × Int)) (hf : rdFields s (k + 1 + 1) tw = ⟨false, a, t, fs⟩) :
    Calls Try.prog 12 #[.pointer (some ⟨b, 0, none⟩), .agg #[v]] w fun e w' =>
      e = .returned (.tuple #[.agg #[.int .u8 0, .slice none 0 0], .bool false]) ∧ RS w' b s a t ∧ w.grownBy w' (some b) := by
  have hb := h.blt
  have hk : k < s.size := nextB_pos (by omega)
  have R0 : RS ((w.alloc (.cells #[v] 39)).alloc (.cells #[.int .u8 0, .slice none 0 0] 59)) b s k tw := (h.alloc _).alloc _
  have V0 : CV ((w.alloc (.cells #[v] 39)).alloc (.cells #[.int .u8 0, .slice none 0 0] 59)) v vs := (hv.alloc _).alloc _
  have G1 : w.grownBy ((w.alloc (.cells #[v] 39)).alloc (.cells #[.int .u8 0, .slice none 0 0] 59)) (some b) := gb_alloc (gb_alloc (World.grownBy.refl _ _) _) _
  clear h hv
  go_enter Try.func12, Try.ntmps12
  go_wp2_with (first | (go_at_call 13; refine (next_rs R0).mono ?_; rintro e w' ⟨rfl, n, rfl⟩; have V1 := V0.drewN n; have R1 := R0.drewN n) | (go_at_call 14; refine (find_rs V1 false hi).mono ?_; rintro e w2 ⟨rfl, hb2⟩; have R2' := R1.below hb2; have R2 := R2'.alloc (.cells #[.int .u8 (findC vs (nextB s k)).1, .slice (findC vs (nextB s k)).2.a (findC vs (nextB s k)).2.n (findC vs (nextB s k)).2.c] 59); obtain ⟨p0, p1, p2, q1, q2, _, _⟩ := id R2'; have hb2lt := R2'.blt; obtain ⟨lc2, lf2, ls2⟩ := Loc.of (gb_below hb2 (some b)) (r := w.heap.size + 1) (by simp) (by omega); have G2 := gb_alloc (gb_trans G1 (gb_trans (gb_drewN _ n _) (gb_below hb2 (some b)))) (.cells #[.int .u8 (findC vs (nextB s k)).1, .slice (findC vs (nextB s k)).2.a (findC vs (nextB s k)).2.n (findC vs (nextB s k)).2.c] 59); have R2i := (R2'.inc hk).alloc (.cells #[.int .u8 (findC vs (nextB s k)).1, .slice (findC vs (nextB s k)).2.a (findC vs (nextB s k)).2.n (findC vs (nextB s k)).2.c] 59); have G2i := gb_alloc (gb_setB (gb_trans G1 (gb_trans (gb_drewN _ n _) (gb_below hb2 (some b)))) 1 (.int .i64 ((k : Int) + 1))) (.cells #[.int .u8 (findC vs (nextB s k)).1, .slice (findC vs (nextB s k)).2.a (findC vs (nextB s k)).2.n (findC vs (nextB s k)).2.c] 59); clear hb2 R2') | (go_at_call 16; refine (take_rs R2i (by omega) true hb1).mono ?_; rintro e w4 ⟨rfl, R4', hg4⟩; have R4 : RS w4 b s (k + 1 + 1) _ := R4'; clear R4'; obtain ⟨p0, p1, p2, q1, q2, _, _⟩ := id R4; obtain ⟨lc4, lf4, ls4⟩ := Loc.of hg4 (r := w.heap.size + 1) (by simp; omega) (by omega); have G4 := gb_trans G2i hg4; clear hg4) | (go_at_call 17; refine (fields_rs false R4 hf).mono ?_; rintro e w5 ⟨a5, n5, c5, rfl, V5, R5, hg5⟩; obtain ⟨p0, p1, p2, q1, q2, _, _⟩ := id R5; obtain ⟨lc5, lf5, ls5⟩ := Loc.of hg5 (r := w.heap.size + 1) ls4 (by omega); have G5 := gb_trans G4 hg5; have hV : w.heap.size + 2 ≤ w4.heap.size := by omega))
  have d0 : w5.cell? ⟨w.heap.size + 1, 0, none⟩ = some (.int .u8 0) := by go_simp
  have d1 : w5.cell? ⟨w.heap.size + 1, 1, none⟩ = some (.slice none 0 0) := by go_simp
  refine bodyPost_ret (v := .tuple #[.agg #[.int .u8 0, .slice none 0 0], .bool false]) (by simp [results, Try.results12, go_sem, d0, d1]) rfl ⟨rfl, ?_, ?_⟩
  · exact (R5.setOther (by omega) _).setOther (by omega) _
  · exact gb_setNew (gb_setNew G5 (by omega) _) (by omega) _

set_option maxHeartbeats 600000 in
theorem class_011 (s : ByteArray) (b k : Nat) (tw : Int) (v : Value) (vs : List (Int × SV)) (w : World) (h : RS w b s k tw) (hv : CV w v vs)
    (hy1 : 65 ≤ nextB s k) (hy2 : nextB s k ≤ 90) (hi : hasC vs (nextB s k) = false) (hb1 : (nextB s (k + 1) == 123) = true) (a : Nat) (t : Int) (fs : List (Int × Int)) (hf : rdFields s (k + 1 + 1) tw = ⟨true, a, t, fs⟩) :
    Calls Try.prog 12 #[.pointer (some ⟨b, 0, none⟩), .agg #[v]] w fun e w' =>
      ∃ sv : SV, e = .returned (.tuple #[clsV (nextB s k, sv), .bool true]) ∧ FVb w' w.heap.size sv.val fs ∧ RS w' b s a t ∧ w.grownBy w' (some b) := by
  have hb := h.blt
  have hk : k < s.size := nextB_pos (by omega)
  have R0 : RS ((w.alloc (.cells #[v] 39)).alloc (.cells #[.int .u8 0, .slice none 0 0] 59)) b s k tw := (h.alloc _).alloc _
  have V0 : CV ((w.alloc (.cells #[v] 39)).alloc (.cells #[.int .u8 0, .slice none 0 0] 59)) v vs := (hv.alloc _).alloc _
  have G1 : w.grownBy ((w.alloc (.cells #[v] 39)).alloc (.cells #[.int .u8 0, .slice none 0 0] 59)) (some b) := gb_alloc (gb_alloc (World.grownBy.refl _ _) _) _
  clear h hv
  go_enter Try.func12, Try.ntmps12
  go_wp2_with (first | (go_at_call 13; refine (next_rs R0).mono ?_; rintro e w' ⟨rfl, n, rfl⟩; have V1 := V0.drewN n; have R1 := R0.drewN n) | (go_at_call 14; refine (find_rs V1 false hi).mono ?_; rintro e w2 ⟨rfl, hb2⟩; have R2' := R1.below hb2; have R2 := R2'.alloc (.cells #[.int .u8 (findC vs (nextB s k)).1, .slice (findC vs (nextB s k)).2.a (findC vs (nextB s k)).2.n (findC vs (nextB s k)).2.c] 59); obtain ⟨p0, p1, p2, q1, q2, _, _⟩ := id R2'; have hb2lt := R2'.blt; obtain ⟨lc2, lf2, ls2⟩ := Loc.of (gb_below hb2 (some b)) (r := w.heap.size + 1) (by simp) (by omega); have G2 := gb_alloc (gb_trans G1 (gb_trans (gb_drewN _ n _) (gb_below hb2 (some b)))) (.cells #[.int .u8 (findC vs (nextB s k)).1, .slice (findC vs (nextB s k)).2.a (findC vs (nextB s k)).2.n (findC vs (nextB s k)).2.c] 59); have R2i := (R2'.inc hk).alloc (.cells #[.int .u8 (findC vs (nextB s k)).1, .slice (findC vs (nextB s k)).2.a (findC vs (nextB s k)).2.n (findC vs (nextB s k)).2.c] 59); have G2i := gb_alloc (gb_setB (gb_trans G1 (gb_trans (gb_drewN _ n _) (gb_below hb2 (some b)))) 1 (.int .i64 ((k : Int) + 1))) (.cells #[.int .u8 (findC vs (nextB s k)).1, .slice (findC vs (nextB s k)).2.a (findC vs (nextB s k)).2.n (findC vs (nextB s k)).2.c] 59); clear hb2 R2') | (go_at_call 16; refine (take_rs R2i (by omega) true hb1).mono ?_; rintro e w4 ⟨rfl, R4', hg4⟩; have R4 : RS w4 b s (k + 1 + 1) _ := R4'; clear R4'; obtain ⟨p0, p1, p2, q1, q2, _, _⟩ := id R4; obtain ⟨lc4, lf4, ls4⟩ := Loc.of hg4 (r := w.heap.size + 1) (by simp; omega) (by omega); have G4 := gb_trans G2i hg4; clear hg4) | (go_at_call 17; refine (fields_rs true R4 hf).mono ?_; rintro e w5 ⟨a5, n5, c5, rfl, V5, R5, hg5⟩; obtain ⟨p0, p1, p2, q1, q2, _, _⟩ := id R5; obtain ⟨lc5, lf5, ls5⟩ := Loc.of hg5 (r := w.heap.size + 1) ls4 (by omega); have G5 := gb_trans G4 hg5; have hV : w.heap.size + 2 ≤ w4.heap.size := by omega))
  have d0 : w5.cell? ⟨w.heap.size + 1, 0, none⟩ = some (.int .u8 0) := by go_simp
  have d1 : w5.cell? ⟨w.heap.size + 1, 1, none⟩ = some (.slice none 0 0) := by go_simp
  refine bodyPost_ret (v := .tuple #[.agg #[.int .u8 (nextB s k), .slice a5 n5 c5], .bool true]) (by simp [results, Try.results12, go_sem, d0, d1]) rfl ⟨⟨a5, n5, c5⟩, rfl, ?_, ?_, ?_⟩
  · exact ((V5.set0 (by omega)).set0 (by omega)).mono (by omega)
  · exact (R5.setOther (by omega) _).setOther (by omega) _
  · exact gb_setNew (gb_setNew G5 (by omega) _) (by omega) _

/-- readClass, by its twin. -/
theorem class_any (s : ByteArray) (b k : Nat) (tw : Int) (v : Value) (vs : List (Int × SV)) (ls : List Int) (hls : ls = vs.map (·.1)) (w : World) (h : RS w b s k tw) (hv : CV w v vs) (r : RC) (hr : r = rdClass s ls k tw) :
    Calls Try.prog 12 #[.pointer (some ⟨b, 0, none⟩), .agg #[v]] w fun e w' => ∃ sv : SV,
      e = .returned (.tuple #[.agg #[.int .u8 r.l, .slice sv.a sv.n sv.c], .bool r.ok]) ∧ FVb w' w.heap.size sv.val r.fs ∧ RS w' b s r.at_ r.tw ∧ w.grownBy w' (some b) := by
  subst hr
  by_cases h0 : nextB s k < 65 ∨ 90 < nextB s k
  · have e : rdClass s ls k tw = ⟨false, k, tw, 0, []⟩ := by simp only [rdClass]; rw [if_pos h0]
    rw [e]
    exact (class_no s b k tw v w h h0).mono fun _ _ h => ⟨⟨none, 0, 0⟩, h.1, World.ownsRow_nil _ _ _ _, h.2⟩
  have g1 : 65 ≤ nextB s k := by omega
  have g2 : nextB s k ≤ 90 := by omega
  have hh : ls.any (fun p => p == nextB s k) = hasC vs (nextB s k) := by rw [hasC_map, hls]
  by_cases h1 : nextB s (k + 1) = 123
  · have h1' : (nextB s (k + 1) == 123) = true := by simpa using h1
    cases hi : hasC vs (nextB s k) with
    | true =>
      obtain ⟨ok, a, t, fs, hf⟩ : ∃ ok a t fs, rdFields s (k + 2) (noteI tw k) = ⟨ok, a, t, fs⟩ := ⟨_, _, _, _, rfl⟩
      cases ok with
      | true =>
        have e : rdClass s ls k tw = ⟨true, a, t, nextB s k, fs⟩ := by
          simp only [rdClass]; rw [if_neg h0, if_pos h1, hh, hi, if_pos rfl, hf]; rfl
        rw [e]
        exact class_111 s b k tw v vs w h hv g1 g2 hi h1' a t fs hf
      | false =>
        have e : rdClass s ls k tw = ⟨false, a, t, 0, []⟩ := by
          simp only [rdClass]; rw [if_neg h0, if_pos h1, hh, hi, if_pos rfl, hf]; rfl
        rw [e]
        exact (class_110 s b k tw v vs w h hv g1 g2 hi h1' a t fs hf).mono fun _ _ h => ⟨⟨none, 0, 0⟩, h.1, World.ownsRow_nil _ _ _ _, h.2⟩
    | false =>
      obtain ⟨ok, a, t, fs, hf⟩ : ∃ ok a t fs, rdFields s (k + 2) tw = ⟨ok, a, t, fs⟩ := ⟨_, _, _, _, rfl⟩
      cases ok with
      | true =>
        have e : rdClass s ls k tw = ⟨true, a, t, nextB s k, fs⟩ := by
          simp only [rdClass]; rw [if_neg h0, if_pos h1, hh, hi, if_neg Bool.false_ne_true, hf]; rfl
        rw [e]
        exact class_011 s b k tw v vs w h hv g1 g2 hi h1' a t fs hf
      | false =>
        have e : rdClass s ls k tw = ⟨false, a, t, 0, []⟩ := by
          simp only [rdClass]; rw [if_neg h0, if_pos h1, hh, hi, if_neg Bool.false_ne_true, hf]; rfl
        rw [e]
        exact (class_010 s b k tw v vs w h hv g1 g2 hi h1' a t fs hf).mono fun _ _ h => ⟨⟨none, 0, 0⟩, h.1, World.ownsRow_nil _ _ _ _, h.2⟩
  · have h1' : (nextB s (k + 1) == 123) = false := by simpa using h1
    cases hi : hasC vs (nextB s k) with
    | true =>
      have e : rdClass s ls k tw = ⟨false, k + 1, noteI tw k, 0, []⟩ := by
        simp only [rdClass]; rw [if_neg h0, if_neg h1, hh, hi, if_pos rfl]
      rw [e]
      exact (class_100 s b k tw v vs w h hv g1 g2 hi h1').mono fun _ _ h => ⟨⟨none, 0, 0⟩, h.1, World.ownsRow_nil _ _ _ _, h.2⟩
    | false =>
      have e : rdClass s ls k tw = ⟨false, k + 1, tw, 0, []⟩ := by
        simp only [rdClass]; rw [if_neg h0, if_neg h1, hh, hi, if_neg Bool.false_ne_true]
      rw [e]
      exact (class_000 s b k tw v vs w h hv g1 g2 hi h1').mono fun _ _ h => ⟨⟨none, 0, 0⟩, h.1, World.ownsRow_nil _ _ _ _, h.2⟩
end Go.Proofs.Ytiofbnmpppjdbab
