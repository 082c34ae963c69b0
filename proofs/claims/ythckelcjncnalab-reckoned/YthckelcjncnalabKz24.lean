import Derived.Test.YthckelcjncnalabKz23
import Derived.Test.YthckelcjncnalabKz09
namespace Go.Proofs.Ythckelcjncnalab
open Go.RowKit

theorem RT.start {w : World} {b : Nat} {s : ByteArray} {k base : Nat} (h : RS w b s k true) (hb : b < base) (hs : base ≤ w.heap.size) : RT (w.setCell ⟨b, 3, none⟩ (.slice none 0 0)) b s k base (.slice none 0 0) [] := by
  have R3 : RS (w.setCell ⟨b, 3, none⟩ (.slice none 0 0)) b s k true := by
    obtain ⟨c0, c1, c2, ⟨z, c3⟩, f1, f3, le, lt⟩ := h
    exact ⟨by go_simp, by go_simp, by go_simp, ⟨.slice none 0 0, by go_simp⟩, by go_simp, by go_simp, le, lt⟩
  obtain ⟨c0, c1, c2, ⟨z, c3⟩, f1, f3, le, lt⟩ := h
  exact ⟨R3, by go_simp, TVb.nil _ _, hb, Nat.le_trans hs (gb_set w b 3 _).size, Nat.zero_le _⟩
/-- What readRule does in an update. -/
def upRule : ByteArray → Nat → RuleR := fun s k =>
  if nextB s k = 61 then (if (sumRL s 6 (k + 1) []).ok = true then ⟨true, if nextB s (sumRL s 6 (k + 1) []).at_ = 33 then (sumRL s 6 (k + 1) []).at_ + 1 else (sumRL s 6 (k + 1) []).at_, (sumRL s 6 (k + 1) []).ts, ((k + 1 : Nat) : Int), nextB s (sumRL s 6 (k + 1) []).at_ == 33⟩ else ⟨false, (sumRL s 6 (k + 1) []).at_, [], 0, false⟩)
  else ⟨true, k, [], 0, false⟩
set_option maxHeartbeats 1000000 in
theorem rule_up : RuleC true upRule := by
  intro s b k w h
  have hb := h.blt
  have HW : Hid (RS w b s k true) := h
  have R0 : RS (w.alloc (.cells #[.slice none 0 0, .int .i64 0, .bool false] 124)) b s k true := h.alloc _
  have G0 : w.grownBy (w.alloc (.cells #[.slice none 0 0, .int .i64 0, .bool false] 124)) (some b) := World.grownBy_alloc _ _ _
  obtain ⟨c0, c1, c2, _, f1, f3, le, lt⟩ := id R0
  by_cases h61 : nextB s k = 61
  · have hk : k < s.size := nextB_pos (by omega)
    have q1 : (nextB s k == 61) = true := by simp [h61]
    obtain ⟨R, hR⟩ : ∃ R, R = upRule s k := ⟨_, rfl⟩
    rw [← hR]
    unfold upRule at hR
    rw [if_pos h61] at hR
    obtain ⟨ok, q, us, hq⟩ : ∃ ok q us, sumRL s 6 (k + 1) [] = ⟨ok, q, us⟩ := ⟨_, _, _, rfl⟩
    have C := fun W v (hW : RT W b s (k + 1) w.heap.size v []) => sum_any s 6 (Nat.le_refl _) b (k + 1) w.heap.size v [] W hW
    rw [hq] at C hR
    unfold SumPost at C
    simp only [Nat.sub_self, Int.ofNat_zero] at C
    simp only [] at hR
    have HR : Hid (R = (if ok = true then ⟨true, if nextB s q = 33 then q + 1 else q, us, ((k + 1 : Nat) : Int), nextB s q == 33⟩ else ⟨false, q, [], 0, false⟩)) := hR
    clear hR hq h h61
    go_enter Try.func82, Try.ntmps82
    go_wp2_with fail
    refine (take_rs R0 (by omega) true q1).mono ?_
    rintro e w1 ⟨rfl, R1, g1⟩
    simp only [if_true] at R1
    obtain ⟨lc1, lf1, ls1⟩ := Loc.of g1 (r := w.heap.size) (by simp) (by omega)
    have hb1 := R1.blt
    have T1 := RT.start (base := w.heap.size) R1 hb (by have := g1.size; simp at this; omega)
    have C1 := C _ _ T1
    obtain ⟨p0, p1, p2, ⟨z, p3⟩, p4, p5, _, _⟩ := id R1
    have G1 : w.grownBy (w1.setCell ⟨b, 3, none⟩ (.slice none 0 0)) (some b) := gb_setB (gb_trans G0 g1) 3 _
    clear C R0 c0 c1 c2 f1 f3
    go_wp2_with fail
    refine C1.mono ?_
    rintro e w2 ⟨rfl, v2, T2, F2⟩
    have hbn : ∀ g, v2.ownBlock = some g → w1.heap.size ≤ g := fun g hg => by
      rcases F2.own g hg with e | e
      · cases e
      · simpa [World.setCell] using e
    have G2 : w.grownBy w2 (some b) := ⟨F2.os.trans G1.os, F2.tape.trans G1.tape, F2.output.trans G1.output, Nat.le_trans G1.size F2.size, fun i hi hne => (F2.blk i (Nat.lt_of_lt_of_le hi G1.size) (fun e => hne (by rw [e])) (by simp [Value.ownBlock])).trans (G1.block i hi hne)⟩
    have lb2 := F2.blk w.heap.size (by simpa [World.setCell] using ls1) (by omega) (by simp [Value.ownBlock])
    have lc2 := fun o => World.cell?_of_block (a := ⟨w.heap.size, o, none⟩) lb2
    have lf2 := fun o => World.frozen?_of_block (a := ⟨w.heap.size, o, none⟩) lb2
    have ls2 : w.heap.size < w2.heap.size := by have := F2.size; simp [World.setCell] at this; omega
    have m0 : w2.cell? ⟨w.heap.size, 0, none⟩ = some (.slice none 0 0) := (lc2 0).trans (by have := lc1 0; go_simp)
    have m1 : w2.cell? ⟨w.heap.size, 1, none⟩ = some (.int .i64 0) := (lc2 1).trans (by have := lc1 1; go_simp)
    have m2 : w2.cell? ⟨w.heap.size, 2, none⟩ = some (.bool false) := (lc2 2).trans (by have := lc1 2; go_simp)
    have n0 : w2.frozen? ⟨w.heap.size, 0, none⟩ = false := (lf2 0).trans (by have := lf1 0; go_simp)
    have n1 : w2.frozen? ⟨w.heap.size, 1, none⟩ = false := (lf2 1).trans (by have := lf1 1; go_simp)
    have n2 : w2.frozen? ⟨w.heap.size, 2, none⟩ = false := (lf2 2).trans (by have := lf1 2; go_simp)
    have hpo : v2.ownBlock ≠ some w.heap.size := fun e => by have := hbn _ e; omega
    have hb2 : b < w2.heap.size := T2.rs.blt
    clear lb2 lc2 lf2 lc1 lf1 C1 F2 G1 g1 G0 T1 p0 p1 p2 p3 p4 p5
    cases ok with
    | false =>
      have HE : Hid (R = ⟨false, q, [], 0, false⟩) := by show R = _; rw [HR.out, if_neg (by decide)]
      go_wp2
      refine bodyPost_ret (v := .tuple #[.agg #[.slice none 0 0, .int .i64 0, .bool false], .bool false]) (by simp [results, Try.results82, go_sem, m0, m1, m2]) rfl ?_
      rw [HE.out]
      refine ⟨none, 0, 0, rfl, TVb.nil _ _, ?_, ?_⟩
      · with_reducible repeat first | exact T2.rs | apply RS.drew | apply RS.drewN | apply RS.alloc | (refine RS.setOther ?_ (by omega) _)
      · with_reducible repeat first | exact G2 | apply gb_drew | apply gb_drew1 | apply gb_alloc | apply gb_setB | (refine gb_setNew ?_ (by omega) _)
    | true =>
      obtain ⟨y, hy⟩ : ∃ y, (nextB s q == 33) = y := ⟨_, rfl⟩
      have HE : Hid (R = ⟨true, if y = true then q + 1 else q, us, ((k + 1 : Nat) : Int), y⟩) := by
        show R = _
        rw [HR.out, if_pos rfl, hy]
        congr 1
        subst hy
        by_cases hh : nextB s q = 33
        · rw [if_pos hh, if_pos (by simpa using hh)]
        · rw [if_neg hh, if_neg (by simpa using hh)]
      go_wp2_with fail
      refine (take_rt T2 (by omega) y hy).mono ?_
      rintro e w3 ⟨rfl, T3, F3⟩
      have lb3 := F3.blk w.heap.size ls2 (by omega) hpo
      have M : ∀ o, w3.cell? ⟨w.heap.size, o, none⟩ = w2.cell? ⟨w.heap.size, o, none⟩ := fun o => World.cell?_of_block (a := ⟨w.heap.size, o, none⟩) lb3
      have N : ∀ o, w3.frozen? ⟨w.heap.size, o, none⟩ = w2.frozen? ⟨w.heap.size, o, none⟩ := fun o => World.frozen?_of_block (a := ⟨w.heap.size, o, none⟩) lb3
      have ls3 : w.heap.size < w3.heap.size := by have := F3.size; omega
      have G3 : w.grownBy w3 (some b) := ⟨F3.os.trans G2.os, F3.tape.trans G2.tape, F3.output.trans G2.output, Nat.le_trans G2.size F3.size, fun i hi hne => (F3.blk i (Nat.lt_of_lt_of_le hi G2.size) (fun e => hne (by rw [e])) (fun e => by have := hbn _ e; omega)).trans (G2.block i hi hne)⟩
      obtain ⟨a3, n3, rfl⟩ := T3.shape
      have c3 := T3.c3
      have hb3 : b < w3.heap.size := T3.rs.blt
      have m0' := (M 0).trans m0
      have m1' := (M 1).trans m1
      have m2' := (M 2).trans m2
      have n0' := (N 0).trans n0
      have n1' := (N 1).trans n1
      have n2' := (N 2).trans n2
      have TV : Hid (TVb (((w3.setCell ⟨w.heap.size, 0, none⟩ (.slice a3 us.length n3)).setCell ⟨w.heap.size, 1, none⟩ (.int .i64 ((k + 1 : Nat) : Int))).setCell ⟨w.heap.size, 2, none⟩ (.bool y)) w.heap.size (.slice a3 us.length n3) us) :=
        (((T3.setP 0 (.slice a3 us.length n3) (p := w.heap.size) (by omega) hpo).setP 1 (.int .i64 ((k + 1 : Nat) : Int)) (p := w.heap.size) (by omega) hpo).setP 2 (.bool y) (p := w.heap.size) (by omega) hpo).tv
      clear m0 m1 m2 n0 n1 n2 M N lb3
      go_wp2
      refine bodyPost_ret (v := .tuple #[.agg #[.slice a3 us.length n3, .int .i64 ((k + 1 : Nat) : Int), .bool y], .bool true]) (by simp [results, Try.results82, go_sem, m0', m1', m2']) rfl ?_
      rw [HE.out]
      refine ⟨a3, us.length, n3, rfl, by simpa using TV.out, ?_, ?_⟩
      · with_reducible repeat first | exact T3.rs | apply RS.drew | apply RS.drewN | apply RS.alloc | (refine RS.setOther ?_ (by omega) _)
      · with_reducible repeat first | exact G3 | apply gb_drew | apply gb_drew1 | apply gb_alloc | apply gb_setB | (refine gb_setNew ?_ (by omega) _)
  · have q1 : (nextB s k == 61) = false := by simp [h61]
    have e : upRule s k = ⟨true, k, [], 0, false⟩ := by unfold upRule; rw [if_neg h61]
    rw [e]
    clear e h61 h
    go_enter Try.func82, Try.ntmps82
    go_wp2_with fail
    refine (take_rs R0 (by omega) false q1).mono ?_
    rintro e w1 ⟨rfl, R1, g1⟩
    simp only [Bool.false_eq_true, if_false] at R1
    obtain ⟨lc1, lf1, ls1⟩ := Loc.of g1 (r := w.heap.size) (by simp) (by omega)
    have m0 : w1.cell? ⟨w.heap.size, 0, none⟩ = some (.slice none 0 0) := (lc1 0).trans (by go_simp)
    have m1 : w1.cell? ⟨w.heap.size, 1, none⟩ = some (.int .i64 0) := (lc1 1).trans (by go_simp)
    have m2 : w1.cell? ⟨w.heap.size, 2, none⟩ = some (.bool false) := (lc1 2).trans (by go_simp)
    have n0 : w1.frozen? ⟨w.heap.size, 0, none⟩ = false := (lf1 0).trans (by go_simp)
    have n1 : w1.frozen? ⟨w.heap.size, 1, none⟩ = false := (lf1 1).trans (by go_simp)
    have n2 : w1.frozen? ⟨w.heap.size, 2, none⟩ = false := (lf1 2).trans (by go_simp)
    have G1 := gb_trans G0 g1
    clear lc1 lf1 g1 G0 c0 c1 c2 f1 f3
    go_wp2
    refine bodyPost_ret (v := .tuple #[.agg #[.slice none 0 0, .int .i64 0, .bool false], .bool true]) (by simp [results, Try.results82, go_sem, m0, m1, m2]) rfl ⟨none, 0, 0, rfl, TVb.nil _ _, ?_, ?_⟩
    · with_reducible repeat first | exact R1 | apply RS.drew | apply RS.drewN | apply RS.alloc | (refine RS.setOther ?_ (by omega) _)
    · with_reducible repeat first | exact G1 | apply gb_drew | apply gb_drew1 | apply gb_alloc | apply gb_setB | (refine gb_setNew ?_ (by omega) _)
/-- What readFrom does in an update. -/
def upFrom : ByteArray → Nat → FromR := fun s k =>
  if nextB s k = 60 then (if 65 ≤ nextB s (k + 1) ∧ nextB s (k + 1) ≤ 90 then ⟨true, k + 2, nextB s (k + 1), ((k + 1 : Nat) : Int)⟩ else ⟨false, k + 1, 0, 0⟩) else ⟨true, k, 0, 0⟩
set_option maxHeartbeats 1000000 in
theorem from_up : FromC true upFrom := by
  intro s b k w h
  have hb := h.blt
  have R0 : RS (w.alloc (.cells #[.int .u8 0, .int .i64 0] 117)) b s k true := h.alloc _
  have G0 : w.grownBy (w.alloc (.cells #[.int .u8 0, .int .i64 0] 117)) (some b) := World.grownBy_alloc _ _ _
  obtain ⟨c0, c1, c2, _, f1, f3, le, lt⟩ := id R0
  by_cases h60 : nextB s k = 60
  · have q1 : (nextB s k == 60) = true := by simp [h60]
    by_cases hh : 65 ≤ nextB s (k + 1) ∧ nextB s (k + 1) ≤ 90
    · have hy : (decide (65 ≤ nextB s (k + 1)) && decide (nextB s (k + 1) ≤ 90)) = true := by simp; exact hh
      have e : upFrom s k = ⟨true, k + 1 + 1, nextB s (k + 1), ((k + 1 : Nat) : Int)⟩ := by unfold upFrom; rw [if_pos h60, if_pos hh]
      rw [e]
      clear e h60 h hh
      go_enter Try.func75, Try.ntmps75
      go_wp2_with fail
      refine (take_rs R0 (by omega) true q1).mono ?_
      rintro e w1 ⟨rfl, R1, g1⟩
      simp only [if_true] at R1
      have G1 := gb_trans G0 g1
      go_wp2_with fail
      refine (letter_rs R1 (by omega) true hy).mono ?_
      rintro e w2 ⟨rfl, R2, g2⟩
      simp only [if_true] at R2 ⊢
      have G2 := gb_trans G1 g2
      obtain ⟨lc1, lf1, ls1⟩ := Loc.of g1 (r := w.heap.size) (by simp) (by omega)
      obtain ⟨lc2, lf2, ls2⟩ := Loc.of g2 (r := w.heap.size) ls1 (by omega)
      have m0 : w2.cell? ⟨w.heap.size, 0, none⟩ = some (.int .u8 0) := (lc2 0).trans ((lc1 0).trans (by go_simp))
      have m1 : w2.cell? ⟨w.heap.size, 1, none⟩ = some (.int .i64 0) := (lc2 1).trans ((lc1 1).trans (by go_simp))
      have n0 : w2.frozen? ⟨w.heap.size, 0, none⟩ = false := (lf2 0).trans ((lf1 0).trans (by go_simp))
      have n1 : w2.frozen? ⟨w.heap.size, 1, none⟩ = false := (lf2 1).trans ((lf1 1).trans (by go_simp))
      clear lc1 lf1 lc2 lf2 g1 g2 G0 G1 c0 c1 c2 f1 f3
      go_wp2
      refine bodyPost_ret (v := .tuple #[.agg #[.int .u8 (nextB s (k + 1)), .int .i64 (((k + 1 : Nat) : Int))], .bool true]) (by simp [results, Try.results75, go_sem, m0, m1]) rfl ⟨rfl, ?_, ?_⟩
      · with_reducible repeat first | exact R2 | apply RS.drew | apply RS.drewN | apply RS.alloc | (refine RS.setOther ?_ (by omega) _)
      · with_reducible repeat first | exact G2 | apply gb_drew | apply gb_drew1 | apply gb_alloc | apply gb_setB | (refine gb_setNew ?_ (by omega) _)
    · have hy : (decide (65 ≤ nextB s (k + 1)) && decide (nextB s (k + 1) ≤ 90)) = false := by
        cases hz : (decide (65 ≤ nextB s (k + 1)) && decide (nextB s (k + 1) ≤ 90)) with
        | false => rfl
        | true => simp at hz; exact absurd hz hh
      have e : upFrom s k = ⟨false, k + 1, 0, 0⟩ := by unfold upFrom; rw [if_pos h60, if_neg hh]
      rw [e]
      clear e h60 h hh
      go_enter Try.func75, Try.ntmps75
      go_wp2_with fail
      refine (take_rs R0 (by omega) true q1).mono ?_
      rintro e w1 ⟨rfl, R1, g1⟩
      simp only [if_true] at R1
      have G1 := gb_trans G0 g1
      go_wp2_with fail
      refine (letter_rs R1 (by omega) false hy).mono ?_
      rintro e w2 ⟨rfl, R2, g2⟩
      simp only [Bool.false_eq_true, if_false] at R2 ⊢
      have G2 := gb_trans G1 g2
      obtain ⟨lc1, lf1, ls1⟩ := Loc.of g1 (r := w.heap.size) (by simp) (by omega)
      obtain ⟨lc2, lf2, ls2⟩ := Loc.of g2 (r := w.heap.size) ls1 (by omega)
      have m0 : w2.cell? ⟨w.heap.size, 0, none⟩ = some (.int .u8 0) := (lc2 0).trans ((lc1 0).trans (by go_simp))
      have m1 : w2.cell? ⟨w.heap.size, 1, none⟩ = some (.int .i64 0) := (lc2 1).trans ((lc1 1).trans (by go_simp))
      have n0 : w2.frozen? ⟨w.heap.size, 0, none⟩ = false := (lf2 0).trans ((lf1 0).trans (by go_simp))
      have n1 : w2.frozen? ⟨w.heap.size, 1, none⟩ = false := (lf2 1).trans ((lf1 1).trans (by go_simp))
      clear lc1 lf1 lc2 lf2 g1 g2 G0 G1 c0 c1 c2 f1 f3
      go_wp2
      refine bodyPost_ret (v := .tuple #[.agg #[.int .u8 (0), .int .i64 (0)], .bool false]) (by simp [results, Try.results75, go_sem, m0, m1]) rfl ⟨rfl, ?_, ?_⟩
      · with_reducible repeat first | exact R2 | apply RS.drew | apply RS.drewN | apply RS.alloc | (refine RS.setOther ?_ (by omega) _)
      · with_reducible repeat first | exact G2 | apply gb_drew | apply gb_drew1 | apply gb_alloc | apply gb_setB | (refine gb_setNew ?_ (by omega) _)
  · have q1 : (nextB s k == 60) = false := by simp [h60]
    have e : upFrom s k = ⟨true, k, 0, 0⟩ := by unfold upFrom; rw [if_neg h60]
    rw [e]
    clear e h60 h
    go_enter Try.func75, Try.ntmps75
    go_wp2_with fail
    refine (take_rs R0 (by omega) false q1).mono ?_
    rintro e w1 ⟨rfl, R1, g1⟩
    simp only [Bool.false_eq_true, if_false] at R1
    obtain ⟨lc1, lf1, ls1⟩ := Loc.of g1 (r := w.heap.size) (by simp) (by omega)
    have m0 : w1.cell? ⟨w.heap.size, 0, none⟩ = some (.int .u8 0) := (lc1 0).trans (by go_simp)
    have m1 : w1.cell? ⟨w.heap.size, 1, none⟩ = some (.int .i64 0) := (lc1 1).trans (by go_simp)
    have n0 : w1.frozen? ⟨w.heap.size, 0, none⟩ = false := (lf1 0).trans (by go_simp)
    have n1 : w1.frozen? ⟨w.heap.size, 1, none⟩ = false := (lf1 1).trans (by go_simp)
    have G1 := gb_trans G0 g1
    clear lc1 lf1 g1 G0 c0 c1 c2 f1 f3
    go_wp2
    refine bodyPost_ret (v := .tuple #[.agg #[.int .u8 0, .int .i64 0], .bool true]) (by simp [results, Try.results75, go_sem, m0, m1]) rfl ⟨rfl, ?_, ?_⟩
    · with_reducible repeat first | exact R1 | apply RS.drew | apply RS.drewN | apply RS.alloc | (refine RS.setOther ?_ (by omega) _)
    · with_reducible repeat first | exact G1 | apply gb_drew | apply gb_drew1 | apply gb_alloc | apply gb_setB | (refine gb_setNew ?_ (by omega) _)
set_option maxHeartbeats 400000 in
theorem readUpdate_any (s : ByteArray) (w : World) (hm : s.size ≤ 9223372036854775807) :
    Calls Try.prog 44 #[.string s] w (GReadPost (gcLoop upRule upFrom s 6 [] 0) s w) := by
  obtain ⟨R, hR⟩ : ∃ R, R = gcLoop upRule upFrom s 6 [] 0 := ⟨_, rfl⟩
  have C := gread_any rule_up from_up s w hm
  rw [← hR] at C ⊢
  clear hR
  go_enter Try.func44, Try.ntmps44
  go_wp2_with fail
  refine C.mono ?_
  rintro e w1 ⟨va, vn, vc, rs, rfl, V1, B1⟩
  clear C
  obtain ⟨x, hx⟩ : ∃ x, x = gdE R s := ⟨_, rfl⟩
  obtain ⟨y, hy⟩ : ∃ y, y = gdP R s := ⟨_, rfl⟩
  rw [← hx, ← hy]
  have HX : Hid (x = gdE R s ∧ y = gdP R s) := ⟨hx, hy⟩
  clear hx hy
  go_wp2
  refine bodyPost_ret (v := .tuple #[.slice va vn vc, .int .i64 x, .int .i64 y]) (by simp [results, Try.results44, go_sem]) rfl ⟨_, _, _, rs, by rw [HX.out.1, HX.out.2], V1, B1⟩
end Go.Proofs.Ythckelcjncnalab
