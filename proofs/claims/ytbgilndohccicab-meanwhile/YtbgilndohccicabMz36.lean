import Derived.Test.YtbgilndohccicabMz35
import Derived.Test.YtbgilndohccicabMz14
namespace Go.Proofs.Ytbgilndohccicab
open Go.RowKit

set_option maxHeartbeats 2000000 in
set_option maxRecDepth 20000 in
theorem sum_loop (s : ByteArray) (d : Nat) (F : Nat → List GT → SumR) (hG : Grow F) (hF : PC 112 s d F) : PC 111 s d (fun k ts => opLoop s isAdd F (s.size + 1) (F k ts)) := by
  intro b k base v ts w h
  simp only []
  have C := hF b k base v ts w h
  have hG0 := hG k ts
  obtain ⟨R, hR⟩ : ∃ R, R = opLoop s isAdd F (s.size + 1) (F k ts) := ⟨_, rfl⟩
  rw [← hR]
  obtain ⟨ok, q, us, hq⟩ : ∃ ok q us, F k ts = ⟨ok, q, us⟩ := ⟨_, _, _, rfl⟩
  rw [hq] at C hR hG0
  unfold SumPost at C
  simp only [] at C hG0
  have H0 : Hid (R = opLoop s isAdd F (s.size + 1) ⟨ok, q, us⟩) := hR
  clear hR hq h
  go_enter Try.func111, Try.ntmps111
  go_wp2_with fail
  refine C.mono ?_
  rintro e w0 ⟨rfl, v0, R0, F0⟩
  clear C
  go_wp2
  go_loopg [5] (s.size + 1) (fun gk okv wr => ∃ (st : SumR) (v' : Value), okv = .bool st.ok ∧ R = opLoop s isAdd F gk st ∧ s.size < st.at_ + gk ∧ RT wr b s st.at_ base v' st.ts ∧ Fr b v v' w wr)
  case atStart => exact ⟨⟨ok, q, us⟩, v0, rfl, H0.out, by omega, R0, F0⟩
  case round =>
    obtain ⟨⟨ok, q, us⟩, v0, rfl, hl, hsz, HR, F0⟩ := hrel
    simp only [] at hsz HR
    have HL : Hid (R = opLoop s isAdd F gk ⟨ok, q, us⟩) := hl
    have F0 : Hid (Fr b v v0 w wr) := F0
    have hbr := HR.rs.blt
    clear hl R0 H0 hG0
    cases ok with
    | false =>
      have HE : Hid (R = ⟨false, q, us⟩) := by show R = _; rw [HL.out, opLoop_stop _ _ _ _ (by simp)]
      go_wp2
      go_ret
      rw [HE.out]
      exact ⟨rfl, v0, HR, F0.out⟩
    | true =>
      have HN := here_any s b q true wr HR.rs
      cases hp : isAdd (nextB s q) with
      | false =>
        have HE : Hid (R = ⟨true, q, us⟩) := by show R = _; rw [HL.out, opLoop_stop _ _ _ _ (by simp [hp])]
        have e0 : ¬ nextB s q = 43 ∧ ¬ nextB s q = 45 := by simpa [isAdd] using hp
        have e1 : (nextB s q != 43) = true := by simp [e0.1]
        have e2 : (nextB s q != 45) = true := by simp [e0.2]
        clear e0
        go_wp2_with fail
        refine HN.mono ?_
        rintro e w1 ⟨rfl, B1⟩
        have R1 := (HR.below B1).alloc (.cells #[.int .u8 (nextB s q), .int .i64 0, .int .i64 q] 191)
        have F1 : Fr b v v0 w (w1.alloc (.cells #[.int .u8 (nextB s q), .int .i64 0, .int .i64 q] 191)) := F0.out.trans (Fr.below (B1.alloc B1.size _))
        go_wp2
        go_ret
        rw [HE.out]
        exact ⟨rfl, v0, R1, F1⟩
      | true =>
        have hq : q < s.size := nextB_pos (by
          have : nextB s q = 43 ∨ nextB s q = 45 := by simpa [isAdd] using hp
          omega)
        obtain ⟨n, rfl⟩ : ∃ n, gk = n + 1 := ⟨gk - 1, by omega⟩
        have hc : nextB s q = 43 ∨ nextB s q = 45 := by simpa [isAdd] using hp
        by_cases h43 : nextB s q = 43
        · have e1 : (nextB s q != 43) = false := by simp [h43]
          clear h43 hc
          go_wp2_with fail
          refine HN.mono ?_
          rintro e w1 ⟨rfl, B1⟩
          have R1 := (HR.below B1).alloc (.cells #[.int .u8 (nextB s q), .int .i64 0, .int .i64 q] 191)
          have hpb : b < w1.heap.size := by have := B1.size; omega
          have hpv : v0.ownBlock ≠ some w1.heap.size := fun e => by have := (HR.own _ e).2; have := B1.size; omega
          have R2 := ((HR.below B1).inc hq).alloc (.cells #[.int .u8 (nextB s q), .int .i64 0, .int .i64 q] 191)
          have F2 : Fr b v v0 w ((w1.setCell ⟨b, 1, none⟩ (.int .i64 ((q : Int) + 1))).alloc (.cells #[.int .u8 (nextB s q), .int .i64 0, .int .i64 q] 191)) := ((F0.out.trans (Fr.below B1)).trans (Fr.setB b 1 v0 (.int .i64 ((q : Int) + 1)) w1)).trans (Fr.below ((Below.refl _ _).alloc (Nat.le_refl _) _))
          have C3 := hF b (q + 1) base v0 us _ R2
          obtain ⟨c0, c1, c2, _, f1, f3, _, _⟩ := id R1.rs
          have G := hG (q + 1) us
          have hstep := HL.out
          rw [opLoop_step s isAdd F ⟨true, q, us⟩ ⟨rfl, hp⟩] at hstep
          unfold opStep at hstep
          simp only [] at hstep
          obtain ⟨ok3, q3, us3, h3⟩ : ∃ ok3 q3 us3, F (q + 1) us = ⟨ok3, q3, us3⟩ := ⟨_, _, _, rfl⟩
          rw [h3] at C3 G hstep
          unfold SumPost at C3
          simp only [] at C3 G hstep
          have HST : Hid (R = opLoop s isAdd F n ⟨ok3, q3, us3 ++ [⟨nextB s q, 0, q⟩]⟩) := hstep
          have hln := HR.ln
          clear h3 hstep B1 HN HL
          go_wp2_with fail
          refine C3.mono ?_
          rintro e w3 ⟨rfl, v3, R3, F3⟩
          have lb := F3.blk w1.heap.size (by simp [World.setCell]) (by omega) hpv
          have lc := fun o => World.cell?_of_block (a := ⟨w1.heap.size, o, none⟩) lb
          have l0 : w3.cell? ⟨w1.heap.size, 0, none⟩ = some (.int .u8 (nextB s q)) := (lc 0).trans (by go_simp)
          have l1 : w3.cell? ⟨w1.heap.size, 1, none⟩ = some (.int .i64 0) := (lc 1).trans (by go_simp)
          have l2 : w3.cell? ⟨w1.heap.size, 2, none⟩ = some (.int .i64 q) := (lc 2).trans (by go_simp)
          have hp3 : w1.heap.size < w3.heap.size := by have := F3.size; simp [World.setCell] at this; omega
          have hb3 : b < w3.heap.size := by omega
          obtain ⟨g0, g1, g2, _, g4, g5, _, _⟩ := id R3.rs
          have g3 := R3.c3
          obtain ⟨a3, n3, rfl⟩ := R3.shape
          obtain ⟨g, cap, w4, hrun, H4, F4, k3, k4, k5⟩ := R3.run (by omega) ⟨nextB s q, 0, q⟩
          have HF : Hid _ := (F2.trans F3).trans F4
          have HH : Hid _ := H4
          clear F4 H4 F3 F2 R3 R2 R1 lb lc C3 c0 c1 c2 f1 f3
          go_wp2
          go_region_law (refine stepT_append rfl (.tmp 35) (.tmp 37) 158 rfl _ _ _ _ (by simp [Act.eval]) (by simp [Act.eval]) hrun ?_)
          all_goals
            go_wp2
            go_roundg n
            case measure => omega
            case rel =>
              exact ⟨⟨ok3, q3, us3 ++ [⟨nextB s q, 0, q⟩]⟩, _, rfl, HST.out, by simp only []; omega, HH.out, HF.out⟩
        · have e1 : (nextB s q != 43) = true := by simp [h43]
          have e2 : (nextB s q != 45) = false := by
            have : nextB s q = 45 := by omega
            simp [this]
          clear h43 hc
          go_wp2_with fail
          refine HN.mono ?_
          rintro e w1 ⟨rfl, B1⟩
          have R1 := (HR.below B1).alloc (.cells #[.int .u8 (nextB s q), .int .i64 0, .int .i64 q] 191)
          have hpb : b < w1.heap.size := by have := B1.size; omega
          have hpv : v0.ownBlock ≠ some w1.heap.size := fun e => by have := (HR.own _ e).2; have := B1.size; omega
          have R2 := ((HR.below B1).inc hq).alloc (.cells #[.int .u8 (nextB s q), .int .i64 0, .int .i64 q] 191)
          have F2 : Fr b v v0 w ((w1.setCell ⟨b, 1, none⟩ (.int .i64 ((q : Int) + 1))).alloc (.cells #[.int .u8 (nextB s q), .int .i64 0, .int .i64 q] 191)) := ((F0.out.trans (Fr.below B1)).trans (Fr.setB b 1 v0 (.int .i64 ((q : Int) + 1)) w1)).trans (Fr.below ((Below.refl _ _).alloc (Nat.le_refl _) _))
          have C3 := hF b (q + 1) base v0 us _ R2
          obtain ⟨c0, c1, c2, _, f1, f3, _, _⟩ := id R1.rs
          have G := hG (q + 1) us
          have hstep := HL.out
          rw [opLoop_step s isAdd F ⟨true, q, us⟩ ⟨rfl, hp⟩] at hstep
          unfold opStep at hstep
          simp only [] at hstep
          obtain ⟨ok3, q3, us3, h3⟩ : ∃ ok3 q3 us3, F (q + 1) us = ⟨ok3, q3, us3⟩ := ⟨_, _, _, rfl⟩
          rw [h3] at C3 G hstep
          unfold SumPost at C3
          simp only [] at C3 G hstep
          have HST : Hid (R = opLoop s isAdd F n ⟨ok3, q3, us3 ++ [⟨nextB s q, 0, q⟩]⟩) := hstep
          have hln := HR.ln
          clear h3 hstep B1 HN HL
          go_wp2_with fail
          refine C3.mono ?_
          rintro e w3 ⟨rfl, v3, R3, F3⟩
          have lb := F3.blk w1.heap.size (by simp [World.setCell]) (by omega) hpv
          have lc := fun o => World.cell?_of_block (a := ⟨w1.heap.size, o, none⟩) lb
          have l0 : w3.cell? ⟨w1.heap.size, 0, none⟩ = some (.int .u8 (nextB s q)) := (lc 0).trans (by go_simp)
          have l1 : w3.cell? ⟨w1.heap.size, 1, none⟩ = some (.int .i64 0) := (lc 1).trans (by go_simp)
          have l2 : w3.cell? ⟨w1.heap.size, 2, none⟩ = some (.int .i64 q) := (lc 2).trans (by go_simp)
          have hp3 : w1.heap.size < w3.heap.size := by have := F3.size; simp [World.setCell] at this; omega
          have hb3 : b < w3.heap.size := by omega
          obtain ⟨g0, g1, g2, _, g4, g5, _, _⟩ := id R3.rs
          have g3 := R3.c3
          obtain ⟨a3, n3, rfl⟩ := R3.shape
          obtain ⟨g, cap, w4, hrun, H4, F4, k3, k4, k5⟩ := R3.run (by omega) ⟨nextB s q, 0, q⟩
          have HF : Hid _ := (F2.trans F3).trans F4
          have HH : Hid _ := H4
          clear F4 H4 F3 F2 R3 R2 R1 lb lc C3 c0 c1 c2 f1 f3
          go_wp2
          go_region_law (refine stepT_append rfl (.tmp 35) (.tmp 37) 158 rfl _ _ _ _ (by simp [Act.eval]) (by simp [Act.eval]) hrun ?_)
          all_goals
            go_wp2
            go_roundg n
            case measure => omega
            case rel =>
              exact ⟨⟨ok3, q3, us3 ++ [⟨nextB s q, 0, q⟩]⟩, _, rfl, HST.out, by simp only []; omega, HH.out, HF.out⟩
theorem sum_any (s : ByteArray) : ∀ n, n ≤ 6 → PC 111 s (6 - n) (sumRL s n) := by
  intro n
  induction n with
  | zero =>
    intro _
    have hf := factor_any s 6 none (fun _ => Nat.le_refl _) (fun f h => by cases h)
    have hp := product_loop s 6 _ (facR_grow s none (fun f h => by cases h)) hf
    exact sum_loop s 6 _ (prodR_grow s none (fun f h => by cases h)) hp
  | succ n ih =>
    intro hn
    have hi := ih (by omega)
    rw [show 6 - n = 6 - (n + 1) + 1 by omega] at hi
    have hf := factor_any s (6 - (n + 1)) (some (sumRL s n)) (fun h => by cases h) (fun f h => by cases h; exact ⟨by omega, hi⟩)
    have hp := product_loop s (6 - (n + 1)) _ (facR_grow s (some (sumRL s n)) (fun f h => by cases h; exact sumRL_grow s n)) hf
    exact sum_loop s (6 - (n + 1)) _ (prodR_grow s (some (sumRL s n)) (fun f h => by cases h; exact sumRL_grow s n)) hp
end Go.Proofs.Ytbgilndohccicab
namespace Go.Proofs.Ytbgilndohccicab
open Go.RowKit

theorem RT.start {w : World} {b : Nat} {s : ByteArray} {k base : Nat} (h : RS w b s k true) (hb : b < base) (hs : base ≤ w.heap.size) : RT (w.setCell ⟨b, 3, none⟩ (.slice none 0 0)) b s k base (.slice none 0 0) [] := by
  have R3 : RS (w.setCell ⟨b, 3, none⟩ (.slice none 0 0)) b s k true := by
    obtain ⟨c0, c1, c2, ⟨z, c3⟩, f1, f3, le, lt⟩ := h
    exact ⟨by go_simp, by go_simp, by go_simp, ⟨.slice none 0 0, by go_simp⟩, by go_simp, by go_simp, le, lt⟩
  obtain ⟨c0, c1, c2, ⟨z, c3⟩, f1, f3, le, lt⟩ := h
  exact ⟨R3, by go_simp, TVb.nil _ _, hb, Nat.le_trans hs (gb_set w b 3 _).size, Nat.zero_le _⟩
/-- What readRule does in an update. -/
def upRule : ByteArray → Nat → RuleR := fun s k =>
  if nextB s k = 61 then (if (sumRL s 6 (k + 1) []).ok = true then ⟨true, if nextB s (sumRL s 6 (k + 1) []).at_ = 33 then (sumRL s 6 (k + 1) []).at_ + 1 else (sumRL s 6 (k + 1) []).at_, (sumRL s 6 (k + 1) []).ts, ((k + 1 : Nat) : Int), nextB s (sumRL s 6 (k + 1) []).at_ == 33⟩ else ⟨false, (sumRL s 6 (k + 1) []).at_, [], 0, false⟩)
  else ⟨true, k, [], 0, false⟩
set_option maxHeartbeats 1000000 in
theorem rule_up : RuleC true upRule := by
  intro s b k w h
  have hb := h.blt
  have HW : Hid (RS w b s k true) := h
  have R0 : RS (w.alloc (.cells #[.slice none 0 0, .int .i64 0, .bool false] 160)) b s k true := h.alloc _
  have G0 : w.grownBy (w.alloc (.cells #[.slice none 0 0, .int .i64 0, .bool false] 160)) (some b) := World.grownBy_alloc _ _ _
  obtain ⟨c0, c1, c2, _, f1, f3, le, lt⟩ := id R0
  by_cases h61 : nextB s k = 61
  · have hk : k < s.size := nextB_pos (by omega)
    have q1 : (nextB s k == 61) = true := by simp [h61]
    obtain ⟨R, hR⟩ : ∃ R, R = upRule s k := ⟨_, rfl⟩
    rw [← hR]
    unfold upRule at hR
    rw [if_pos h61] at hR
    obtain ⟨ok, q, us, hq⟩ : ∃ ok q us, sumRL s 6 (k + 1) [] = ⟨ok, q, us⟩ := ⟨_, _, _, rfl⟩
    have C := fun W v (hW : RT W b s (k + 1) w.heap.size v []) => sum_any s 6 (Nat.le_refl _) b (k + 1) w.heap.size v [] W hW
    rw [hq] at C hR
    unfold SumPost at C
    simp only [Nat.sub_self, Int.ofNat_zero] at C
    simp only [] at hR
    have HR : Hid (R = (if ok = true then ⟨true, if nextB s q = 33 then q + 1 else q, us, ((k + 1 : Nat) : Int), nextB s q == 33⟩ else ⟨false, q, [], 0, false⟩)) := hR
    clear hR hq h h61
    go_enter Try.func110, Try.ntmps110
    go_wp2_with fail
    refine (take_rs R0 (by omega) true q1).mono ?_
    rintro e w1 ⟨rfl, R1, g1⟩
    simp only [if_true] at R1
    obtain ⟨lc1, lf1, ls1⟩ := Loc.of g1 (r := w.heap.size) (by simp) (by omega)
    have hb1 := R1.blt
    have T1 := RT.start (base := w.heap.size) R1 hb (by have := g1.size; simp at this; omega)
    have C1 := C _ _ T1
    obtain ⟨p0, p1, p2, ⟨z, p3⟩, p4, p5, _, _⟩ := id R1
    have G1 : w.grownBy (w1.setCell ⟨b, 3, none⟩ (.slice none 0 0)) (some b) := gb_setB (gb_trans G0 g1) 3 _
    clear C R0 c0 c1 c2 f1 f3
    go_wp2_with fail
    refine C1.mono ?_
    rintro e w2 ⟨rfl, v2, T2, F2⟩
    have hbn : ∀ g, v2.ownBlock = some g → w1.heap.size ≤ g := fun g hg => by
      rcases F2.own g hg with e | e
      · cases e
      · simpa [World.setCell] using e
    have G2 : w.grownBy w2 (some b) := ⟨F2.os.trans G1.os, F2.tape.trans G1.tape, F2.output.trans G1.output, Nat.le_trans G1.size F2.size, fun i hi hne => (F2.blk i (Nat.lt_of_lt_of_le hi G1.size) (fun e => hne (by rw [e])) (by simp [Value.ownBlock])).trans (G1.block i hi hne)⟩
    have lb2 := F2.blk w.heap.size (by simpa [World.setCell] using ls1) (by omega) (by simp [Value.ownBlock])
    have lc2 := fun o => World.cell?_of_block (a := ⟨w.heap.size, o, none⟩) lb2
    have lf2 := fun o => World.frozen?_of_block (a := ⟨w.heap.size, o, none⟩) lb2
    have ls2 : w.heap.size < w2.heap.size := by have := F2.size; simp [World.setCell] at this; omega
    have m0 : w2.cell? ⟨w.heap.size, 0, none⟩ = some (.slice none 0 0) := (lc2 0).trans (by have := lc1 0; go_simp)
    have m1 : w2.cell? ⟨w.heap.size, 1, none⟩ = some (.int .i64 0) := (lc2 1).trans (by have := lc1 1; go_simp)
    have m2 : w2.cell? ⟨w.heap.size, 2, none⟩ = some (.bool false) := (lc2 2).trans (by have := lc1 2; go_simp)
    have n0 : w2.frozen? ⟨w.heap.size, 0, none⟩ = false := (lf2 0).trans (by have := lf1 0; go_simp)
    have n1 : w2.frozen? ⟨w.heap.size, 1, none⟩ = false := (lf2 1).trans (by have := lf1 1; go_simp)
    have n2 : w2.frozen? ⟨w.heap.size, 2, none⟩ = false := (lf2 2).trans (by have := lf1 2; go_simp)
    have hpo : v2.ownBlock ≠ some w.heap.size := fun e => by have := hbn _ e; omega
    have hb2 : b < w2.heap.size := T2.rs.blt
    clear lb2 lc2 lf2 lc1 lf1 C1 F2 G1 g1 G0 T1 p0 p1 p2 p3 p4 p5
    cases ok with
    | false =>
      have HE : Hid (R = ⟨false, q, [], 0, false⟩) := by show R = _; rw [HR.out, if_neg (by decide)]
      go_wp2
      refine bodyPost_ret (v := .tuple #[.agg #[.slice none 0 0, .int .i64 0, .bool false], .bool false]) (by simp [results, Try.results110, go_sem, m0, m1, m2]) rfl ?_
      rw [HE.out]
      refine ⟨none, 0, 0, rfl, TVb.nil _ _, ?_, ?_⟩
      · with_reducible repeat first | exact T2.rs | apply RS.drew | apply RS.drewN | apply RS.alloc | (refine RS.setOther ?_ (by omega) _)
      · with_reducible repeat first | exact G2 | apply gb_drew | apply gb_drew1 | apply gb_alloc | apply gb_setB | (refine gb_setNew ?_ (by omega) _)
    | true =>
      obtain ⟨y, hy⟩ : ∃ y, (nextB s q == 33) = y := ⟨_, rfl⟩
      have HE : Hid (R = ⟨true, if y = true then q + 1 else q, us, ((k + 1 : Nat) : Int), y⟩) := by
        show R = _
        rw [HR.out, if_pos rfl, hy]
        congr 1
        subst hy
        by_cases hh : nextB s q = 33
        · rw [if_pos hh, if_pos (by simpa using hh)]
        · rw [if_neg hh, if_neg (by simpa using hh)]
      go_wp2_with fail
      refine (take_rt T2 (by omega) y hy).mono ?_
      rintro e w3 ⟨rfl, T3, F3⟩
      have lb3 := F3.blk w.heap.size ls2 (by omega) hpo
      have M : ∀ o, w3.cell? ⟨w.heap.size, o, none⟩ = w2.cell? ⟨w.heap.size, o, none⟩ := fun o => World.cell?_of_block (a := ⟨w.heap.size, o, none⟩) lb3
      have N : ∀ o, w3.frozen? ⟨w.heap.size, o, none⟩ = w2.frozen? ⟨w.heap.size, o, none⟩ := fun o => World.frozen?_of_block (a := ⟨w.heap.size, o, none⟩) lb3
      have ls3 : w.heap.size < w3.heap.size := by have := F3.size; omega
      have G3 : w.grownBy w3 (some b) := ⟨F3.os.trans G2.os, F3.tape.trans G2.tape, F3.output.trans G2.output, Nat.le_trans G2.size F3.size, fun i hi hne => (F3.blk i (Nat.lt_of_lt_of_le hi G2.size) (fun e => hne (by rw [e])) (fun e => by have := hbn _ e; omega)).trans (G2.block i hi hne)⟩
      obtain ⟨a3, n3, rfl⟩ := T3.shape
      have c3 := T3.c3
      have hb3 : b < w3.heap.size := T3.rs.blt
      have m0' := (M 0).trans m0
      have m1' := (M 1).trans m1
      have m2' := (M 2).trans m2
      have n0' := (N 0).trans n0
      have n1' := (N 1).trans n1
      have n2' := (N 2).trans n2
      have TV : Hid (TVb (((w3.setCell ⟨w.heap.size, 0, none⟩ (.slice a3 us.length n3)).setCell ⟨w.heap.size, 1, none⟩ (.int .i64 ((k + 1 : Nat) : Int))).setCell ⟨w.heap.size, 2, none⟩ (.bool y)) w.heap.size (.slice a3 us.length n3) us) :=
        (((T3.setP 0 (.slice a3 us.length n3) (p := w.heap.size) (by omega) hpo).setP 1 (.int .i64 ((k + 1 : Nat) : Int)) (p := w.heap.size) (by omega) hpo).setP 2 (.bool y) (p := w.heap.size) (by omega) hpo).tv
      clear m0 m1 m2 n0 n1 n2 M N lb3
      go_wp2
      refine bodyPost_ret (v := .tuple #[.agg #[.slice a3 us.length n3, .int .i64 ((k + 1 : Nat) : Int), .bool y], .bool true]) (by simp [results, Try.results110, go_sem, m0', m1', m2']) rfl ?_
      rw [HE.out]
      refine ⟨a3, us.length, n3, rfl, by simpa using TV.out, ?_, ?_⟩
      · with_reducible repeat first | exact T3.rs | apply RS.drew | apply RS.drewN | apply RS.alloc | (refine RS.setOther ?_ (by omega) _)
      · with_reducible repeat first | exact G3 | apply gb_drew | apply gb_drew1 | apply gb_alloc | apply gb_setB | (refine gb_setNew ?_ (by omega) _)
  · have q1 : (nextB s k == 61) = false := by simp [h61]
    have e : upRule s k = ⟨true, k, [], 0, false⟩ := by unfold upRule; rw [if_neg h61]
    rw [e]
    clear e h61 h
    go_enter Try.func110, Try.ntmps110
    go_wp2_with fail
    refine (take_rs R0 (by omega) false q1).mono ?_
    rintro e w1 ⟨rfl, R1, g1⟩
    simp only [Bool.false_eq_true, if_false] at R1
    obtain ⟨lc1, lf1, ls1⟩ := Loc.of g1 (r := w.heap.size) (by simp) (by omega)
    have m0 : w1.cell? ⟨w.heap.size, 0, none⟩ = some (.slice none 0 0) := (lc1 0).trans (by go_simp)
    have m1 : w1.cell? ⟨w.heap.size, 1, none⟩ = some (.int .i64 0) := (lc1 1).trans (by go_simp)
    have m2 : w1.cell? ⟨w.heap.size, 2, none⟩ = some (.bool false) := (lc1 2).trans (by go_simp)
    have n0 : w1.frozen? ⟨w.heap.size, 0, none⟩ = false := (lf1 0).trans (by go_simp)
    have n1 : w1.frozen? ⟨w.heap.size, 1, none⟩ = false := (lf1 1).trans (by go_simp)
    have n2 : w1.frozen? ⟨w.heap.size, 2, none⟩ = false := (lf1 2).trans (by go_simp)
    have G1 := gb_trans G0 g1
    clear lc1 lf1 g1 G0 c0 c1 c2 f1 f3
    go_wp2
    refine bodyPost_ret (v := .tuple #[.agg #[.slice none 0 0, .int .i64 0, .bool false], .bool true]) (by simp [results, Try.results110, go_sem, m0, m1, m2]) rfl ⟨none, 0, 0, rfl, TVb.nil _ _, ?_, ?_⟩
    · with_reducible repeat first | exact R1 | apply RS.drew | apply RS.drewN | apply RS.alloc | (refine RS.setOther ?_ (by omega) _)
    · with_reducible repeat first | exact G1 | apply gb_drew | apply gb_drew1 | apply gb_alloc | apply gb_setB | (refine gb_setNew ?_ (by omega) _)
/-- What readFrom does in an update. -/
def upFrom : ByteArray → Nat → FromR := fun s k =>
  if nextB s k = 60 then (if 65 ≤ nextB s (k + 1) ∧ nextB s (k + 1) ≤ 90 then ⟨true, k + 2, nextB s (k + 1), ((k + 1 : Nat) : Int)⟩ else ⟨false, k + 1, 0, 0⟩) else ⟨true, k, 0, 0⟩
set_option maxHeartbeats 1000000 in
theorem from_up : FromC true upFrom := by
  intro s b k w h
  have hb := h.blt
  have R0 : RS (w.alloc (.cells #[.int .u8 0, .int .i64 0] 153)) b s k true := h.alloc _
  have G0 : w.grownBy (w.alloc (.cells #[.int .u8 0, .int .i64 0] 153)) (some b) := World.grownBy_alloc _ _ _
  obtain ⟨c0, c1, c2, _, f1, f3, le, lt⟩ := id R0
  by_cases h60 : nextB s k = 60
  · have q1 : (nextB s k == 60) = true := by simp [h60]
    by_cases hh : 65 ≤ nextB s (k + 1) ∧ nextB s (k + 1) ≤ 90
    · have hy : (decide (65 ≤ nextB s (k + 1)) && decide (nextB s (k + 1) ≤ 90)) = true := by simp; exact hh
      have e : upFrom s k = ⟨true, k + 1 + 1, nextB s (k + 1), ((k + 1 : Nat) : Int)⟩ := by unfold upFrom; rw [if_pos h60, if_pos hh]
      rw [e]
      clear e h60 h hh
      go_enter Try.func103, Try.ntmps103
      go_wp2_with fail
      refine (take_rs R0 (by omega) true q1).mono ?_
      rintro e w1 ⟨rfl, R1, g1⟩
      simp only [if_true] at R1
      have G1 := gb_trans G0 g1
      go_wp2_with fail
      refine (letter_rs R1 (by omega) true hy).mono ?_
      rintro e w2 ⟨rfl, R2, g2⟩
      simp only [if_true] at R2 ⊢
      have G2 := gb_trans G1 g2
      obtain ⟨lc1, lf1, ls1⟩ := Loc.of g1 (r := w.heap.size) (by simp) (by omega)
      obtain ⟨lc2, lf2, ls2⟩ := Loc.of g2 (r := w.heap.size) ls1 (by omega)
      have m0 : w2.cell? ⟨w.heap.size, 0, none⟩ = some (.int .u8 0) := (lc2 0).trans ((lc1 0).trans (by go_simp))
      have m1 : w2.cell? ⟨w.heap.size, 1, none⟩ = some (.int .i64 0) := (lc2 1).trans ((lc1 1).trans (by go_simp))
      have n0 : w2.frozen? ⟨w.heap.size, 0, none⟩ = false := (lf2 0).trans ((lf1 0).trans (by go_simp))
      have n1 : w2.frozen? ⟨w.heap.size, 1, none⟩ = false := (lf2 1).trans ((lf1 1).trans (by go_simp))
      clear lc1 lf1 lc2 lf2 g1 g2 G0 G1 c0 c1 c2 f1 f3
      go_wp2
      refine bodyPost_ret (v := .tuple #[.agg #[.int .u8 (nextB s (k + 1)), .int .i64 (((k + 1 : Nat) : Int))], .bool true]) (by simp [results, Try.results103, go_sem, m0, m1]) rfl ⟨rfl, ?_, ?_⟩
      · with_reducible repeat first | exact R2 | apply RS.drew | apply RS.drewN | apply RS.alloc | (refine RS.setOther ?_ (by omega) _)
      · with_reducible repeat first | exact G2 | apply gb_drew | apply gb_drew1 | apply gb_alloc | apply gb_setB | (refine gb_setNew ?_ (by omega) _)
    · have hy : (decide (65 ≤ nextB s (k + 1)) && decide (nextB s (k + 1) ≤ 90)) = false := by
        cases hz : (decide (65 ≤ nextB s (k + 1)) && decide (nextB s (k + 1) ≤ 90)) with
        | false => rfl
        | true => simp at hz; exact absurd hz hh
      have e : upFrom s k = ⟨false, k + 1, 0, 0⟩ := by unfold upFrom; rw [if_pos h60, if_neg hh]
      rw [e]
      clear e h60 h hh
      go_enter Try.func103, Try.ntmps103
      go_wp2_with fail
      refine (take_rs R0 (by omega) true q1).mono ?_
      rintro e w1 ⟨rfl, R1, g1⟩
      simp only [if_true] at R1
      have G1 := gb_trans G0 g1
      go_wp2_with fail
      refine (letter_rs R1 (by omega) false hy).mono ?_
      rintro e w2 ⟨rfl, R2, g2⟩
      simp only [Bool.false_eq_true, if_false] at R2 ⊢
      have G2 := gb_trans G1 g2
      obtain ⟨lc1, lf1, ls1⟩ := Loc.of g1 (r := w.heap.size) (by simp) (by omega)
      obtain ⟨lc2, lf2, ls2⟩ := Loc.of g2 (r := w.heap.size) ls1 (by omega)
      have m0 : w2.cell? ⟨w.heap.size, 0, none⟩ = some (.int .u8 0) := (lc2 0).trans ((lc1 0).trans (by go_simp))
      have m1 : w2.cell? ⟨w.heap.size, 1, none⟩ = some (.int .i64 0) := (lc2 1).trans ((lc1 1).trans (by go_simp))
      have n0 : w2.frozen? ⟨w.heap.size, 0, none⟩ = false := (lf2 0).trans ((lf1 0).trans (by go_simp))
      have n1 : w2.frozen? ⟨w.heap.size, 1, none⟩ = false := (lf2 1).trans ((lf1 1).trans (by go_simp))
      clear lc1 lf1 lc2 lf2 g1 g2 G0 G1 c0 c1 c2 f1 f3
      go_wp2
      refine bodyPost_ret (v := .tuple #[.agg #[.int .u8 (0), .int .i64 (0)], .bool false]) (by simp [results, Try.results103, go_sem, m0, m1]) rfl ⟨rfl, ?_, ?_⟩
      · with_reducible repeat first | exact R2 | apply RS.drew | apply RS.drewN | apply RS.alloc | (refine RS.setOther ?_ (by omega) _)
      · with_reducible repeat first | exact G2 | apply gb_drew | apply gb_drew1 | apply gb_alloc | apply gb_setB | (refine gb_setNew ?_ (by omega) _)
  · have q1 : (nextB s k == 60) = false := by simp [h60]
    have e : upFrom s k = ⟨true, k, 0, 0⟩ := by unfold upFrom; rw [if_neg h60]
    rw [e]
    clear e h60 h
    go_enter Try.func103, Try.ntmps103
    go_wp2_with fail
    refine (take_rs R0 (by omega) false q1).mono ?_
    rintro e w1 ⟨rfl, R1, g1⟩
    simp only [Bool.false_eq_true, if_false] at R1
    obtain ⟨lc1, lf1, ls1⟩ := Loc.of g1 (r := w.heap.size) (by simp) (by omega)
    have m0 : w1.cell? ⟨w.heap.size, 0, none⟩ = some (.int .u8 0) := (lc1 0).trans (by go_simp)
    have m1 : w1.cell? ⟨w.heap.size, 1, none⟩ = some (.int .i64 0) := (lc1 1).trans (by go_simp)
    have n0 : w1.frozen? ⟨w.heap.size, 0, none⟩ = false := (lf1 0).trans (by go_simp)
    have n1 : w1.frozen? ⟨w.heap.size, 1, none⟩ = false := (lf1 1).trans (by go_simp)
    have G1 := gb_trans G0 g1
    clear lc1 lf1 g1 G0 c0 c1 c2 f1 f3
    go_wp2
    refine bodyPost_ret (v := .tuple #[.agg #[.int .u8 0, .int .i64 0], .bool true]) (by simp [results, Try.results103, go_sem, m0, m1]) rfl ⟨rfl, ?_, ?_⟩
    · with_reducible repeat first | exact R1 | apply RS.drew | apply RS.drewN | apply RS.alloc | (refine RS.setOther ?_ (by omega) _)
    · with_reducible repeat first | exact G1 | apply gb_drew | apply gb_drew1 | apply gb_alloc | apply gb_setB | (refine gb_setNew ?_ (by omega) _)
set_option maxHeartbeats 400000 in
theorem readUpdate_any (s : ByteArray) (w : World) (hm : s.size ≤ 9223372036854775807) :
    Calls Try.prog 67 #[.string s] w (GReadPost (gcLoop upRule upFrom s 6 [] 0) s w) := by
  obtain ⟨R, hR⟩ : ∃ R, R = gcLoop upRule upFrom s 6 [] 0 := ⟨_, rfl⟩
  have C := gread_any rule_up from_up s w hm
  rw [← hR] at C ⊢
  clear hR
  go_enter Try.func67, Try.ntmps67
  go_wp2_with fail
  refine C.mono ?_
  rintro e w1 ⟨va, vn, vc, rs, rfl, V1, B1⟩
  clear C
  obtain ⟨x, hx⟩ : ∃ x, x = gdE R s := ⟨_, rfl⟩
  obtain ⟨y, hy⟩ : ∃ y, y = gdP R s := ⟨_, rfl⟩
  rw [← hx, ← hy]
  have HX : Hid (x = gdE R s ∧ y = gdP R s) := ⟨hx, hy⟩
  clear hx hy
  go_wp2
  refine bodyPost_ret (v := .tuple #[.slice va vn vc, .int .i64 x, .int .i64 y]) (by simp [results, Try.results67, go_sem]) rfl ⟨_, _, _, rs, by rw [HX.out.1, HX.out.2], V1, B1⟩
end Go.Proofs.Ytbgilndohccicab
