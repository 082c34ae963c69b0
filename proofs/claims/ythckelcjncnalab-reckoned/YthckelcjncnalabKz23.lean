import Derived.Test.YthckelcjncnalabKz22
namespace Go.Proofs.Ythckelcjncnalab
open Go.RowKit

set_option maxHeartbeats 2000000 in
set_option maxRecDepth 20000 in
theorem sum_loop (s : ByteArray) (d : Nat) (F : Nat → List GT → SumR) (hG : Grow F) (hF : PC 84 s d F) : PC 83 s d (fun k ts => opLoop s isAdd F (s.size + 1) (F k ts)) := by
  intro b k base v ts w h
  simp only []
  have C := hF b k base v ts w h
  have hG0 := hG k ts
  obtain ⟨R, hR⟩ : ∃ R, R = opLoop s isAdd F (s.size + 1) (F k ts) := ⟨_, rfl⟩
  rw [← hR]
  obtain ⟨ok, q, us, hq⟩ : ∃ ok q us, F k ts = ⟨ok, q, us⟩ := ⟨_, _, _, rfl⟩
  rw [hq] at C hR hG0
  unfold SumPost at C
  simp only [] at C hG0
  have H0 : Hid (R = opLoop s isAdd F (s.size + 1) ⟨ok, q, us⟩) := hR
  clear hR hq h
  go_enter Try.func83, Try.ntmps83
  go_wp2_with fail
  refine C.mono ?_
  rintro e w0 ⟨rfl, v0, R0, F0⟩
  clear C
  go_wp2
  go_loopg [5] (s.size + 1) (fun gk okv wr => ∃ (st : SumR) (v' : Value), okv = .bool st.ok ∧ R = opLoop s isAdd F gk st ∧ s.size < st.at_ + gk ∧ RT wr b s st.at_ base v' st.ts ∧ Fr b v v' w wr)
  case atStart => exact ⟨⟨ok, q, us⟩, v0, rfl, H0.out, by omega, R0, F0⟩
  case round =>
    obtain ⟨⟨ok, q, us⟩, v0, rfl, hl, hsz, HR, F0⟩ := hrel
    simp only [] at hsz HR
    have HL : Hid (R = opLoop s isAdd F gk ⟨ok, q, us⟩) := hl
    have F0 : Hid (Fr b v v0 w wr) := F0
    have hbr := HR.rs.blt
    clear hl R0 H0 hG0
    cases ok with
    | false =>
      have HE : Hid (R = ⟨false, q, us⟩) := by show R = _; rw [HL.out, opLoop_stop _ _ _ _ (by simp)]
      go_wp2
      go_ret
      rw [HE.out]
      exact ⟨rfl, v0, HR, F0.out⟩
    | true =>
      have HN := here_any s b q true wr HR.rs
      cases hp : isAdd (nextB s q) with
      | false =>
        have HE : Hid (R = ⟨true, q, us⟩) := by show R = _; rw [HL.out, opLoop_stop _ _ _ _ (by simp [hp])]
        have e0 : ¬ nextB s q = 43 ∧ ¬ nextB s q = 45 := by simpa [isAdd] using hp
        have e1 : (nextB s q != 43) = true := by simp [e0.1]
        have e2 : (nextB s q != 45) = true := by simp [e0.2]
        clear e0
        go_wp2_with fail
        refine HN.mono ?_
        rintro e w1 ⟨rfl, B1⟩
        have R1 := (HR.below B1).alloc (.cells #[.int .u8 (nextB s q), .int .i64 0, .int .i64 q] 154)
        have F1 : Fr b v v0 w (w1.alloc (.cells #[.int .u8 (nextB s q), .int .i64 0, .int .i64 q] 154)) := F0.out.trans (Fr.below (B1.alloc B1.size _))
        go_wp2
        go_ret
        rw [HE.out]
        exact ⟨rfl, v0, R1, F1⟩
      | true =>
        have hq : q < s.size := nextB_pos (by
          have : nextB s q = 43 ∨ nextB s q = 45 := by simpa [isAdd] using hp
          omega)
        obtain ⟨n, rfl⟩ : ∃ n, gk = n + 1 := ⟨gk - 1, by omega⟩
        have hc : nextB s q = 43 ∨ nextB s q = 45 := by simpa [isAdd] using hp
        by_cases h43 : nextB s q = 43
        · have e1 : (nextB s q != 43) = false := by simp [h43]
          clear h43 hc
          go_wp2_with fail
          refine HN.mono ?_
          rintro e w1 ⟨rfl, B1⟩
          have R1 := (HR.below B1).alloc (.cells #[.int .u8 (nextB s q), .int .i64 0, .int .i64 q] 154)
          have hpb : b < w1.heap.size := by have := B1.size; omega
          have hpv : v0.ownBlock ≠ some w1.heap.size := fun e => by have := (HR.own _ e).2; have := B1.size; omega
          have R2 := ((HR.below B1).inc hq).alloc (.cells #[.int .u8 (nextB s q), .int .i64 0, .int .i64 q] 154)
          have F2 : Fr b v v0 w ((w1.setCell ⟨b, 1, none⟩ (.int .i64 ((q : Int) + 1))).alloc (.cells #[.int .u8 (nextB s q), .int .i64 0, .int .i64 q] 154)) := ((F0.out.trans (Fr.below B1)).trans (Fr.setB b 1 v0 (.int .i64 ((q : Int) + 1)) w1)).trans (Fr.below ((Below.refl _ _).alloc (Nat.le_refl _) _))
          have C3 := hF b (q + 1) base v0 us _ R2
          obtain ⟨c0, c1, c2, _, f1, f3, _, _⟩ := id R1.rs
          have G := hG (q + 1) us
          have hstep := HL.out
          rw [opLoop_step s isAdd F ⟨true, q, us⟩ ⟨rfl, hp⟩] at hstep
          unfold opStep at hstep
          simp only [] at hstep
          obtain ⟨ok3, q3, us3, h3⟩ : ∃ ok3 q3 us3, F (q + 1) us = ⟨ok3, q3, us3⟩ := ⟨_, _, _, rfl⟩
          rw [h3] at C3 G hstep
          unfold SumPost at C3
          simp only [] at C3 G hstep
          have HST : Hid (R = opLoop s isAdd F n ⟨ok3, q3, us3 ++ [⟨nextB s q, 0, q⟩]⟩) := hstep
          have hln := HR.ln
          clear h3 hstep B1 HN HL
          go_wp2_with fail
          refine C3.mono ?_
          rintro e w3 ⟨rfl, v3, R3, F3⟩
          have lb := F3.blk w1.heap.size (by simp [World.setCell]) (by omega) hpv
          have lc := fun o => World.cell?_of_block (a := ⟨w1.heap.size, o, none⟩) lb
          have l0 : w3.cell? ⟨w1.heap.size, 0, none⟩ = some (.int .u8 (nextB s q)) := (lc 0).trans (by go_simp)
          have l1 : w3.cell? ⟨w1.heap.size, 1, none⟩ = some (.int .i64 0) := (lc 1).trans (by go_simp)
          have l2 : w3.cell? ⟨w1.heap.size, 2, none⟩ = some (.int .i64 q) := (lc 2).trans (by go_simp)
          have hp3 : w1.heap.size < w3.heap.size := by have := F3.size; simp [World.setCell] at this; omega
          have hb3 : b < w3.heap.size := by omega
          obtain ⟨g0, g1, g2, _, g4, g5, _, _⟩ := id R3.rs
          have g3 := R3.c3
          obtain ⟨a3, n3, rfl⟩ := R3.shape
          obtain ⟨g, cap, w4, hrun, H4, F4, k3, k4, k5⟩ := R3.run (by omega) ⟨nextB s q, 0, q⟩
          have HF : Hid _ := (F2.trans F3).trans F4
          have HH : Hid _ := H4
          clear F4 H4 F3 F2 R3 R2 R1 lb lc C3 c0 c1 c2 f1 f3
          go_wp2
          go_region_law (refine stepT_append rfl (.tmp 35) (.tmp 37) 122 rfl _ _ _ _ (by simp [Act.eval]) (by simp [Act.eval]) hrun ?_)
          all_goals
            go_wp2
            go_roundg n
            case measure => omega
            case rel =>
              exact ⟨⟨ok3, q3, us3 ++ [⟨nextB s q, 0, q⟩]⟩, _, rfl, HST.out, by simp only []; omega, HH.out, HF.out⟩
        · have e1 : (nextB s q != 43) = true := by simp [h43]
          have e2 : (nextB s q != 45) = false := by
            have : nextB s q = 45 := by omega
            simp [this]
          clear h43 hc
          go_wp2_with fail
          refine HN.mono ?_
          rintro e w1 ⟨rfl, B1⟩
          have R1 := (HR.below B1).alloc (.cells #[.int .u8 (nextB s q), .int .i64 0, .int .i64 q] 154)
          have hpb : b < w1.heap.size := by have := B1.size; omega
          have hpv : v0.ownBlock ≠ some w1.heap.size := fun e => by have := (HR.own _ e).2; have := B1.size; omega
          have R2 := ((HR.below B1).inc hq).alloc (.cells #[.int .u8 (nextB s q), .int .i64 0, .int .i64 q] 154)
          have F2 : Fr b v v0 w ((w1.setCell ⟨b, 1, none⟩ (.int .i64 ((q : Int) + 1))).alloc (.cells #[.int .u8 (nextB s q), .int .i64 0, .int .i64 q] 154)) := ((F0.out.trans (Fr.below B1)).trans (Fr.setB b 1 v0 (.int .i64 ((q : Int) + 1)) w1)).trans (Fr.below ((Below.refl _ _).alloc (Nat.le_refl _) _))
          have C3 := hF b (q + 1) base v0 us _ R2
          obtain ⟨c0, c1, c2, _, f1, f3, _, _⟩ := id R1.rs
          have G := hG (q + 1) us
          have hstep := HL.out
          rw [opLoop_step s isAdd F ⟨true, q, us⟩ ⟨rfl, hp⟩] at hstep
          unfold opStep at hstep
          simp only [] at hstep
          obtain ⟨ok3, q3, us3, h3⟩ : ∃ ok3 q3 us3, F (q + 1) us = ⟨ok3, q3, us3⟩ := ⟨_, _, _, rfl⟩
          rw [h3] at C3 G hstep
          unfold SumPost at C3
          simp only [] at C3 G hstep
          have HST : Hid (R = opLoop s isAdd F n ⟨ok3, q3, us3 ++ [⟨nextB s q, 0, q⟩]⟩) := hstep
          have hln := HR.ln
          clear h3 hstep B1 HN HL
          go_wp2_with fail
          refine C3.mono ?_
          rintro e w3 ⟨rfl, v3, R3, F3⟩
          have lb := F3.blk w1.heap.size (by simp [World.setCell]) (by omega) hpv
          have lc := fun o => World.cell?_of_block (a := ⟨w1.heap.size, o, none⟩) lb
          have l0 : w3.cell? ⟨w1.heap.size, 0, none⟩ = some (.int .u8 (nextB s q)) := (lc 0).trans (by go_simp)
          have l1 : w3.cell? ⟨w1.heap.size, 1, none⟩ = some (.int .i64 0) := (lc 1).trans (by go_simp)
          have l2 : w3.cell? ⟨w1.heap.size, 2, none⟩ = some (.int .i64 q) := (lc 2).trans (by go_simp)
          have hp3 : w1.heap.size < w3.heap.size := by have := F3.size; simp [World.setCell] at this; omega
          have hb3 : b < w3.heap.size := by omega
          obtain ⟨g0, g1, g2, _, g4, g5, _, _⟩ := id R3.rs
          have g3 := R3.c3
          obtain ⟨a3, n3, rfl⟩ := R3.shape
          obtain ⟨g, cap, w4, hrun, H4, F4, k3, k4, k5⟩ := R3.run (by omega) ⟨nextB s q, 0, q⟩
          have HF : Hid _ := (F2.trans F3).trans F4
          have HH : Hid _ := H4
          clear F4 H4 F3 F2 R3 R2 R1 lb lc C3 c0 c1 c2 f1 f3
          go_wp2
          go_region_law (refine stepT_append rfl (.tmp 35) (.tmp 37) 122 rfl _ _ _ _ (by simp [Act.eval]) (by simp [Act.eval]) hrun ?_)
          all_goals
            go_wp2
            go_roundg n
            case measure => omega
            case rel =>
              exact ⟨⟨ok3, q3, us3 ++ [⟨nextB s q, 0, q⟩]⟩, _, rfl, HST.out, by simp only []; omega, HH.out, HF.out⟩
theorem sum_any (s : ByteArray) : ∀ n, n ≤ 6 → PC 83 s (6 - n) (sumRL s n) := by
  intro n
  induction n with
  | zero =>
    intro _
    have hf := factor_any s 6 none (fun _ => Nat.le_refl _) (fun f h => by cases h)
    have hp := product_loop s 6 _ (facR_grow s none (fun f h => by cases h)) hf
    exact sum_loop s 6 _ (prodR_grow s none (fun f h => by cases h)) hp
  | succ n ih =>
    intro hn
    have hi := ih (by omega)
    rw [show 6 - n = 6 - (n + 1) + 1 by omega] at hi
    have hf := factor_any s (6 - (n + 1)) (some (sumRL s n)) (fun h => by cases h) (fun f h => by cases h; exact ⟨by omega, hi⟩)
    have hp := product_loop s (6 - (n + 1)) _ (facR_grow s (some (sumRL s n)) (fun f h => by cases h; exact sumRL_grow s n)) hf
    exact sum_loop s (6 - (n + 1)) _ (prodR_grow s (some (sumRL s n)) (fun f h => by cases h; exact sumRL_grow s n)) hp
end Go.Proofs.Ythckelcjncnalab
