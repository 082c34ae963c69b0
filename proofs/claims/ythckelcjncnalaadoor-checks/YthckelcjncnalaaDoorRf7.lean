import Derived.Test.YthckelcjncnalaaDoorRf6
namespace Go.Proofs.YthckelcjncnalaaDoor
open Go.RowKit

theorem below_drewN {B : Nat} {a w : World} (h : Below B a w) (n : Nat) : Below B a (w.drewN n) := ⟨h.os, h.tape, h.output, h.size, h.block⟩
structure Row5 (w : World) (g i : Nat) (n p : Int) (a : Option Addr) (l c : Nat) : Prop where
  c0 : w.cell? ⟨g, i * 5, none⟩ = some (.int .u8 n)
  c1 : w.cell? ⟨g, i * 5 + 1, none⟩ = some (.int .u8 0)
  c2 : w.cell? ⟨g, i * 5 + 2, none⟩ = some (.int .i64 p)
  c3 : w.cell? ⟨g, i * 5 + 3, none⟩ = some (.int .i64 0)
  c4 : w.cell? ⟨g, i * 5 + 4, none⟩ = some (.slice a l c)
theorem Row5.below {w w' : World} {g i : Nat} {n p : Int} {a : Option Addr} {l c : Nat} (h : Row5 w g i n p a l c) (hb : Below w.heap.size w w') (hg : g < w.heap.size) : Row5 w' g i n p a l c :=
  ⟨(hb.cell (by exact hg)).trans h.c0, (hb.cell (by exact hg)).trans h.c1, (hb.cell (by exact hg)).trans h.c2, (hb.cell (by exact hg)).trans h.c3, (hb.cell (by exact hg)).trans h.c4⟩
structure Row7 (w : World) (g j : Nat) (n p : Int) : Prop where
  c0 : w.cell? ⟨g, j * 7, none⟩ = some (.int .u8 n)
  c2 : w.cell? ⟨g, j * 7 + 2, none⟩ = some (.int .i64 p)
theorem Row7.below {w w' : World} {g j : Nat} {n p : Int} (h : Row7 w g j n p) (hb : Below w.heap.size w w') (hg : g < w.heap.size) : Row7 w' g j n p :=
  ⟨(hb.cell (by exact hg)).trans h.c0, (hb.cell (by exact hg)).trans h.c2⟩

set_option maxRecDepth 100000 in
set_option maxHeartbeats 2000000 in
theorem twice_row (g cap n : Nat) (N P : Nat → Int) (FA : Nat → Option Addr) (FG FL FC : Nat → Nat) (FN FP : Nat → Nat → Int) (w : World) (hg : g < w.heap.size) (hn : n ≤ 1000) (hfl : ∀ i, FL i ≤ 1000)
    (hP : ∀ i, 0 ≤ P i) (hFP : ∀ i j, 0 ≤ FP i j)
    (hc : ∀ i, i < n → Row5 w g i (N i) (P i) (FA i) (FL i) (FC i))
    (hf : ∀ i j, i < n → j < FL i → FA i = some ⟨FG i, 0, none⟩ ∧ FG i < w.heap.size ∧ Row7 w (FG i) j (FN i j) (FP i j)) :
    Calls Tryd.prog 12 #[.slice (some ⟨g, 0, none⟩) n cap, .slice none 0 0] w fun e w' => ∃ b, e = .returned (.int .i64 b) ∧ Least (VCs N P FL FN FP n) b ∧ Below w.heap.size w w' := by
  have HC : Hid (∀ i, i < n → Row5 w g i (N i) (P i) (FA i) (FL i) (FC i)) := hc
  have HF : Hid (∀ i j, i < n → j < FL i → FA i = some ⟨FG i, 0, none⟩ ∧ FG i < w.heap.size ∧ Row7 w (FG i) j (FN i j) (FP i j)) := hf
  have HP : Hid (∀ i, 0 ≤ P i) := hP
  have HFP : Hid (∀ i j, 0 ≤ FP i j) := hFP
  have HFL : Hid (∀ i, FL i ≤ 1000) := hfl
  clear hc hf hP hFP hfl
  go_enter Tryd.func12, Tryd.ntmps12
  go_wp2
  go_loopw [5, 6] (fun bv iv wr => ∃ (i : Nat) (b : Int), i ≤ n ∧ iv = .int .i64 i ∧ bv = .int .i64 b ∧ Least (VCs N P FL FN FP i) b ∧ Below w.heap.size w wr) (fun _ iv _ => n - (intOf iv).toNat)
  case atStart => exact ⟨0, -1, by omega, rfl, rfl, .inl ⟨rfl, fun p => VCs_zero _ _ _ _ _ p⟩, Below.refl _ _⟩
  case round =>
    obtain ⟨i, b, hi, rfl, rfl, hL, hb⟩ := hrel
    by_cases hlt : i < n
    · go_wp2
      go_loopw [5, 7] (fun bv kv wr => ∃ (k : Nat) (b : Int), k ≤ i ∧ kv = .int .i64 k ∧ bv = .int .i64 b ∧ Least (fun p => VCs N P FL FN FP i p ∨ VX N P i k p) b ∧ Below w.heap.size w wr) (fun _ kv _ => i - (intOf kv).toNat)
      case atStart => exact ⟨0, b, by omega, rfl, rfl, hL.congr (fun p => by simp [VX_zero]), hb⟩
      case round =>
        clear hL hb
        obtain ⟨k, b2, hk, rfl, rfl, hL, hb⟩ := hrel
        have hpi := HP.out i
        by_cases hki : k < i
        · have hkn : k < n := by omega
          obtain ⟨i0, i1, i2, i3, i4⟩ := (HC.out i hlt).below hb hg
          obtain ⟨k0, k1, k2, k3, k4⟩ := (HC.out k hkn).below hb hg
          by_cases heq : N i = N k
          · have heq' : (N i == N k) = true := by simpa using heq
            by_cases hb0 : b2 < 0
            · have hL' : Least (fun p => VCs N P FL FN FP i p ∨ VX N P i (k + 1) p) (P i) := look_hit (hL.low hb0 hpi) (fun p => VX_succ N P i k p) heq
              clear hL heq
              go_wp2_with (go_at_call 20; refine (made_any _ _ _ _ _ _).mono ?_; rintro e w1 ⟨rfl, hb1⟩; have hb := hb.trans (hb1.mono hb.size); clear hb1; obtain ⟨i0, i1, i2, i3, i4⟩ := (HC.out i hlt).below hb hg; obtain ⟨k0, k1, k2, k3, k4⟩ := (HC.out k hkn).below hb hg)
              go_quiet (fail)
              go_wp2
              go_roundw
              case rel => exact ⟨k + 1, P i, by omega, by go_num, rfl, hL', below_drewN hb nq⟩
              case measure => simp [intOf]; omega
            · by_cases hb1 : P i < b2
              · have hL' : Least (fun p => VCs N P FL FN FP i p ∨ VX N P i (k + 1) p) (P i) := look_hit (hL.less hb1 hpi) (fun p => VX_succ N P i k p) heq
                clear hL heq
                go_wp2_with (go_at_call 20; refine (made_any _ _ _ _ _ _).mono ?_; rintro e w1 ⟨rfl, hb1⟩; have hb := hb.trans (hb1.mono hb.size); clear hb1; obtain ⟨i0, i1, i2, i3, i4⟩ := (HC.out i hlt).below hb hg; obtain ⟨k0, k1, k2, k3, k4⟩ := (HC.out k hkn).below hb hg)
                go_quiet (fail)
                go_wp2
                go_roundw
                case rel => exact ⟨k + 1, P i, by omega, by go_num, rfl, hL', below_drewN hb nq⟩
                case measure => simp [intOf]; omega
              · have hL' : Least (fun p => VCs N P FL FN FP i p ∨ VX N P i (k + 1) p) b2 := look_hit (hL.keep hb0 hb1) (fun p => VX_succ N P i k p) heq
                clear hL heq
                go_wp2_with (go_at_call 20; refine (made_any _ _ _ _ _ _).mono ?_; rintro e w1 ⟨rfl, hb1⟩; have hb := hb.trans (hb1.mono hb.size); clear hb1; obtain ⟨i0, i1, i2, i3, i4⟩ := (HC.out i hlt).below hb hg; obtain ⟨k0, k1, k2, k3, k4⟩ := (HC.out k hkn).below hb hg)
                go_quiet (fail)
                go_wp2
                go_roundw
                case rel => exact ⟨k + 1, b2, by omega, by go_num, rfl, hL', below_drewN hb nq⟩
                case measure => simp [intOf]; omega
          · have heq' : (N i == N k) = false := by simpa using heq
            have hL' : Least (fun p => VCs N P FL FN FP i p ∨ VX N P i (k + 1) p) b2 := look_skip hL (fun p => VX_succ N P i k p) heq
            clear hL heq
            go_wp2_with (go_at_call 20; refine (made_any _ _ _ _ _ _).mono ?_; rintro e w1 ⟨rfl, hb1⟩; have hb := hb.trans (hb1.mono hb.size); clear hb1; obtain ⟨i0, i1, i2, i3, i4⟩ := (HC.out i hlt).below hb hg; obtain ⟨k0, k1, k2, k3, k4⟩ := (HC.out k hkn).below hb hg)
            go_quiet (fail)
            go_wp2
            go_roundw
            case rel => exact ⟨k + 1, b2, by omega, by go_num, rfl, hL', below_drewN hb nq⟩
            case measure => simp [intOf]; omega
        · have hki' : k = i := by omega
          have hL2 : Least (fun p => VCs N P FL FN FP i p ∨ VX N P i i p) b2 := by rw [hki'] at hL; exact hL
          have hge : i ≤ k := by omega
          have hdn : decide (k < i) = false := decide_eq_false hki
          have hdi : decide ((k : Int) < (i : Int)) = false := decide_eq_false (by omega)
          clear hL hki hki'
          obtain ⟨i0, i1, i2, i3, i4⟩ := (HC.out i hlt).below hb hg
          have hfl := HFL.out i
          by_cases hz : 0 < FL i
          · rw [(HF.out i 0 hlt hz).1] at i4
            go_wp2
            go_loopw [5, 12] (fun bv jv wr => ∃ (j : Nat) (b : Int), j ≤ FL i ∧ jv = .int .i64 j ∧ bv = .int .i64 b ∧ Least (fun p => (VCs N P FL FN FP i p ∨ VX N P i i p) ∨ VXs (FN i) (FP i) j p) b ∧ Below w.heap.size w wr) (fun _ jv _ => FL i - (intOf jv).toNat)
            case atStart => exact ⟨0, b2, by omega, rfl, rfl, hL2.congr (fun p => by simp [VXs_zero]), hb⟩
            case round =>
              clear hL2 hb i0 i1 i2 i3 i4
              obtain ⟨j, b3, hj, rfl, rfl, hL, hb⟩ := hrel
              by_cases hjl : j < FL i
              · obtain ⟨_, fg, fr⟩ := HF.out i j hlt hjl
                go_wp2
                go_loopw [5, 13] (fun bv kv wr => ∃ (k : Nat) (b : Int), k ≤ j ∧ kv = .int .i64 k ∧ bv = .int .i64 b ∧ Least (fun p => ((VCs N P FL FN FP i p ∨ VX N P i i p) ∨ VXs (FN i) (FP i) j p) ∨ VX (FN i) (FP i) j k p) b ∧ Below w.heap.size w wr) (fun _ kv _ => j - (intOf kv).toNat)
                case atStart => exact ⟨0, b3, by omega, rfl, rfl, hL.congr (fun p => by simp [VX_zero]), hb⟩
                case round =>
                  clear hL hb
                  obtain ⟨k, b3, hk, rfl, rfl, hL, hb⟩ := hrel
                  have hpj := HFP.out i j
                  by_cases hkj : k < j
                  · obtain ⟨j0, j2⟩ := fr.below hb fg
                    obtain ⟨k0, k2⟩ := (HF.out i k hlt (by omega)).2.2.below hb fg
                    clear fr
                    by_cases heq : FN i j = FN i k
                    · have heq' : (FN i j == FN i k) = true := by simpa using heq
                      by_cases hb0 : b3 < 0
                      · have hL' : Least (fun p => ((VCs N P FL FN FP i p ∨ VX N P i i p) ∨ VXs (FN i) (FP i) j p) ∨ VX (FN i) (FP i) j (k + 1) p) (FP i j) := look_hit (hL.low hb0 hpj) (fun p => VX_succ (FN i) (FP i) j k p) heq
                        clear hL heq
                        go_wp2
                        go_quiet (fail)
                        go_wp2
                        go_roundw
                        case rel => first | exact ⟨k + 1, FP i j, by omega, by go_num, rfl, hL', below_drewN hb nq⟩ | ((repeat apply Exists.intro); exact ⟨⟨k + 1, FP i j, by omega, by go_num, rfl, hL', below_drewN hb nq⟩, rfl⟩)
                        case measure => simp [intOf]; omega
                      · have hd0 : decide (b3 < 0) = false := decide_eq_false hb0
                        by_cases hb1 : FP i j < b3
                        · have hL' : Least (fun p => ((VCs N P FL FN FP i p ∨ VX N P i i p) ∨ VXs (FN i) (FP i) j p) ∨ VX (FN i) (FP i) j (k + 1) p) (FP i j) := look_hit (hL.less hb1 hpj) (fun p => VX_succ (FN i) (FP i) j k p) heq
                          clear hL heq
                          go_wp2
                          go_quiet (fail)
                          go_wp2
                          go_roundw
                          case rel => first | exact ⟨k + 1, FP i j, by omega, by go_num, rfl, hL', below_drewN hb nq⟩ | ((repeat apply Exists.intro); exact ⟨⟨k + 1, FP i j, by omega, by go_num, rfl, hL', below_drewN hb nq⟩, rfl⟩)
                          case measure => simp [intOf]; omega
                        · have hL' : Least (fun p => ((VCs N P FL FN FP i p ∨ VX N P i i p) ∨ VXs (FN i) (FP i) j p) ∨ VX (FN i) (FP i) j (k + 1) p) b3 := look_hit (hL.keep hb0 hb1) (fun p => VX_succ (FN i) (FP i) j k p) heq
                          clear hL heq
                          go_wp2
                          go_quiet (fail)
                          go_wp2
                          go_roundw
                          case rel => first | exact ⟨k + 1, b3, by omega, by go_num, rfl, hL', below_drewN hb nq⟩ | ((repeat apply Exists.intro); exact ⟨⟨k + 1, b3, by omega, by go_num, rfl, hL', below_drewN hb nq⟩, rfl⟩)
                          case measure => simp [intOf]; omega
                    · have heq' : (FN i j == FN i k) = false := by simpa using heq
                      have hL' : Least (fun p => ((VCs N P FL FN FP i p ∨ VX N P i i p) ∨ VXs (FN i) (FP i) j p) ∨ VX (FN i) (FP i) j (k + 1) p) b3 := look_skip hL (fun p => VX_succ (FN i) (FP i) j k p) heq
                      clear hL heq
                      go_wp2
                      go_quiet (fail)
                      go_wp2
                      go_roundw
                      case rel => first | exact ⟨k + 1, b3, by omega, by go_num, rfl, hL', below_drewN hb nq⟩ | ((repeat apply Exists.intro); exact ⟨⟨k + 1, b3, by omega, by go_num, rfl, hL', below_drewN hb nq⟩, rfl⟩)
                      case measure => simp [intOf]; omega
                  · have hkj' : k = j := by omega
                    have hL2 : Least (fun p => (VCs N P FL FN FP i p ∨ VX N P i i p) ∨ VXs (FN i) (FP i) (j + 1) p) b3 := by
                      rw [hkj'] at hL
                      exact hL.congr (fun p => by rw [VXs_succ]; simp [or_assoc])
                    have hge2 : j ≤ k := by omega
                    clear hL hkj hkj' fr
                    go_wp2
                    go_roundw
                    case rel => exact ⟨j + 1, b3, by omega, by go_num, rfl, hL2, hb⟩
                    case measure => simp [intOf]; omega
              · have hjl' : j = FL i := by omega
                have hL2 : Least (VCs N P FL FN FP (i + 1)) b3 := by
                  rw [hjl'] at hL
                  exact hL.congr (fun p => (VCs_succ N P FL FN FP i p).symm)
                have hge2 : FL i ≤ j := by omega
                clear hL hjl hjl'
                go_wp2
                go_roundw
                case rel => exact ⟨i + 1, b3, by omega, by go_num, rfl, hL2, hb⟩
                case measure => simp [intOf]; omega
          · clear HF
            go_wp2
            go_loopw [5, 12] (fun bv jv wr => ∃ (j : Nat) (b : Int), j ≤ FL i ∧ jv = .int .i64 j ∧ bv = .int .i64 b ∧ Least (fun p => (VCs N P FL FN FP i p ∨ VX N P i i p) ∨ VXs (FN i) (FP i) j p) b ∧ Below w.heap.size w wr) (fun _ jv _ => FL i - (intOf jv).toNat)
            case atStart => exact ⟨0, b2, by omega, rfl, rfl, hL2.congr (fun p => by simp [VXs_zero]), hb⟩
            case round =>
              clear hL2 hb i0 i1 i2 i3 i4
              obtain ⟨j, b3, hj, rfl, rfl, hL, hb⟩ := hrel
              by_cases hjl : j < FL i
              · omega
              · have hjl' : j = FL i := by omega
                have hL2 : Least (VCs N P FL FN FP (i + 1)) b3 := by
                  rw [hjl'] at hL
                  exact hL.congr (fun p => (VCs_succ N P FL FN FP i p).symm)
                have hge2 : FL i ≤ j := by omega
                clear hL hjl hjl'
                go_wp2
                go_roundw
                case rel => exact ⟨i + 1, b3, by omega, by go_num, rfl, hL2, hb⟩
                case measure => simp [intOf]; omega
    · have hge : n ≤ i := by omega
      have he : i = n := by omega
      have HL : Hid (Least (VCs N P FL FN FP n) b) := by rw [← he]; exact hL
      clear he hL hlt
      go_wp2
      go_ret
      exact ⟨b, rfl, HL.out, hb⟩
end Go.Proofs.YthckelcjncnalaaDoor
