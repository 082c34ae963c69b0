import Derived.Test.YthckelcjncnalaaWp2
namespace Go.Proofs.Ythckelcjncnalaa
open Go.RowKit

set_option maxHeartbeats 2000000 in
set_option maxRecDepth 20000 in
theorem wraps_walk (a b c d : Int) (w : World) (a1 : -9223372036854775808 ≤ a) (a2 : a ≤ 9223372036854775807) (b1 : -9223372036854775808 ≤ b) (b2 : b ≤ 9223372036854775807) (c1 : -9223372036854775808 ≤ c) (c2 : c ≤ 9223372036854775807) (d1 : -9223372036854775808 ≤ d) (d2 : d ≤ 9223372036854775807) :
    Calls Try.prog 6 #[.int .i64 a, .int .i64 b, .int .i64 c, .int .i64 d] w fun e w' => e = .returned (.bool true) ∧ Below w.heap.size w w' := by
  have PN := pnew_any wS 6 w (by decide)
  unfold PNPost at PN
  rw [wS_cs] at PN
  have PN' : Calls Try.prog 15 #[.string wS, .int .i64 6] w fun e w' => Below w.heap.size w w' ∧ ∃ hi hb sv vs, e = .returned (.tuple #[.pointer (some ⟨hb, 0, none⟩), .int .i64 0]) ∧ w.heap.size ≤ hi ∧ hi ≤ hb ∧ HP w' hb sv 6 p0.R p0.K p0.N p0.F ∧ ClsIn w' w.heap.size hi (.slice sv.a sv.n sv.c) vs wC := by
    refine PN.mono ?_
    rintro e w' ⟨B, h⟩
    rcases h with ⟨h, _⟩ | ⟨_, h⟩
    · exact absurd wS_ok h
    · exact ⟨B, h⟩
  clear PN
  have A1 := wrK_98 a
  have A2 := wrK_fit 98 a 256 (by omega)
  have B1 := wrK_104 b
  have B2 := wrK_fit 104 b 65536 (by omega)
  have C1 := wrK_119 c
  have C2 := wrK_fit 119 c 4294967296 (by omega)
  have D1 : wrK 108 d = d := by rfl
  have HA : Hid (-9223372036854775808 ≤ a ∧ a ≤ 9223372036854775807) := ⟨a1, a2⟩
  have HB : Hid (-9223372036854775808 ≤ b ∧ b ≤ 9223372036854775807) := ⟨b1, b2⟩
  have HC : Hid (-9223372036854775808 ≤ c ∧ c ≤ 9223372036854775807) := ⟨c1, c2⟩
  have HD : Hid (-9223372036854775808 ≤ d ∧ d ≤ 9223372036854775807) := ⟨d1, d2⟩
  clear a1 a2 b1 b2 c1 c2 d1 d2
  go_enter Try.func6, Try.ntmps6
  go_wp2_with fail
  refine PN'.mono ?_
  rintro e w1 ⟨L1, hi, hb, sv, vs, rfl, t1, t2, hp1, cl1⟩
  go_wp2_with fail
  refine (wmake hp1 cl1 (Nat.le_trans t1 t2) t2).mono ?_
  rintro e w2 ⟨rfl, ⟨q, S2⟩, g2⟩
  go_wp2_with fail
  refine (wput S2 97 0 98 rfl rfl (by decide) a HA.1 HA.2).mono ?_
  rintro e w3 ⟨rfl, S3, g3⟩
  go_wp2_with fail
  refine (wput S3 98 1 104 rfl rfl (by decide) b HB.1 HB.2).mono ?_
  rintro e w4 ⟨rfl, S4, g4⟩
  go_wp2_with fail
  refine (wput S4 99 2 119 rfl rfl (by decide) c HC.1 HC.2).mono ?_
  rintro e w5 ⟨rfl, S5, g5⟩
  go_wp2_with fail
  refine (wput S5 100 3 108 rfl rfl (by decide) d HD.1 HD.2).mono ?_
  rintro e w6 ⟨rfl, S6, g6⟩
  go_wp2_with fail
  refine (wputr S6 d HD.1 HD.2).mono ?_
  rintro e w7 ⟨rfl, S7, g7⟩
  go_wp2_with fail
  refine (wget S7 97 0 98 rfl rfl (by decide) (wrK 98 a) (by simp [set2])).mono ?_
  rintro e w8 ⟨rfl, S8, g8⟩
  go_wp2_with fail
  refine (wget S8 98 1 104 rfl rfl (by decide) (wrK 104 b) (by simp [set2])).mono ?_
  rintro e w9 ⟨rfl, S9, g9⟩
  go_wp2_with fail
  refine (wget S9 99 2 119 rfl rfl (by decide) (wrK 119 c) (by simp [set2])).mono ?_
  rintro e w10 ⟨rfl, S10, g10⟩
  go_wp2_with fail
  refine (wget S10 100 3 108 rfl rfl (by decide) d (by simp [set2, D1])).mono ?_
  rintro e w11 ⟨rfl, S11, g11⟩
  have hB : w.heap.size ≤ hb := S11.b1
  have L2 := below_of_gb g2 L1 hB
  have L3 := below_of_gb g3 L2 hB
  have L4 := below_of_gb g4 L3 hB
  have L5 := below_of_gb g5 L4 hB
  have L6 := below_of_gb g6 L5 hB
  have L7 := below_of_gb g7 L6 hB
  have L8 := below_of_gb g8 L7 hB
  have L9 := below_of_gb g9 L8 hB
  have L10 := below_of_gb g10 L9 hB
  have L11 := below_of_gb g11 L10 hB
  go_wp2_with fail
  refine (fits_any a (wrK 98 a) 0 255 8 256 _ A1.1 A1.2 (by omega) A2).mono ?_
  rintro e w12 ⟨rfl, rfl⟩
  go_wp2_with fail
  refine (fits_any b (wrK 104 b) (-32768) 32767 16 65536 _ B1.1 B1.2 (by omega) B2).mono ?_
  rintro e w13 ⟨rfl, rfl⟩
  go_wp2_with fail
  refine (fits_any c (wrK 119 c) (-2147483648) 2147483647 32 4294967296 _ C1.1 C1.2 (by omega) C2).mono ?_
  rintro e w14 ⟨rfl, rfl⟩
  go_wp2
  go_ret
  exact ⟨rfl, L11⟩
end Go.Proofs.Ythckelcjncnalaa
