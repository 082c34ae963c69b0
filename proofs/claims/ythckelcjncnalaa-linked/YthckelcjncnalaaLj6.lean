import Derived.Test.YthckelcjncnalaaLj5
namespace Go.Proofs.Ythckelcjncnalaa
open Go.RowKit

set_option maxRecDepth 20000 in
set_option maxHeartbeats 4000000 in
theorem gplay_97 {B gb lo hi hb : Nat} {sv : SV} {vs : List (Int × SV)} {sz : Int} {nv : Value} {p : PH} {G : GG} {w : World} (h : LK w B gb lo hi hb sv vs sz nv p G) (kd a b c v : Int) (ha1 : -9223372036854775808 ≤ a) (ha2 : a ≤ 9223372036854775807) (hb1 : -9223372036854775808 ≤ b) (hb2 : b ≤ 9223372036854775807) (hc1 : -9223372036854775808 ≤ c) (hc2 : c ≤ 9223372036854775807) (hv1 : -9223372036854775808 ≤ v) (hv2 : v ≤ 9223372036854775807) (hn : G.n + 1 ≤ 4398046511104) (hp : pickI c 2 = 0) :
    Calls Try.prog 24 #[.pointer (some ⟨gb, 0, none⟩), .agg #[.int .i64 kd, .int .i64 a, .int .i64 b, .int .i64 c, .int .i64 v], .int .i64 8] w (GOk B gb lo hi hb sv vs sz (G.n + 1) w) := by
  obtain ⟨ia, hia, pa⟩ : ∃ ia : Nat, ia < 8 ∧ pickI a 8 = ia := ⟨(pickI a 8).toNat, by have := pickI_bd a 8 (by decide); omega, by have := pickI_bd a 8 (by decide); omega⟩
  obtain ⟨ib, hib, pb⟩ : ∃ ib : Nat, ib < 8 ∧ pickI b 8 = ib := ⟨(pickI b 8).toNat, by have := pickI_bd b 8 (by decide); omega, by have := pickI_bd b 8 (by decide); omega⟩
  have PC : ∀ w, Calls Try.prog 23 #[.int .i64 c, .int .i64 2] w fun e w' => e = .returned (.int .i64 0) ∧ w' = w := fun w => by have := pick_any c 2 w (by decide) (by decide) hc1 hc2; rw [hp] at this; exact this
  have HPC : Hid (∀ w, Calls Try.prog 23 #[.int .i64 c, .int .i64 2] w fun e w' => e = .returned (.int .i64 0) ∧ w' = w) := PC
  have B0 : Below w.heap.size w (w.alloc (.cells #[.int .i64 kd, .int .i64 a, .int .i64 b, .int .i64 c, .int .i64 v] 52)) := (Below.refl _ _).alloc (Nat.le_refl _) _
  have HL0 : Hid (LK (w.alloc (.cells #[.int .i64 kd, .int .i64 a, .int .i64 b, .int .i64 c, .int .i64 v] 52)) B gb lo hi hb sv vs sz nv p G ∧ Below B w (w.alloc (.cells #[.int .i64 kd, .int .i64 a, .int .i64 b, .int .i64 c, .int .i64 v] 52))) := ⟨h.below B0, h.bB B0⟩
  have HC : Hid (-9223372036854775808 ≤ c ∧ c ≤ 9223372036854775807) := ⟨hc1, hc2⟩
  have HV : Hid (-9223372036854775808 ≤ v ∧ v ≤ 9223372036854775807) := ⟨hv1, hv2⟩
  have HN : Hid (G.n + 1 ≤ 4398046511104) := hn
  have hiab : (0 : Int) ≤ (ia : Int) ∧ (ia : Int) < 8 := by omega
  have hibb : (0 : Int) ≤ (ib : Int) ∧ (ib : Int) < 8 := by omega
  have hgw := h.gp.lt
  have hwB : B ≤ w.heap.size := by have := h.b0; omega
  unfold GOk
  have HPab : Hid (pickI a 8 = ia ∧ pickI b 8 = ib) := ⟨pa, pb⟩
  clear h PC B0 hp pa pb hc1 hc2 hv1 hv2 hn
  go_enter Try.func24, Try.ntmps24
  go_wp2
  go_quiet ((go_at_call 23; exact (pick_any _ _ _ (by decide) (by decide) (by assumption) (by assumption)).mono fun _ _ h => ⟨h.1, _, h.2⟩))
  rw [HPab.out.1, HPab.out.2]
  clear ha1 ha2 hb1 hb2
  have LW := HL0.out.1.below (gb_below_drewN _ nq)
  have BW := HL0.out.2.trans (HL0.out.1.bB (gb_below_drewN _ nq))
  go_wp2_with fail
  refine (HPC.out _).mono ?_
  rintro e w' ⟨rfl, rfl⟩
  by_cases k0 : kd = 0
  · subst k0
    have C := gcreate_any LW ia hia c HC.out.1 HC.out.2 HN.out
    unfold GOk at C
    have HBW : Hid (Below B w _) := BW
    clear LW BW HPC HL0
    go_wp2_with fail
    refine C.mono ?_
    rintro e w2 ⟨rfl, B2, nv', p', G', L', hG'⟩
    have HB2 : Hid (Below B w w2) := HBW.out.trans B2
    have HL2 : Hid (LK w2 B gb lo hi hb sv vs sz nv' p' G') := L'
    clear C B2 L' HBW
    go_wp2
    go_ret
    exact ⟨rfl, HB2.out, _, _, _, HL2.out, hG'⟩
  have e0 : (kd == 0) = false := by simp [k0]
  by_cases k1 : kd = 1
  · subst k1
    have C := gput_any LW ia hia v HV.out.1 HV.out.2
    unfold GOk at C
    have HBW : Hid (Below B w _) := BW
    clear LW BW HPC HL0 k0 e0
    go_wp2_with fail
    refine C.mono ?_
    rintro e w2 ⟨rfl, B2, nv', p', G', L', hG'⟩
    have HB2 : Hid (Below B w w2) := HBW.out.trans B2
    have HL2 : Hid (LK w2 B gb lo hi hb sv vs sz nv' p' G') := L'
    clear C B2 L' HBW
    go_wp2
    go_ret
    exact ⟨rfl, HB2.out, _, _, _, HL2.out, Nat.le_succ_of_le hG'⟩
  have e1 : (kd == 1) = false := by simp [k1]
  by_cases k2 : kd = 2
  · subst k2
    have C := glink_any LW ia ib hia hib 97 (by decide)
    unfold GOk at C
    have HBW : Hid (Below B w _) := BW
    clear LW BW HPC HL0 k0 e0 k1 e1
    go_wp2_with fail
    rw [show (((({ data := #[97, 98] } : ByteArray)[0]'(by decide)).toNat : Nat) : Int) = 97 from rfl]
    refine C.mono ?_
    rintro e w2 ⟨rfl, B2, nv', p', G', L', hG'⟩
    have HB2 : Hid (Below B w w2) := HBW.out.trans B2
    have HL2 : Hid (LK w2 B gb lo hi hb sv vs sz nv' p' G') := L'
    clear C B2 L' HBW
    go_wp2
    go_ret
    exact ⟨rfl, HB2.out, _, _, _, HL2.out, Nat.le_succ_of_le hG'⟩
  have e2 : (kd == 2) = false := by simp [k2]
  by_cases k3 : kd = 3
  · subst k3
    have C := gfollow_any LW ia ib hia hib 97 (by decide)
    unfold GOk at C
    have HBW : Hid (Below B w _) := BW
    clear LW BW HPC HL0 k0 e0 k1 e1 k2 e2
    go_wp2_with fail
    rw [show (((({ data := #[97, 98] } : ByteArray)[0]'(by decide)).toNat : Nat) : Int) = 97 from rfl]
    refine C.mono ?_
    rintro e w2 ⟨rfl, B2, nv', p', G', L', hG'⟩
    have HB2 : Hid (Below B w w2) := HBW.out.trans B2
    have HL2 : Hid (LK w2 B gb lo hi hb sv vs sz nv' p' G') := L'
    clear C B2 L' HBW
    go_wp2
    go_ret
    exact ⟨rfl, HB2.out, _, _, _, HL2.out, Nat.le_succ_of_le hG'⟩
  have e3 : (kd == 3) = false := by simp [k3]
  by_cases k4 : kd = 4
  · subst k4
    obtain ⟨y, hy⟩ : ∃ y, y = G.R ia := ⟨_, rfl⟩
    have C := gcopy_any LW ia ib hia hib y hy
    unfold CpPost at C
    have g0 := LW.gp.h
    have hgW := LW.gp.lt
    have HY : Hid (y = G.R ia ∧ -1 ≤ y ∧ y < G.n) := ⟨hy, by rw [hy]; exact LW.gw.R ia hia⟩
    have HBW : Hid (Below B w _) := BW
    have HLW : Hid (LK _ B gb lo hi hb sv vs sz nv p G) := LW
    clear LW BW HPC HL0 k0 e0 k1 e1 k2 e2 k3 e3 hy
    go_wp2_with fail
    refine C.mono ?_
    rintro e w2 ⟨rfl, p', P1, P2, P3, P4, P5, P6, P7⟩
    have ca : w2.cell? ⟨gb, 3 + ia, none⟩ = some (.int .i64 y) := by rw [HY.out.1]; exact P3.r ia hia
    have cb := P3.r ib hib
    have fb := P3.frz (3 + ib)
    have hg2 := P3.lt
    have HQ : Hid (HP w2 hb sv sz p'.R p'.K p'.N p'.F ∧ ClsIn w2 lo hi (.slice sv.a sv.n sv.c) vs csL ∧ GP w2 gb hb sz nv G.R ∧ ND w2 (hb + 1) nv G ∧ Pw p' ∧ Sim csL p' { dh G with R := set1 (dh G).R ib (y + 1).toNat } ∧ Below B w w2) := ⟨P1, P2, P3, P4, P5, P6, HBW.out.trans P7⟩
    clear C P1 P2 P3 P4 P5 P6 P7 HBW g0 hgW
    go_wp2
    refine stillTail 11 rfl (by kernel_rfl) ?_
    simp only [List.take_succ_cons, List.take_zero, List.drop_succ_cons, List.drop_zero]
    repeat still_step
    refine wpStill_nil ?_
    go_wp2
    go_ret
    obtain ⟨P1, P2, P3, P4, P5, P6, P7⟩ := HQ.out
    have L0 := HLW.out
    have K := LK.mkRoot L0 P1 P2 P3 P4 P5 L0.gw hib HY.out.2.1 HY.out.2.2 P6
    exact ⟨rfl, (P7.setCell (p := ⟨gb, 3 + ib, none⟩) L0.b0 (.int .i64 y)).trans (K.bB (gb_below_drewN _ 1)), _, _, _, K.below (gb_below_drewN _ 1), Nat.le_succ _⟩
  have e4 : (kd == 4) = false := by simp [k4]
  by_cases k5 : kd = 5
  · subst k5
    have C := gclear_any LW ia hia
    unfold CpPost at C
    have g0 := LW.gp.h
    have hgW := LW.gp.lt
    have HBW : Hid (Below B w _) := BW
    have HLW : Hid (LK _ B gb lo hi hb sv vs sz nv p G) := LW
    clear LW BW HPC HL0 k0 e0 k1 e1 k2 e2 k3 e3 k4 e4
    go_wp2_with fail
    refine C.mono ?_
    rintro e w2 ⟨rfl, p', P1, P2, P3, P4, P5, P6, P7⟩
    have ca := P3.r ia hia
    have fb := P3.frz (3 + ia)
    have hg2 := P3.lt
    have HQ : Hid (HP w2 hb sv sz p'.R p'.K p'.N p'.F ∧ ClsIn w2 lo hi (.slice sv.a sv.n sv.c) vs csL ∧ GP w2 gb hb sz nv G.R ∧ ND w2 (hb + 1) nv G ∧ Pw p' ∧ Sim csL p' { dh G with R := set1 (dh G).R ia ((-1 : Int) + 1).toNat } ∧ Below B w w2) := ⟨P1, P2, P3, P4, P5, P6, HBW.out.trans P7⟩
    clear C P1 P2 P3 P4 P5 P6 P7 HBW g0 hgW
    go_wp2
    go_ret
    obtain ⟨P1, P2, P3, P4, P5, P6, P7⟩ := HQ.out
    have L0 := HLW.out
    have K := LK.mkRoot L0 P1 P2 P3 P4 P5 L0.gw hia (by omega) (by omega) P6
    exact ⟨rfl, P7.setCell (p := ⟨gb, 3 + ia, none⟩) L0.b0 (.int .i64 (-1)), _, _, _, K, Nat.le_succ _⟩
  have e5 : (kd == 5) = false := by simp [k5]
  have C := glook_any LW (by have := HN.out; omega)
  have HBW : Hid (Below B w _) := BW
  have HLW : Hid (LK _ B gb lo hi hb sv vs sz nv p G) := LW
  clear LW BW HPC HL0 k0 k1 k2 k3 k4 k5
  go_wp2_with fail
  refine C.mono ?_
  rintro e w2 ⟨rfl, B2⟩
  have HB2 : Hid (Below B w w2) := HBW.out.trans (HLW.out.bB B2)
  have HL2 : Hid (LK w2 B gb lo hi hb sv vs sz nv p G) := HLW.out.below B2
  clear C B2 HBW HLW
  go_wp2
  go_ret
  exact ⟨rfl, HB2.out, _, _, _, HL2.out, Nat.le_succ _⟩
set_option maxRecDepth 20000 in
set_option maxHeartbeats 4000000 in
theorem gplay_98 {B gb lo hi hb : Nat} {sv : SV} {vs : List (Int × SV)} {sz : Int} {nv : Value} {p : PH} {G : GG} {w : World} (h : LK w B gb lo hi hb sv vs sz nv p G) (kd a b c v : Int) (ha1 : -9223372036854775808 ≤ a) (ha2 : a ≤ 9223372036854775807) (hb1 : -9223372036854775808 ≤ b) (hb2 : b ≤ 9223372036854775807) (hc1 : -9223372036854775808 ≤ c) (hc2 : c ≤ 9223372036854775807) (hv1 : -9223372036854775808 ≤ v) (hv2 : v ≤ 9223372036854775807) (hn : G.n + 1 ≤ 4398046511104) (hp : pickI c 2 = 1) :
    Calls Try.prog 24 #[.pointer (some ⟨gb, 0, none⟩), .agg #[.int .i64 kd, .int .i64 a, .int .i64 b, .int .i64 c, .int .i64 v], .int .i64 8] w (GOk B gb lo hi hb sv vs sz (G.n + 1) w) := by
  obtain ⟨ia, hia, pa⟩ : ∃ ia : Nat, ia < 8 ∧ pickI a 8 = ia := ⟨(pickI a 8).toNat, by have := pickI_bd a 8 (by decide); omega, by have := pickI_bd a 8 (by decide); omega⟩
  obtain ⟨ib, hib, pb⟩ : ∃ ib : Nat, ib < 8 ∧ pickI b 8 = ib := ⟨(pickI b 8).toNat, by have := pickI_bd b 8 (by decide); omega, by have := pickI_bd b 8 (by decide); omega⟩
  have PC : ∀ w, Calls Try.prog 23 #[.int .i64 c, .int .i64 2] w fun e w' => e = .returned (.int .i64 1) ∧ w' = w := fun w => by have := pick_any c 2 w (by decide) (by decide) hc1 hc2; rw [hp] at this; exact this
  have HPC : Hid (∀ w, Calls Try.prog 23 #[.int .i64 c, .int .i64 2] w fun e w' => e = .returned (.int .i64 1) ∧ w' = w) := PC
  have B0 : Below w.heap.size w (w.alloc (.cells #[.int .i64 kd, .int .i64 a, .int .i64 b, .int .i64 c, .int .i64 v] 52)) := (Below.refl _ _).alloc (Nat.le_refl _) _
  have HL0 : Hid (LK (w.alloc (.cells #[.int .i64 kd, .int .i64 a, .int .i64 b, .int .i64 c, .int .i64 v] 52)) B gb lo hi hb sv vs sz nv p G ∧ Below B w (w.alloc (.cells #[.int .i64 kd, .int .i64 a, .int .i64 b, .int .i64 c, .int .i64 v] 52))) := ⟨h.below B0, h.bB B0⟩
  have HC : Hid (-9223372036854775808 ≤ c ∧ c ≤ 9223372036854775807) := ⟨hc1, hc2⟩
  have HV : Hid (-9223372036854775808 ≤ v ∧ v ≤ 9223372036854775807) := ⟨hv1, hv2⟩
  have HN : Hid (G.n + 1 ≤ 4398046511104) := hn
  have hiab : (0 : Int) ≤ (ia : Int) ∧ (ia : Int) < 8 := by omega
  have hibb : (0 : Int) ≤ (ib : Int) ∧ (ib : Int) < 8 := by omega
  have hgw := h.gp.lt
  have hwB : B ≤ w.heap.size := by have := h.b0; omega
  unfold GOk
  have HPab : Hid (pickI a 8 = ia ∧ pickI b 8 = ib) := ⟨pa, pb⟩
  clear h PC B0 hp pa pb hc1 hc2 hv1 hv2 hn
  go_enter Try.func24, Try.ntmps24
  go_wp2
  go_quiet ((go_at_call 23; exact (pick_any _ _ _ (by decide) (by decide) (by assumption) (by assumption)).mono fun _ _ h => ⟨h.1, _, h.2⟩))
  rw [HPab.out.1, HPab.out.2]
  clear ha1 ha2 hb1 hb2
  have LW := HL0.out.1.below (gb_below_drewN _ nq)
  have BW := HL0.out.2.trans (HL0.out.1.bB (gb_below_drewN _ nq))
  go_wp2_with fail
  refine (HPC.out _).mono ?_
  rintro e w' ⟨rfl, rfl⟩
  by_cases k0 : kd = 0
  · subst k0
    have C := gcreate_any LW ia hia c HC.out.1 HC.out.2 HN.out
    unfold GOk at C
    have HBW : Hid (Below B w _) := BW
    clear LW BW HPC HL0
    go_wp2_with fail
    refine C.mono ?_
    rintro e w2 ⟨rfl, B2, nv', p', G', L', hG'⟩
    have HB2 : Hid (Below B w w2) := HBW.out.trans B2
    have HL2 : Hid (LK w2 B gb lo hi hb sv vs sz nv' p' G') := L'
    clear C B2 L' HBW
    go_wp2
    go_ret
    exact ⟨rfl, HB2.out, _, _, _, HL2.out, hG'⟩
  have e0 : (kd == 0) = false := by simp [k0]
  by_cases k1 : kd = 1
  · subst k1
    have C := gput_any LW ia hia v HV.out.1 HV.out.2
    unfold GOk at C
    have HBW : Hid (Below B w _) := BW
    clear LW BW HPC HL0 k0 e0
    go_wp2_with fail
    refine C.mono ?_
    rintro e w2 ⟨rfl, B2, nv', p', G', L', hG'⟩
    have HB2 : Hid (Below B w w2) := HBW.out.trans B2
    have HL2 : Hid (LK w2 B gb lo hi hb sv vs sz nv' p' G') := L'
    clear C B2 L' HBW
    go_wp2
    go_ret
    exact ⟨rfl, HB2.out, _, _, _, HL2.out, Nat.le_succ_of_le hG'⟩
  have e1 : (kd == 1) = false := by simp [k1]
  by_cases k2 : kd = 2
  · subst k2
    have C := glink_any LW ia ib hia hib 98 (by decide)
    unfold GOk at C
    have HBW : Hid (Below B w _) := BW
    clear LW BW HPC HL0 k0 e0 k1 e1
    go_wp2_with fail
    rw [show (((({ data := #[97, 98] } : ByteArray)[1]'(by decide)).toNat : Nat) : Int) = 98 from rfl]
    refine C.mono ?_
    rintro e w2 ⟨rfl, B2, nv', p', G', L', hG'⟩
    have HB2 : Hid (Below B w w2) := HBW.out.trans B2
    have HL2 : Hid (LK w2 B gb lo hi hb sv vs sz nv' p' G') := L'
    clear C B2 L' HBW
    go_wp2
    go_ret
    exact ⟨rfl, HB2.out, _, _, _, HL2.out, Nat.le_succ_of_le hG'⟩
  have e2 : (kd == 2) = false := by simp [k2]
  by_cases k3 : kd = 3
  · subst k3
    have C := gfollow_any LW ia ib hia hib 98 (by decide)
    unfold GOk at C
    have HBW : Hid (Below B w _) := BW
    clear LW BW HPC HL0 k0 e0 k1 e1 k2 e2
    go_wp2_with fail
    rw [show (((({ data := #[97, 98] } : ByteArray)[1]'(by decide)).toNat : Nat) : Int) = 98 from rfl]
    refine C.mono ?_
    rintro e w2 ⟨rfl, B2, nv', p', G', L', hG'⟩
    have HB2 : Hid (Below B w w2) := HBW.out.trans B2
    have HL2 : Hid (LK w2 B gb lo hi hb sv vs sz nv' p' G') := L'
    clear C B2 L' HBW
    go_wp2
    go_ret
    exact ⟨rfl, HB2.out, _, _, _, HL2.out, Nat.le_succ_of_le hG'⟩
  have e3 : (kd == 3) = false := by simp [k3]
  by_cases k4 : kd = 4
  · subst k4
    obtain ⟨y, hy⟩ : ∃ y, y = G.R ia := ⟨_, rfl⟩
    have C := gcopy_any LW ia ib hia hib y hy
    unfold CpPost at C
    have g0 := LW.gp.h
    have hgW := LW.gp.lt
    have HY : Hid (y = G.R ia ∧ -1 ≤ y ∧ y < G.n) := ⟨hy, by rw [hy]; exact LW.gw.R ia hia⟩
    have HBW : Hid (Below B w _) := BW
    have HLW : Hid (LK _ B gb lo hi hb sv vs sz nv p G) := LW
    clear LW BW HPC HL0 k0 e0 k1 e1 k2 e2 k3 e3 hy
    go_wp2_with fail
    refine C.mono ?_
    rintro e w2 ⟨rfl, p', P1, P2, P3, P4, P5, P6, P7⟩
    have ca : w2.cell? ⟨gb, 3 + ia, none⟩ = some (.int .i64 y) := by rw [HY.out.1]; exact P3.r ia hia
    have cb := P3.r ib hib
    have fb := P3.frz (3 + ib)
    have hg2 := P3.lt
    have HQ : Hid (HP w2 hb sv sz p'.R p'.K p'.N p'.F ∧ ClsIn w2 lo hi (.slice sv.a sv.n sv.c) vs csL ∧ GP w2 gb hb sz nv G.R ∧ ND w2 (hb + 1) nv G ∧ Pw p' ∧ Sim csL p' { dh G with R := set1 (dh G).R ib (y + 1).toNat } ∧ Below B w w2) := ⟨P1, P2, P3, P4, P5, P6, HBW.out.trans P7⟩
    clear C P1 P2 P3 P4 P5 P6 P7 HBW g0 hgW
    go_wp2
    refine stillTail 11 rfl (by kernel_rfl) ?_
    simp only [List.take_succ_cons, List.take_zero, List.drop_succ_cons, List.drop_zero]
    repeat still_step
    refine wpStill_nil ?_
    go_wp2
    go_ret
    obtain ⟨P1, P2, P3, P4, P5, P6, P7⟩ := HQ.out
    have L0 := HLW.out
    have K := LK.mkRoot L0 P1 P2 P3 P4 P5 L0.gw hib HY.out.2.1 HY.out.2.2 P6
    exact ⟨rfl, (P7.setCell (p := ⟨gb, 3 + ib, none⟩) L0.b0 (.int .i64 y)).trans (K.bB (gb_below_drewN _ 1)), _, _, _, K.below (gb_below_drewN _ 1), Nat.le_succ _⟩
  have e4 : (kd == 4) = false := by simp [k4]
  by_cases k5 : kd = 5
  · subst k5
    have C := gclear_any LW ia hia
    unfold CpPost at C
    have g0 := LW.gp.h
    have hgW := LW.gp.lt
    have HBW : Hid (Below B w _) := BW
    have HLW : Hid (LK _ B gb lo hi hb sv vs sz nv p G) := LW
    clear LW BW HPC HL0 k0 e0 k1 e1 k2 e2 k3 e3 k4 e4
    go_wp2_with fail
    refine C.mono ?_
    rintro e w2 ⟨rfl, p', P1, P2, P3, P4, P5, P6, P7⟩
    have ca := P3.r ia hia
    have fb := P3.frz (3 + ia)
    have hg2 := P3.lt
    have HQ : Hid (HP w2 hb sv sz p'.R p'.K p'.N p'.F ∧ ClsIn w2 lo hi (.slice sv.a sv.n sv.c) vs csL ∧ GP w2 gb hb sz nv G.R ∧ ND w2 (hb + 1) nv G ∧ Pw p' ∧ Sim csL p' { dh G with R := set1 (dh G).R ia ((-1 : Int) + 1).toNat } ∧ Below B w w2) := ⟨P1, P2, P3, P4, P5, P6, HBW.out.trans P7⟩
    clear C P1 P2 P3 P4 P5 P6 P7 HBW g0 hgW
    go_wp2
    go_ret
    obtain ⟨P1, P2, P3, P4, P5, P6, P7⟩ := HQ.out
    have L0 := HLW.out
    have K := LK.mkRoot L0 P1 P2 P3 P4 P5 L0.gw hia (by omega) (by omega) P6
    exact ⟨rfl, P7.setCell (p := ⟨gb, 3 + ia, none⟩) L0.b0 (.int .i64 (-1)), _, _, _, K, Nat.le_succ _⟩
  have e5 : (kd == 5) = false := by simp [k5]
  have C := glook_any LW (by have := HN.out; omega)
  have HBW : Hid (Below B w _) := BW
  have HLW : Hid (LK _ B gb lo hi hb sv vs sz nv p G) := LW
  clear LW BW HPC HL0 k0 k1 k2 k3 k4 k5
  go_wp2_with fail
  refine C.mono ?_
  rintro e w2 ⟨rfl, B2⟩
  have HB2 : Hid (Below B w w2) := HBW.out.trans (HLW.out.bB B2)
  have HL2 : Hid (LK w2 B gb lo hi hb sv vs sz nv p G) := HLW.out.below B2
  clear C B2 HBW HLW
  go_wp2
  go_ret
  exact ⟨rfl, HB2.out, _, _, _, HL2.out, Nat.le_succ _⟩
theorem gplay_any {B gb lo hi hb : Nat} {sv : SV} {vs : List (Int × SV)} {sz : Int} {nv : Value} {p : PH} {G : GG} {w : World} (h : LK w B gb lo hi hb sv vs sz nv p G) (kd a b c v : Int) (ha1 : -9223372036854775808 ≤ a) (ha2 : a ≤ 9223372036854775807) (hb1 : -9223372036854775808 ≤ b) (hb2 : b ≤ 9223372036854775807) (hc1 : -9223372036854775808 ≤ c) (hc2 : c ≤ 9223372036854775807) (hv1 : -9223372036854775808 ≤ v) (hv2 : v ≤ 9223372036854775807) (hn : G.n + 1 ≤ 4398046511104) :
    Calls Try.prog 24 #[.pointer (some ⟨gb, 0, none⟩), .agg #[.int .i64 kd, .int .i64 a, .int .i64 b, .int .i64 c, .int .i64 v], .int .i64 8] w (GOk B gb lo hi hb sv vs sz (G.n + 1) w) := by
  have hb2' := pickI_bd c 2 (by decide)
  have : pickI c 2 = 0 ∨ pickI c 2 = 1 := by omega
  rcases this with h0 | h1
  · exact gplay_97 h kd a b c v ha1 ha2 hb1 hb2 hc1 hc2 hv1 hv2 hn h0
  · exact gplay_98 h kd a b c v ha1 ha2 hb1 hb2 hc1 hc2 hv1 hv2 hn h1
end Go.Proofs.Ythckelcjncnalaa
