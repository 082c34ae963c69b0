import Derived.Test.YtbgilndohccicabMz25
namespace Go.Proofs.Ytbgilndohccicab
open Go.RowKit

/-- What a step makes of the graph. -/
noncomputable def plG (sz : Int) (G : GG) (kd : Int) (ia ib : Nat) (f l k v : Int) : GG :=
  if kd = 0 then crG sz G ia l k else if kd = 1 then putG G ia v else if kd = 2 then lnkG G ia f ib else if kd = 3 then folG G ia f ib
  else if kd = 4 then { G with R := set1 G.R ib (G.R ia) } else if kd = 5 then { G with R := set1 G.R ia (-1) } else G
noncomputable def stG (sz : Int) (G : GG) (kd a b c v : Int) : GG :=
  if pickI c 2 = 0 then plG sz G kd (pickI a 8).toNat (pickI b 8).toNat 97 78 4 v else plG sz G kd (pickI a 8).toNat (pickI b 8).toNat 98 81 3 v

set_option maxRecDepth 20000 in
set_option maxHeartbeats 4000000 in
theorem gplay_97 {P : Nat → Prop} {gb lo hi hb : Nat} {sv : SV} {vs : List (Int × SV)} {sz : Int} {nv : Value} {p : PH} {G : GG} {w : World} (h : LK w P gb lo hi hb sv vs sz nv p G) (kd a b c v : Int) (ha1 : -9223372036854775808 ≤ a) (ha2 : a ≤ 9223372036854775807) (hb1 : -9223372036854775808 ≤ b) (hb2 : b ≤ 9223372036854775807) (hc1 : -9223372036854775808 ≤ c) (hc2 : c ≤ 9223372036854775807) (hv1 : -9223372036854775808 ≤ v) (hv2 : v ≤ 9223372036854775807) (hn : G.n + 1 ≤ 7036874417560) (hp : pickI c 2 = 0) :
    Calls Try.prog 21 #[.pointer (some ⟨gb, 0, none⟩), .agg #[.int .i64 kd, .int .i64 a, .int .i64 b, .int .i64 c, .int .i64 v], .int .i64 8] w (GOk P gb lo hi hb sv vs sz p.N (plG sz G kd (pickI a 8).toNat (pickI b 8).toNat 97 78 4 v) w) := by
  obtain ⟨ia, hia, pa⟩ : ∃ ia : Nat, ia < 8 ∧ pickI a 8 = ia := ⟨(pickI a 8).toNat, by have := pickI_bd a 8 (by decide); omega, by have := pickI_bd a 8 (by decide); omega⟩
  obtain ⟨ib, hib, pb⟩ : ∃ ib : Nat, ib < 8 ∧ pickI b 8 = ib := ⟨(pickI b 8).toNat, by have := pickI_bd b 8 (by decide); omega, by have := pickI_bd b 8 (by decide); omega⟩
  have PC : ∀ w, Calls Try.prog 12 #[.int .i64 c, .int .i64 2] w fun e w' => e = .returned (.int .i64 0) ∧ w' = w := fun w => by have := pick_any c 2 w (by decide) (by decide) hc1 hc2; rw [hp] at this; exact this
  have HPC : Hid (∀ w, Calls Try.prog 12 #[.int .i64 c, .int .i64 2] w fun e w' => e = .returned (.int .i64 0) ∧ w' = w) := PC
  have B0 : Below w.heap.size w (w.alloc (.cells #[.int .i64 kd, .int .i64 a, .int .i64 b, .int .i64 c, .int .i64 v] 61)) := (Below.refl _ _).alloc (Nat.le_refl _) _
  have HL0 : Hid (LK (w.alloc (.cells #[.int .i64 kd, .int .i64 a, .int .i64 b, .int .i64 c, .int .i64 v] 61)) P gb lo hi hb sv vs sz nv p G ∧ Prot P w (w.alloc (.cells #[.int .i64 kd, .int .i64 a, .int .i64 b, .int .i64 c, .int .i64 v] 61))) := ⟨h.below B0, h.bB B0⟩
  have HC : Hid (-9223372036854775808 ≤ c ∧ c ≤ 9223372036854775807) := ⟨hc1, hc2⟩
  have HV : Hid (-9223372036854775808 ≤ v ∧ v ≤ 9223372036854775807) := ⟨hv1, hv2⟩
  have HN : Hid (G.n + 1 ≤ 7036874417560) := hn
  have hiab : (0 : Int) ≤ (ia : Int) ∧ (ia : Int) < 8 := by omega
  have hibb : (0 : Int) ≤ (ib : Int) ∧ (ib : Int) < 8 := by omega
  have hgw := h.gp.lt
  have HPL : Hid (∀ k, P k → k < w.heap.size) := h.pl
  rw [pa, pb, Int.toNat_natCast, Int.toNat_natCast]
  unfold GOk
  have HPab : Hid (pickI a 8 = ia ∧ pickI b 8 = ib) := ⟨pa, pb⟩
  have HPC0 : Hid (pickI c 2 = 0) := hp
  clear h PC B0 hp pa pb hc1 hc2 hv1 hv2 hn
  go_enter Try.func21, Try.ntmps21
  go_wp2
  go_quiet ((go_at_call 12; exact (pick_any _ _ _ (by decide) (by decide) (by assumption) (by assumption)).mono fun _ _ h => ⟨h.1, _, h.2⟩))
  rw [HPab.out.1, HPab.out.2]
  clear ha1 ha2 hb1 hb2
  have LW := HL0.out.1.below (gb_below_drewN _ nq)
  have BW := HL0.out.2.trans (HL0.out.1.bB (gb_below_drewN _ nq))
  go_wp2_with fail
  refine (HPC.out _).mono ?_
  rintro e w' ⟨rfl, rfl⟩
  by_cases k0 : kd = 0
  · subst k0
    have HGq : Hid (plG sz G 0 ia ib 97 78 4 v = crG sz G ia 78 4) := by show plG sz G 0 ia ib 97 78 4 v = _; unfold plG; rw [if_pos rfl]
    have C := gcreate_78 LW ia hia c HC.out.1 HC.out.2 HN.out HPC0.out
    unfold GOk at C
    have HBW : Hid (Prot P w _) := BW
    clear LW BW HPC HL0
    go_wp2_with fail
    refine C.mono ?_
    rintro e w2 ⟨rfl, B2, nv', p', L', hG'⟩
    have HB2 : Hid (Prot P w w2) := HBW.out.trans B2
    have HL2 : Hid (_) := L'
    have HNN : Hid (∀ j, p'.N 201 j = p.N 201 j) := hG'
    clear C B2 L' HBW hG'
    go_wp2
    go_ret
    rw [HGq.out]
    exact ⟨rfl, HB2.out, _, _, HL2.out, HNN.out⟩
  have e0 : (kd == 0) = false := by simp [k0]
  by_cases k1 : kd = 1
  · subst k1
    have HGq : Hid (plG sz G 1 ia ib 97 78 4 v = putG G ia v) := by show plG sz G 1 ia ib 97 78 4 v = _; unfold plG; rw [if_neg (by decide), if_pos rfl]
    have C := gput_any LW ia hia v HV.out.1 HV.out.2
    unfold GOk at C
    have HBW : Hid (Prot P w _) := BW
    clear LW BW HPC HL0 k0 e0
    go_wp2_with fail
    refine C.mono ?_
    rintro e w2 ⟨rfl, B2, nv', p', L', hG'⟩
    have HB2 : Hid (Prot P w w2) := HBW.out.trans B2
    have HL2 : Hid (_) := L'
    have HNN : Hid (∀ j, p'.N 201 j = p.N 201 j) := hG'
    clear C B2 L' HBW hG'
    go_wp2
    go_ret
    rw [HGq.out]
    exact ⟨rfl, HB2.out, _, _, HL2.out, HNN.out⟩
  have e1 : (kd == 1) = false := by simp [k1]
  by_cases k2 : kd = 2
  · subst k2
    have HGq : Hid (plG sz G 2 ia ib 97 78 4 v = lnkG G ia 97 ib) := by show plG sz G 2 ia ib 97 78 4 v = _; unfold plG; rw [if_neg (by decide), if_neg (by decide), if_pos rfl]
    have C := glink_any LW ia ib hia hib 97 (by decide)
    unfold GOk at C
    have HBW : Hid (Prot P w _) := BW
    clear LW BW HPC HL0 k0 e0 k1 e1
    go_wp2_with fail
    rw [show (((({ data := #[97, 98] } : ByteArray)[0]'(by decide)).toNat : Nat) : Int) = 97 from rfl]
    refine C.mono ?_
    rintro e w2 ⟨rfl, B2, nv', p', L', hG'⟩
    have HB2 : Hid (Prot P w w2) := HBW.out.trans B2
    have HL2 : Hid (_) := L'
    have HNN : Hid (∀ j, p'.N 201 j = p.N 201 j) := hG'
    clear C B2 L' HBW hG'
    go_wp2
    go_ret
    rw [HGq.out]
    exact ⟨rfl, HB2.out, _, _, HL2.out, HNN.out⟩
  have e2 : (kd == 2) = false := by simp [k2]
  by_cases k3 : kd = 3
  · subst k3
    have HGq : Hid (plG sz G 3 ia ib 97 78 4 v = folG G ia 97 ib) := by show plG sz G 3 ia ib 97 78 4 v = _; unfold plG; rw [if_neg (by decide), if_neg (by decide), if_neg (by decide), if_pos rfl]
    have C := gfollow_any LW ia ib hia hib 97 (by decide)
    unfold GOk at C
    have HBW : Hid (Prot P w _) := BW
    clear LW BW HPC HL0 k0 e0 k1 e1 k2 e2
    go_wp2_with fail
    rw [show (((({ data := #[97, 98] } : ByteArray)[0]'(by decide)).toNat : Nat) : Int) = 97 from rfl]
    refine C.mono ?_
    rintro e w2 ⟨rfl, B2, nv', p', L', hG'⟩
    have HB2 : Hid (Prot P w w2) := HBW.out.trans B2
    have HL2 : Hid (_) := L'
    have HNN : Hid (∀ j, p'.N 201 j = p.N 201 j) := hG'
    clear C B2 L' HBW hG'
    go_wp2
    go_ret
    rw [HGq.out]
    exact ⟨rfl, HB2.out, _, _, HL2.out, HNN.out⟩
  have e3 : (kd == 3) = false := by simp [k3]
  by_cases k4 : kd = 4
  · subst k4
    have HGq : Hid (plG sz G 4 ia ib 97 78 4 v = { G with R := set1 G.R ib (G.R ia) }) := by show plG sz G 4 ia ib 97 78 4 v = _; unfold plG; rw [if_neg (by decide), if_neg (by decide), if_neg (by decide), if_neg (by decide), if_pos rfl]
    obtain ⟨y, hy⟩ : ∃ y, y = G.R ia := ⟨_, rfl⟩
    have C := gcopy_any LW ia ib hia hib y hy
    unfold CpPost at C
    have g0 := LW.gp.h
    have hgW := LW.gp.lt
    have HY : Hid (y = G.R ia ∧ -1 ≤ y ∧ y < G.n) := ⟨hy, by rw [hy]; exact LW.gw.R ia hia⟩
    have HBW : Hid (Prot P w _) := BW
    have HLW : Hid (LK _ P gb lo hi hb sv vs sz nv p G) := LW
    clear LW BW HPC HL0 k0 e0 k1 e1 k2 e2 k3 e3 hy
    go_wp2_with fail
    refine C.mono ?_
    rintro e w2 ⟨rfl, p', P1, P2, P3, P4, P5, P6, P7, P8⟩
    have ca : w2.cell? ⟨gb, 3 + ia, none⟩ = some (.int .i64 y) := by rw [HY.out.1]; exact P3.r ia hia
    have cb := P3.r ib hib
    have fb := P3.frz (3 + ib)
    have hg2 := P3.lt
    have HQ : Hid (HP w2 hb sv sz p'.R p'.K p'.N p'.F ∧ ClsIn w2 lo hi (.slice sv.a sv.n sv.c) vs csL ∧ GP w2 gb hb sz nv G.R ∧ ND w2 (hb + 1) nv G ∧ Pw p' ∧ Sim csL p' { dh G with R := set1 (dh G).R ib (y + 1).toNat } ∧ Prot P w w2) := ⟨P1, P2, P3, P4, P5, P6, HBW.out.trans P7⟩
    have HNN : Hid (∀ j, p'.N 201 j = p.N 201 j) := P8
    clear C P1 P2 P3 P4 P5 P6 P7 P8 HBW g0 hgW
    go_wp2
    refine stillTail 11 rfl (by kernel_rfl) ?_
    simp only [List.take_succ_cons, List.take_zero, List.drop_succ_cons, List.drop_zero]
    repeat still_step
    refine wpStill_nil ?_
    go_wp2
    go_ret
    rw [HGq.out]
    obtain ⟨P1, P2, P3, P4, P5, P6, P7⟩ := HQ.out
    have L0 := HLW.out
    have K := LK.mkRoot L0 P1 P2 P3 P4 P5 L0.gw hib HY.out.2.1 HY.out.2.2 P6 L0.n2 (P7.lt HPL.out)
    rw [← HY.out.1]
    exact ⟨rfl, (P7.setCell (p := ⟨gb, 3 + ib, none⟩) L0.n0 (.int .i64 y)).trans (K.bB (gb_below_drewN _ 1)), _, _, K.below (gb_below_drewN _ 1), HNN.out⟩
  have e4 : (kd == 4) = false := by simp [k4]
  by_cases k5 : kd = 5
  · subst k5
    have HGq : Hid (plG sz G 5 ia ib 97 78 4 v = { G with R := set1 G.R ia (-1) }) := by show plG sz G 5 ia ib 97 78 4 v = _; unfold plG; rw [if_neg (by decide), if_neg (by decide), if_neg (by decide), if_neg (by decide), if_neg (by decide), if_pos rfl]
    have C := gclear_any LW ia hia
    unfold CpPost at C
    have g0 := LW.gp.h
    have hgW := LW.gp.lt
    have HBW : Hid (Prot P w _) := BW
    have HLW : Hid (LK _ P gb lo hi hb sv vs sz nv p G) := LW
    clear LW BW HPC HL0 k0 e0 k1 e1 k2 e2 k3 e3 k4 e4
    go_wp2_with fail
    refine C.mono ?_
    rintro e w2 ⟨rfl, p', P1, P2, P3, P4, P5, P6, P7, P8⟩
    have ca := P3.r ia hia
    have fb := P3.frz (3 + ia)
    have hg2 := P3.lt
    have HQ : Hid (HP w2 hb sv sz p'.R p'.K p'.N p'.F ∧ ClsIn w2 lo hi (.slice sv.a sv.n sv.c) vs csL ∧ GP w2 gb hb sz nv G.R ∧ ND w2 (hb + 1) nv G ∧ Pw p' ∧ Sim csL p' { dh G with R := set1 (dh G).R ia ((-1 : Int) + 1).toNat } ∧ Prot P w w2) := ⟨P1, P2, P3, P4, P5, P6, HBW.out.trans P7⟩
    have HNN : Hid (∀ j, p'.N 201 j = p.N 201 j) := P8
    clear C P1 P2 P3 P4 P5 P6 P7 P8 HBW g0 hgW
    go_wp2
    go_ret
    rw [HGq.out]
    obtain ⟨P1, P2, P3, P4, P5, P6, P7⟩ := HQ.out
    have L0 := HLW.out
    have K := LK.mkRoot L0 P1 P2 P3 P4 P5 L0.gw hia (by omega) (by omega) P6 L0.n2 (P7.lt HPL.out)
    exact ⟨rfl, P7.setCell (p := ⟨gb, 3 + ia, none⟩) L0.n0 (.int .i64 (-1)), _, _, K, HNN.out⟩
  have e5 : (kd == 5) = false := by simp [k5]
  have HGq : Hid (plG sz G kd ia ib 97 78 4 v = G) := by show plG sz G kd ia ib 97 78 4 v = G; unfold plG; rw [if_neg k0, if_neg k1, if_neg k2, if_neg k3, if_neg k4, if_neg k5]
  have C := glook_any LW (by have := HN.out; omega)
  have HBW : Hid (Prot P w _) := BW
  have HLW : Hid (LK _ P gb lo hi hb sv vs sz nv p G) := LW
  clear LW BW HPC HL0 k0 k1 k2 k3 k4 k5
  go_wp2_with fail
  refine C.mono ?_
  rintro e w2 ⟨rfl, B2⟩
  have HB2 : Hid (Prot P w w2) := HBW.out.trans (HLW.out.bB B2)
  have HL2 : Hid (LK w2 P gb lo hi hb sv vs sz nv p G) := HLW.out.below B2
  clear C B2 HBW HLW
  go_wp2
  go_ret
  rw [HGq.out]
  exact ⟨rfl, HB2.out, _, _, HL2.out, fun _ => rfl⟩
set_option maxRecDepth 20000 in
set_option maxHeartbeats 4000000 in
theorem gplay_98 {P : Nat → Prop} {gb lo hi hb : Nat} {sv : SV} {vs : List (Int × SV)} {sz : Int} {nv : Value} {p : PH} {G : GG} {w : World} (h : LK w P gb lo hi hb sv vs sz nv p G) (kd a b c v : Int) (ha1 : -9223372036854775808 ≤ a) (ha2 : a ≤ 9223372036854775807) (hb1 : -9223372036854775808 ≤ b) (hb2 : b ≤ 9223372036854775807) (hc1 : -9223372036854775808 ≤ c) (hc2 : c ≤ 9223372036854775807) (hv1 : -9223372036854775808 ≤ v) (hv2 : v ≤ 9223372036854775807) (hn : G.n + 1 ≤ 7036874417560) (hp : pickI c 2 = 1) :
    Calls Try.prog 21 #[.pointer (some ⟨gb, 0, none⟩), .agg #[.int .i64 kd, .int .i64 a, .int .i64 b, .int .i64 c, .int .i64 v], .int .i64 8] w (GOk P gb lo hi hb sv vs sz p.N (plG sz G kd (pickI a 8).toNat (pickI b 8).toNat 98 81 3 v) w) := by
  obtain ⟨ia, hia, pa⟩ : ∃ ia : Nat, ia < 8 ∧ pickI a 8 = ia := ⟨(pickI a 8).toNat, by have := pickI_bd a 8 (by decide); omega, by have := pickI_bd a 8 (by decide); omega⟩
  obtain ⟨ib, hib, pb⟩ : ∃ ib : Nat, ib < 8 ∧ pickI b 8 = ib := ⟨(pickI b 8).toNat, by have := pickI_bd b 8 (by decide); omega, by have := pickI_bd b 8 (by decide); omega⟩
  have PC : ∀ w, Calls Try.prog 12 #[.int .i64 c, .int .i64 2] w fun e w' => e = .returned (.int .i64 1) ∧ w' = w := fun w => by have := pick_any c 2 w (by decide) (by decide) hc1 hc2; rw [hp] at this; exact this
  have HPC : Hid (∀ w, Calls Try.prog 12 #[.int .i64 c, .int .i64 2] w fun e w' => e = .returned (.int .i64 1) ∧ w' = w) := PC
  have B0 : Below w.heap.size w (w.alloc (.cells #[.int .i64 kd, .int .i64 a, .int .i64 b, .int .i64 c, .int .i64 v] 61)) := (Below.refl _ _).alloc (Nat.le_refl _) _
  have HL0 : Hid (LK (w.alloc (.cells #[.int .i64 kd, .int .i64 a, .int .i64 b, .int .i64 c, .int .i64 v] 61)) P gb lo hi hb sv vs sz nv p G ∧ Prot P w (w.alloc (.cells #[.int .i64 kd, .int .i64 a, .int .i64 b, .int .i64 c, .int .i64 v] 61))) := ⟨h.below B0, h.bB B0⟩
  have HC : Hid (-9223372036854775808 ≤ c ∧ c ≤ 9223372036854775807) := ⟨hc1, hc2⟩
  have HV : Hid (-9223372036854775808 ≤ v ∧ v ≤ 9223372036854775807) := ⟨hv1, hv2⟩
  have HN : Hid (G.n + 1 ≤ 7036874417560) := hn
  have hiab : (0 : Int) ≤ (ia : Int) ∧ (ia : Int) < 8 := by omega
  have hibb : (0 : Int) ≤ (ib : Int) ∧ (ib : Int) < 8 := by omega
  have hgw := h.gp.lt
  have HPL : Hid (∀ k, P k → k < w.heap.size) := h.pl
  rw [pa, pb, Int.toNat_natCast, Int.toNat_natCast]
  unfold GOk
  have HPab : Hid (pickI a 8 = ia ∧ pickI b 8 = ib) := ⟨pa, pb⟩
  have HPC0 : Hid (pickI c 2 = 1) := hp
  clear h PC B0 hp pa pb hc1 hc2 hv1 hv2 hn
  go_enter Try.func21, Try.ntmps21
  go_wp2
  go_quiet ((go_at_call 12; exact (pick_any _ _ _ (by decide) (by decide) (by assumption) (by assumption)).mono fun _ _ h => ⟨h.1, _, h.2⟩))
  rw [HPab.out.1, HPab.out.2]
  clear ha1 ha2 hb1 hb2
  have LW := HL0.out.1.below (gb_below_drewN _ nq)
  have BW := HL0.out.2.trans (HL0.out.1.bB (gb_below_drewN _ nq))
  go_wp2_with fail
  refine (HPC.out _).mono ?_
  rintro e w' ⟨rfl, rfl⟩
  by_cases k0 : kd = 0
  · subst k0
    have HGq : Hid (plG sz G 0 ia ib 98 81 3 v = crG sz G ia 81 3) := by show plG sz G 0 ia ib 98 81 3 v = _; unfold plG; rw [if_pos rfl]
    have C := gcreate_81 LW ia hia c HC.out.1 HC.out.2 HN.out HPC0.out
    unfold GOk at C
    have HBW : Hid (Prot P w _) := BW
    clear LW BW HPC HL0
    go_wp2_with fail
    refine C.mono ?_
    rintro e w2 ⟨rfl, B2, nv', p', L', hG'⟩
    have HB2 : Hid (Prot P w w2) := HBW.out.trans B2
    have HL2 : Hid (_) := L'
    have HNN : Hid (∀ j, p'.N 201 j = p.N 201 j) := hG'
    clear C B2 L' HBW hG'
    go_wp2
    go_ret
    rw [HGq.out]
    exact ⟨rfl, HB2.out, _, _, HL2.out, HNN.out⟩
  have e0 : (kd == 0) = false := by simp [k0]
  by_cases k1 : kd = 1
  · subst k1
    have HGq : Hid (plG sz G 1 ia ib 98 81 3 v = putG G ia v) := by show plG sz G 1 ia ib 98 81 3 v = _; unfold plG; rw [if_neg (by decide), if_pos rfl]
    have C := gput_any LW ia hia v HV.out.1 HV.out.2
    unfold GOk at C
    have HBW : Hid (Prot P w _) := BW
    clear LW BW HPC HL0 k0 e0
    go_wp2_with fail
    refine C.mono ?_
    rintro e w2 ⟨rfl, B2, nv', p', L', hG'⟩
    have HB2 : Hid (Prot P w w2) := HBW.out.trans B2
    have HL2 : Hid (_) := L'
    have HNN : Hid (∀ j, p'.N 201 j = p.N 201 j) := hG'
    clear C B2 L' HBW hG'
    go_wp2
    go_ret
    rw [HGq.out]
    exact ⟨rfl, HB2.out, _, _, HL2.out, HNN.out⟩
  have e1 : (kd == 1) = false := by simp [k1]
  by_cases k2 : kd = 2
  · subst k2
    have HGq : Hid (plG sz G 2 ia ib 98 81 3 v = lnkG G ia 98 ib) := by show plG sz G 2 ia ib 98 81 3 v = _; unfold plG; rw [if_neg (by decide), if_neg (by decide), if_pos rfl]
    have C := glink_any LW ia ib hia hib 98 (by decide)
    unfold GOk at C
    have HBW : Hid (Prot P w _) := BW
    clear LW BW HPC HL0 k0 e0 k1 e1
    go_wp2_with fail
    rw [show (((({ data := #[97, 98] } : ByteArray)[1]'(by decide)).toNat : Nat) : Int) = 98 from rfl]
    refine C.mono ?_
    rintro e w2 ⟨rfl, B2, nv', p', L', hG'⟩
    have HB2 : Hid (Prot P w w2) := HBW.out.trans B2
    have HL2 : Hid (_) := L'
    have HNN : Hid (∀ j, p'.N 201 j = p.N 201 j) := hG'
    clear C B2 L' HBW hG'
    go_wp2
    go_ret
    rw [HGq.out]
    exact ⟨rfl, HB2.out, _, _, HL2.out, HNN.out⟩
  have e2 : (kd == 2) = false := by simp [k2]
  by_cases k3 : kd = 3
  · subst k3
    have HGq : Hid (plG sz G 3 ia ib 98 81 3 v = folG G ia 98 ib) := by show plG sz G 3 ia ib 98 81 3 v = _; unfold plG; rw [if_neg (by decide), if_neg (by decide), if_neg (by decide), if_pos rfl]
    have C := gfollow_any LW ia ib hia hib 98 (by decide)
    unfold GOk at C
    have HBW : Hid (Prot P w _) := BW
    clear LW BW HPC HL0 k0 e0 k1 e1 k2 e2
    go_wp2_with fail
    rw [show (((({ data := #[97, 98] } : ByteArray)[1]'(by decide)).toNat : Nat) : Int) = 98 from rfl]
    refine C.mono ?_
    rintro e w2 ⟨rfl, B2, nv', p', L', hG'⟩
    have HB2 : Hid (Prot P w w2) := HBW.out.trans B2
    have HL2 : Hid (_) := L'
    have HNN : Hid (∀ j, p'.N 201 j = p.N 201 j) := hG'
    clear C B2 L' HBW hG'
    go_wp2
    go_ret
    rw [HGq.out]
    exact ⟨rfl, HB2.out, _, _, HL2.out, HNN.out⟩
  have e3 : (kd == 3) = false := by simp [k3]
  by_cases k4 : kd = 4
  · subst k4
    have HGq : Hid (plG sz G 4 ia ib 98 81 3 v = { G with R := set1 G.R ib (G.R ia) }) := by show plG sz G 4 ia ib 98 81 3 v = _; unfold plG; rw [if_neg (by decide), if_neg (by decide), if_neg (by decide), if_neg (by decide), if_pos rfl]
    obtain ⟨y, hy⟩ : ∃ y, y = G.R ia := ⟨_, rfl⟩
    have C := gcopy_any LW ia ib hia hib y hy
    unfold CpPost at C
    have g0 := LW.gp.h
    have hgW := LW.gp.lt
    have HY : Hid (y = G.R ia ∧ -1 ≤ y ∧ y < G.n) := ⟨hy, by rw [hy]; exact LW.gw.R ia hia⟩
    have HBW : Hid (Prot P w _) := BW
    have HLW : Hid (LK _ P gb lo hi hb sv vs sz nv p G) := LW
    clear LW BW HPC HL0 k0 e0 k1 e1 k2 e2 k3 e3 hy
    go_wp2_with fail
    refine C.mono ?_
    rintro e w2 ⟨rfl, p', P1, P2, P3, P4, P5, P6, P7, P8⟩
    have ca : w2.cell? ⟨gb, 3 + ia, none⟩ = some (.int .i64 y) := by rw [HY.out.1]; exact P3.r ia hia
    have cb := P3.r ib hib
    have fb := P3.frz (3 + ib)
    have hg2 := P3.lt
    have HQ : Hid (HP w2 hb sv sz p'.R p'.K p'.N p'.F ∧ ClsIn w2 lo hi (.slice sv.a sv.n sv.c) vs csL ∧ GP w2 gb hb sz nv G.R ∧ ND w2 (hb + 1) nv G ∧ Pw p' ∧ Sim csL p' { dh G with R := set1 (dh G).R ib (y + 1).toNat } ∧ Prot P w w2) := ⟨P1, P2, P3, P4, P5, P6, HBW.out.trans P7⟩
    have HNN : Hid (∀ j, p'.N 201 j = p.N 201 j) := P8
    clear C P1 P2 P3 P4 P5 P6 P7 P8 HBW g0 hgW
    go_wp2
    refine stillTail 11 rfl (by kernel_rfl) ?_
    simp only [List.take_succ_cons, List.take_zero, List.drop_succ_cons, List.drop_zero]
    repeat still_step
    refine wpStill_nil ?_
    go_wp2
    go_ret
    rw [HGq.out]
    obtain ⟨P1, P2, P3, P4, P5, P6, P7⟩ := HQ.out
    have L0 := HLW.out
    have K := LK.mkRoot L0 P1 P2 P3 P4 P5 L0.gw hib HY.out.2.1 HY.out.2.2 P6 L0.n2 (P7.lt HPL.out)
    rw [← HY.out.1]
    exact ⟨rfl, (P7.setCell (p := ⟨gb, 3 + ib, none⟩) L0.n0 (.int .i64 y)).trans (K.bB (gb_below_drewN _ 1)), _, _, K.below (gb_below_drewN _ 1), HNN.out⟩
  have e4 : (kd == 4) = false := by simp [k4]
  by_cases k5 : kd = 5
  · subst k5
    have HGq : Hid (plG sz G 5 ia ib 98 81 3 v = { G with R := set1 G.R ia (-1) }) := by show plG sz G 5 ia ib 98 81 3 v = _; unfold plG; rw [if_neg (by decide), if_neg (by decide), if_neg (by decide), if_neg (by decide), if_neg (by decide), if_pos rfl]
    have C := gclear_any LW ia hia
    unfold CpPost at C
    have g0 := LW.gp.h
    have hgW := LW.gp.lt
    have HBW : Hid (Prot P w _) := BW
    have HLW : Hid (LK _ P gb lo hi hb sv vs sz nv p G) := LW
    clear LW BW HPC HL0 k0 e0 k1 e1 k2 e2 k3 e3 k4 e4
    go_wp2_with fail
    refine C.mono ?_
    rintro e w2 ⟨rfl, p', P1, P2, P3, P4, P5, P6, P7, P8⟩
    have ca := P3.r ia hia
    have fb := P3.frz (3 + ia)
    have hg2 := P3.lt
    have HQ : Hid (HP w2 hb sv sz p'.R p'.K p'.N p'.F ∧ ClsIn w2 lo hi (.slice sv.a sv.n sv.c) vs csL ∧ GP w2 gb hb sz nv G.R ∧ ND w2 (hb + 1) nv G ∧ Pw p' ∧ Sim csL p' { dh G with R := set1 (dh G).R ia ((-1 : Int) + 1).toNat } ∧ Prot P w w2) := ⟨P1, P2, P3, P4, P5, P6, HBW.out.trans P7⟩
    have HNN : Hid (∀ j, p'.N 201 j = p.N 201 j) := P8
    clear C P1 P2 P3 P4 P5 P6 P7 P8 HBW g0 hgW
    go_wp2
    go_ret
    rw [HGq.out]
    obtain ⟨P1, P2, P3, P4, P5, P6, P7⟩ := HQ.out
    have L0 := HLW.out
    have K := LK.mkRoot L0 P1 P2 P3 P4 P5 L0.gw hia (by omega) (by omega) P6 L0.n2 (P7.lt HPL.out)
    exact ⟨rfl, P7.setCell (p := ⟨gb, 3 + ia, none⟩) L0.n0 (.int .i64 (-1)), _, _, K, HNN.out⟩
  have e5 : (kd == 5) = false := by simp [k5]
  have HGq : Hid (plG sz G kd ia ib 98 81 3 v = G) := by show plG sz G kd ia ib 98 81 3 v = G; unfold plG; rw [if_neg k0, if_neg k1, if_neg k2, if_neg k3, if_neg k4, if_neg k5]
  have C := glook_any LW (by have := HN.out; omega)
  have HBW : Hid (Prot P w _) := BW
  have HLW : Hid (LK _ P gb lo hi hb sv vs sz nv p G) := LW
  clear LW BW HPC HL0 k0 k1 k2 k3 k4 k5
  go_wp2_with fail
  refine C.mono ?_
  rintro e w2 ⟨rfl, B2⟩
  have HB2 : Hid (Prot P w w2) := HBW.out.trans (HLW.out.bB B2)
  have HL2 : Hid (LK w2 P gb lo hi hb sv vs sz nv p G) := HLW.out.below B2
  clear C B2 HBW HLW
  go_wp2
  go_ret
  rw [HGq.out]
  exact ⟨rfl, HB2.out, _, _, HL2.out, fun _ => rfl⟩
theorem gplay_any {P : Nat → Prop} {gb lo hi hb : Nat} {sv : SV} {vs : List (Int × SV)} {sz : Int} {nv : Value} {p : PH} {G : GG} {w : World} (h : LK w P gb lo hi hb sv vs sz nv p G) (kd a b c v : Int) (ha1 : -9223372036854775808 ≤ a) (ha2 : a ≤ 9223372036854775807) (hb1 : -9223372036854775808 ≤ b) (hb2 : b ≤ 9223372036854775807) (hc1 : -9223372036854775808 ≤ c) (hc2 : c ≤ 9223372036854775807) (hv1 : -9223372036854775808 ≤ v) (hv2 : v ≤ 9223372036854775807) (hn : G.n + 1 ≤ 7036874417560) :
    Calls Try.prog 21 #[.pointer (some ⟨gb, 0, none⟩), .agg #[.int .i64 kd, .int .i64 a, .int .i64 b, .int .i64 c, .int .i64 v], .int .i64 8] w (GOk P gb lo hi hb sv vs sz p.N (stG sz G kd a b c v) w) := by
  have hb2' := pickI_bd c 2 (by decide)
  unfold stG
  by_cases h0 : pickI c 2 = 0
  · rw [if_pos h0]
    exact gplay_97 h kd a b c v ha1 ha2 hb1 hb2 hc1 hc2 hv1 hv2 hn h0
  · rw [if_neg h0]
    exact gplay_98 h kd a b c v ha1 ha2 hb1 hb2 hc1 hc2 hv1 hv2 hn (by omega)
theorem stG_n (sz : Int) (G : GG) (kd a b c v : Int) : (stG sz G kd a b c v).n ≤ G.n + 1 := by
  have hp : ∀ ia ib f l k, (plG sz G kd ia ib f l k v).n ≤ G.n + 1 := by
    intro ia ib f l k
    unfold plG
    split
    · unfold crG; split
      · omega
      · exact Nat.le_refl _
    · split
      · unfold putG; split
        · omega
        · exact Nat.le_succ _
      · split
        · unfold lnkG; split
          · omega
          · split
            · unfold setF; split <;> exact Nat.le_succ _
            · omega
        · split
          · unfold folG; split
            · omega
            · split
              · exact Nat.le_succ _
              · omega
          · split
            · exact Nat.le_succ _
            · split
              · exact Nat.le_succ _
              · omega
  unfold stG
  split <;> exact hp _ _ _ _ _
end Go.Proofs.Ytbgilndohccicab
