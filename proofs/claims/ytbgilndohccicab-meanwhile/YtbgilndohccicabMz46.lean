import Derived.Test.YtbgilndohccicabMz44
import Derived.Test.YtbgilndohccicabMz45
import Derived.Deep.RegionHeld3
import Derived.Deep.CutRange
import Derived.BigQuiet
namespace Go.Proofs.Ytbgilndohccicab
open Go.RowKit

/-- The script, in a world further on. -/
theorem ScL.at {w w4 wr : World} {n tb : Nat} {a : Option Addr} {len : Nat} {O : Nat → StV} (h : ScL w a len O) (hn : n = w.heap.size) (p : Prot (fun k => k < n) w w4) (q : Prot (QT n tb) w4 wr) : ScL wr a len O := by
  subst hn
  exact h.kept (p.trans (q.sub fun k hk => .inl hk))
theorem ScL.inP {w : World} {n tb : Nat} {a : Option Addr} {len : Nat} {O : Nat → StV} (h : ScL w a len O) (hn : n = w.heap.size) {P : Nat → Prop} (hP : ∀ k, QT n tb k → P k) : 0 < len → ∀ g o, a = some ⟨g, o, none⟩ → P g := by
  intro h0 g o e
  obtain ⟨g', o', e', hg, _⟩ := h.row h0
  rw [e] at e'
  injection e' with e'
  injection e' with e' _
  subst e'
  exact hP g (.inl (by rw [hn]; exact hg))
set_option maxRecDepth 20000 in
set_option maxHeartbeats 8000000 in
theorem meanwhile_walk (size c x y : Int) (hs1 : -9223372036854775808 ≤ size) (hs2 : size ≤ 9223372036854775807) (hc1 : -9223372036854775808 ≤ c) (hc2 : c ≤ 9223372036854775807) (hx1 : -9223372036854775808 ≤ x) (hx2 : x ≤ 9223372036854775807) (hy1 : -9223372036854775808 ≤ y) (hy2 : y ≤ 9223372036854775807) (a1 : Option Addr) (l1 k1 : Nat) (O1 : Nat → StV) (a2 : Option Addr) (l2 k2 : Nat) (O2 : Nat → StV) (w : World) (hS1 : ScL w a1 l1 O1) (hS2 : ScL w a2 l2 O2) (hlen : l1 + l2 ≤ 7036874417560) :
    Calls Try.prog 6 #[.int .i64 size, .slice a1 l1 k1, .slice a2 l2 k2, .int .i64 c, .int .i64 x, .int .i64 y] w fun e w' => e = .returned (.bool true) ∧ Below w.heap.size w w' := by
  obtain ⟨sz, hsz⟩ : ∃ sz, sz = 8 + pickI size 60 := ⟨_, rfl⟩
  have C1 := begun_ga size hs1 hs2 w
  have C2 := fun W => begun_ga size hs1 hs2 W
  have C3 := fun W => change_any c x y W hc1 hc2 hx1 hx2 hy1 hy2
  unfold ChPost at C3
  rw [← hsz] at C1
  simp only [← hsz] at C2
  have HC2 : Hid _ := C2
  have HC3 : Hid _ := C3
  have HS1 : Hid (ScL w a1 l1 O1) := hS1
  have HS2 : Hid (ScL w a2 l2 O2) := hS2
  have HLN : Hid (l1 + l2 ≤ 7036874417560) := hlen
  clear C2 C3 hS1 hS2 hsz hs1 hs2 hc1 hc2 hx1 hx2 hy1 hy2
  go_enter Try.func6, Try.ntmps6
  go_wp2_with fail
  refine C1.mono ?_
  rintro e w1 ⟨A, rfl, G1⟩
  have C2 := HC2.out w1
  have HG1 : Hid (GB A.gb A.lo A.hi A.hb A.sv A.vs sz w w1) := G1
  clear C1 HC2 G1
  go_wp2_with fail
  refine C2.mono ?_
  rintro e w2 ⟨E, rfl, G2⟩
  have HT2 : Hid (TS2 (fun k => k < w.heap.size) w w2 A E sz 0 0 gL0 gL0) := TS2.starts HG1.out G2
  have C3 := HC3.out w2
  clear C2 HC3 G2 HG1
  go_wp2_with fail
  refine C3.mono ?_
  rintro e w3 ⟨⟨s, kk, xx, yy, tt, rfl, hu, hz⟩, B3⟩
  have T3 := HT2.out.below B3
  have HU : Hid (uE csL s = 0 ∧ s.size ≤ 9223372036854775807) := ⟨hu, by omega⟩
  have HT3 : Hid (TS2 (fun k => k < w.heap.size) w w3 A E sz 0 0 gL0 gL0) := T3
  clear C3 HT2 B3 T3 hu hz
  go_wp2_with fail
  obtain ⟨w4, hw4⟩ : ∃ w4, w4 = w3.alloc (.cells #[.string s, .int .i64 kk, .int .i64 xx, .int .i64 yy, .int .u8 tt] 52) := ⟨_, rfl⟩
  rw [← hw4]
  obtain ⟨tb, htb⟩ : ∃ tb, tb = w3.heap.size := ⟨_, rfl⟩
  rw [← htb]
  have t4 : w4.cell? ⟨tb, 0, none⟩ = some (.string s) := by rw [hw4, htb]; go_simp
  have T4 := HT3.out.alloc (.cells #[.string s, .int .i64 kk, .int .i64 xx, .int .i64 yy, .int .u8 tt] 52)
  rw [← hw4, ← htb] at T4
  obtain ⟨n, hn⟩ : ∃ n, n = w.heap.size := ⟨_, rfl⟩
  rw [← hn] at T4
  have HN : Hid (n = w.heap.size) := hn
  have HP4 : Hid (Prot (fun k => k < n) w w4) := T4.1
  have HT4 : Hid (TS2 (QT n tb) w4 w4 A E sz 0 0 gL0 gL0) := T4.2
  have H4 : Hid (w4.cell? ⟨tb, 0, none⟩ = some (.string s)) := t4
  obtain ⟨H, hH⟩ : ∃ H, H = scG sz gL0 O1 l1 := ⟨_, rfl⟩
  have HH : Hid (H.n ≤ l1) := by show H.n ≤ l1; rw [hH]; have := scG_n sz gL0 O1 l1; have e : gL0.n = 0 := rfl; omega
  have C5 := HT4.out.left (fn := 20) (args := #[.pointer (some ⟨A.gb, 0, none⟩), .slice a1 l1 k1]) (G1 := H) (fun P nv p hP L => by rw [hH]; exact gscript_any L a1 l1 k1 O1 (HS1.out.at HN.out HP4.out (Prot.refl (QT n tb) w4)) (HS1.out.inP HN.out hP) (by have := HLN.out; show 0 + l1 ≤ _; omega))
  have HHq : Hid (H = scG sz gL0 O1 l1) := hH
  clear HT3 T4 HT4 t4 hw4 htb hH hn
  refine C5.mono ?_
  rintro e w5 ⟨rfl, T5⟩
  have C6 := T5.right (fn := 20) (args := #[.pointer (some ⟨E.gb, 0, none⟩), .slice a1 l1 k1]) (G1 := H) (fun P nv p hP L => by rw [HHq.out]; exact gscript_any L a1 l1 k1 O1 (HS1.out.at HN.out HP4.out T5.1) (HS1.out.inP HN.out hP) (by have := HLN.out; show 0 + l1 ≤ _; omega))
  clear C5 T5
  go_wp2_with fail
  refine C6.mono ?_
  rintro e w6 ⟨rfl, T6⟩
  obtain ⟨g1, g2, g3, g4⟩ := T6.cells
  have t6 := (T6.1.cell (p := ⟨tb, 0, none⟩) (.inr rfl)).trans H4.out
  have C7 := (T6.below (Below.refl _ _).drew).beginR s HU.out.2 HU.out.1
  clear C6 T6
  go_upto_region 7 with fail
  go_cut [18, 19] from 44 to 53 (fun s18 s19 wx => s18 = .int .i64 0 ∧ (∃ z, s19 = .int .i64 z) ∧ ∃ y, y ≠ 0 ∧ TS2 (QT n tb) w4 wx A E sz 0 y H H)
  case first =>
    go_region_held3 (fun W => W.cell? ⟨E.gb, 0, none⟩ = some (.pointer (some ⟨E.hb, 0, none⟩)) ∧ W.cell? ⟨tb, 0, none⟩ = some (.string s)) (first | exact ⟨T7.cells.2.1, (T7.1.cell (p := ⟨tb, 0, none⟩) (.inr rfl)).trans H4.out⟩ | exact ⟨g2, t6⟩) (first | (go_at_call 16; refine C7.mono ?_; rintro e w7 ⟨⟨z, rfl⟩, y, hy, T7⟩))
    all_goals
      go_wp2_with fail
      go_meet
      exact ⟨rfl, ⟨_, rfl⟩, _, hy, T7⟩
  case rest =>
    rename World => w7
    obtain ⟨rfl, ⟨z, rfl⟩, y', hy', T7⟩ := hcut
    have HY : Hid (y' ≠ 0) := hy'
    have HT7 : Hid (TS2 (QT n tb) w4 w7 A E sz 0 y' H H) := T7
    clear C7 T7 hy' g1 g2 g3 g4 t6
    go_wp2
    go_loopw [16, 17, 18, 20] (fun s16 s17 s18 iv wr => ∃ i : Nat, i ≤ l2 ∧ iv = .int .i64 i ∧ s16 = .bool true ∧ s17 = .bool true ∧ s18 = .int .i64 0 ∧ Hid (TS2 (QT n tb) w4 wr A E sz 0 y' (scG sz H O2 i) (scG sz H O2 i))) (fun _ _ _ iv _ => l2 - (intOf iv).toNat)
    case atStart => exact ⟨0, by omega, rfl, rfl, rfl, rfl, HT7.out⟩
    case round =>
      clear HT7
      obtain ⟨i, hi', rfl, rfl, rfl, rfl, HT⟩ := hrel
      by_cases hlt : i < l2
      · obtain ⟨g, so, ea, hg, hcell⟩ := (HS2.out.at HN.out HP4.out (Prot.refl (QT n tb) w4)).row (by omega)
        obtain ⟨q0, q1, q2, q3, q4⟩ := hcell i hlt
        have ok := HS2.out.ok i hlt
        have hPg : QT n tb g := HS2.out.inP (tb := tb) HN.out (fun k hk => hk) (by omega) g so ea
        obtain ⟨o, ho⟩ : ∃ o, o = O2 i := ⟨_, rfl⟩
        obtain ⟨K, hK⟩ : ∃ K, K = scG sz H O2 i := ⟨_, rfl⟩
        obtain ⟨K', hK'⟩ : ∃ K', K' = scG sz H O2 (i + 1) := ⟨_, rfl⟩
        have HK' : Hid (K' = scG sz H O2 (i + 1)) := hK'
        have eK : K' = stG sz K o.k o.a o.b o.c o.v := by rw [hK', hK, ho]; rfl
        have bK : K.n + 1 ≤ 7036874417560 := by rw [hK]; have := scG_n sz H O2 i; have := HH.out; have := HLN.out; omega
        rw [← ho] at q0 q1 q2 q3 q4 ok
        have T0 := HT.out
        rw [← hK] at T0
        have C8 := T0.left (fn := 21) (args := #[.pointer (some ⟨A.gb, 0, none⟩), .agg #[.int .i64 o.k, .int .i64 o.a, .int .i64 o.b, .int .i64 o.c, .int .i64 o.v], .int .i64 8]) (G1 := K') (fun P nv p hP L => by rw [eK]; exact gplay_any L o.k o.a o.b o.c o.v ok.a1 ok.a2 ok.b1 ok.b2 ok.c1 ok.c2 ok.v1 ok.v2 bK)
        have HC9 : Hid (∀ W, TS2 (QT n tb) w4 W A E sz 0 y' K' K → Calls Try.prog 21 #[.pointer (some ⟨E.gb, 0, none⟩), .agg #[.int .i64 o.k, .int .i64 o.a, .int .i64 o.b, .int .i64 o.c, .int .i64 o.v], .int .i64 8] W fun e w' => e = .returned (.bool true) ∧ TS2 (QT n tb) w4 w' A E sz 0 y' K' K') := fun W T => T.right (G1 := K') (fun P nv p hP L => by rw [eK]; exact gplay_any L o.k o.a o.b o.c o.v ok.a1 ok.a2 ok.b1 ok.b2 ok.c1 ok.c2 ok.v1 ok.v2 bK)
        have PK := fun W => pick_any o.c 5 W (by decide) (by decide) ok.c1 ok.c2
        have bp := pickI_bd o.c 5 (by decide)
        obtain ⟨b, hb⟩ : ∃ b, b = pickI o.c 5 := ⟨_, rfl⟩
        rw [← hb] at bp
        simp only [← hb] at PK
        have z0a := (T0.1.cell (p := ⟨g, so + i * 5, none⟩) hPg).trans q0
        have z1a := (T0.1.cell (p := ⟨g, so + i * 5 + 1, none⟩) hPg).trans q1
        have z2a := (T0.1.cell (p := ⟨g, so + i * 5 + 2, none⟩) hPg).trans q2
        have z3a := (T0.1.cell (p := ⟨g, so + i * 5 + 3, none⟩) hPg).trans q3
        have z4a := (T0.1.cell (p := ⟨g, so + i * 5 + 4, none⟩) hPg).trans q4
        have hga : g < wr.heap.size := Nat.lt_of_lt_of_le hg T0.1.size
        have HQ : Hid (QT n tb g ∧ g < w4.heap.size ∧ w4.cell? ⟨g, so + i * 5, none⟩ = some (.int .i64 o.k) ∧ w4.cell? ⟨g, so + i * 5 + 1, none⟩ = some (.int .i64 o.a) ∧ w4.cell? ⟨g, so + i * 5 + 2, none⟩ = some (.int .i64 o.b) ∧ w4.cell? ⟨g, so + i * 5 + 3, none⟩ = some (.int .i64 o.c) ∧ w4.cell? ⟨g, so + i * 5 + 4, none⟩ = some (.int .i64 o.v)) := ⟨hPg, hg, q0, q1, q2, q3, q4⟩
        have hib : (0 : Int) ≤ (i : Int) ∧ (i : Int) < (l2 : Int) := by omega
        rw [ea]
        clear q0 q1 q2 q3 q4 hcell ok ho ea HT hPg hg T0 hK hK' eK bK hb
        obtain ⟨ok, oa, ob, oc, ov⟩ := o
        simp only [] at z0a z1a z2a z3a z4a C8 HC9 PK HQ
        go_wp2_with fail
        refine C8.mono ?_
        rintro e w8 ⟨rfl, T8⟩
        have C9 := HC9.out _ T8
        obtain ⟨hPg, hg, q0, q1, q2, q3, q4⟩ := HQ.out
        have z0b := (T8.1.cell (p := ⟨g, so + i * 5, none⟩) hPg).trans q0
        have z1b := (T8.1.cell (p := ⟨g, so + i * 5 + 1, none⟩) hPg).trans q1
        have z2b := (T8.1.cell (p := ⟨g, so + i * 5 + 2, none⟩) hPg).trans q2
        have z3b := (T8.1.cell (p := ⟨g, so + i * 5 + 3, none⟩) hPg).trans q3
        have z4b := (T8.1.cell (p := ⟨g, so + i * 5 + 4, none⟩) hPg).trans q4
        have hgb : g < w8.heap.size := Nat.lt_of_lt_of_le hg T8.1.size
        clear C8 z0a z1a z2a z3a z4a hga HC9 T8 hPg hg q0 q1 q2 q3 q4
        go_wp2_with fail
        refine C9.mono ?_
        rintro e w9 ⟨rfl, T9⟩
        have z3c := (T9.1.cell (p := ⟨g, so + i * 5 + 3, none⟩) HQ.out.1).trans HQ.out.2.2.2.2.2.1
        have hgc : g < w9.heap.size := Nat.lt_of_lt_of_le HQ.out.2.1 T9.1.size
        obtain ⟨_, g2, _, g4⟩ := T9.cells
        have HT9 : Hid (TS2 (QT n tb) w4 w9 A E sz 0 y' K' K') := T9
        clear C9 z0b z1b z2b z3b z4b hgb HQ T9
        go_wp2
        go_quiet (first | (go_at_call 12; exact (PK _).mono fun _ _ h => ⟨h.1, _, h.2⟩) | (go_at_call 22; exact ((HT9.out.below (gb_below_drewN _ _)).step HY.out _ (by omega)).mono fun _ _ h => ⟨h.1, _, h.2⟩))
        go_wp2
        refine ⟨⟨i + 1, by omega, rfl, rfl, rfl, rfl, ?_⟩, by simp [intOf]; omega⟩
        rw [← HK'.out]
        exact HT9.out.below (gb_below_drewN _ _)
      · obtain rfl : i = l2 := by omega
        obtain ⟨F, hF⟩ : ∃ F, F = scG sz H O2 i := ⟨_, rfl⟩
        have HF : Hid (F.n ≤ 7036874417560) := by show F.n ≤ _; rw [hF]; have := scG_n sz H O2 i; have := HH.out; have := HLN.out; omega
        have T0 := HT.out
        rw [← hF] at T0
        obtain ⟨g1, g2, g3, g4⟩ := T0.cells
        have t6 := (T0.1.cell (p := ⟨tb, 0, none⟩) (.inr rfl)).trans H4.out
        have C10 := (T0.below (Below.refl _ _).drew).beginL s HU.out.2 HU.out.1
        clear HT T0 hF
        go_upto_region 18 with fail
        go_cut [18] from 107 to 116 (fun s18 wx => s18 = .int .i64 0 ∧ ∃ x, x ≠ 0 ∧ TS2 (QT n tb) w4 wx A E sz x y' F F)
        case first =>
          go_region_held3 (fun W => W.cell? ⟨A.gb, 0, none⟩ = some (.pointer (some ⟨A.hb, 0, none⟩)) ∧ W.cell? ⟨tb, 0, none⟩ = some (.string s)) (first | exact ⟨Ta.cells.1, (Ta.1.cell (p := ⟨tb, 0, none⟩) (.inr rfl)).trans H4.out⟩ | exact ⟨g1, t6⟩) (first | (go_at_call 16; refine C10.mono ?_; rintro e wa ⟨⟨z, rfl⟩, x, hx, Ta⟩))
          all_goals
            go_wp2_with fail
            go_meet
            exact ⟨rfl, _, hx, Ta⟩
        case rest =>
          rename World => wa
          obtain ⟨rfl, x', hx', Ta⟩ := hcut
          clear g1 g2 g3 g4 t6 C10
          obtain ⟨g1, g2, g3, g4⟩ := Ta.cells
          have R1 := Ta.readyL hx'
          have R2 := Ta.readyR HY.out
          have M1 := commit_stub A.hb wa
          have M2 := commit_stub E.hb wa
          have C11 := (Ta.below (Below.refl _ _).drew).alike HF.out
          clear Ta
          go_wp2_with fail
          refine R1.mono ?_
          rintro e wb ⟨rfl, rfl⟩
          go_wp2_with fail
          refine R2.mono ?_
          rintro e wb ⟨rfl, rfl⟩
          go_wp2_with fail
          refine M1.mono ?_
          rintro e wb ⟨rfl, rfl⟩
          go_wp2_with fail
          refine M2.mono ?_
          rintro e wb ⟨rfl, rfl⟩
          clear R1 R2 M1 M2
          go_upto_region 25 with fail
          go_cut [23] from 152 to 160 (fun s23 wx => s23 = .bool true ∧ TS2 (QT n tb) w4 wx A E sz x' y' F F)
          case first =>
            go_region_held3 (fun W => W.cell? ⟨A.gb, 0, none⟩ = some (.pointer (some ⟨A.hb, 0, none⟩)) ∧ W.cell? ⟨E.gb, 0, none⟩ = some (.pointer (some ⟨E.hb, 0, none⟩))) (first | exact ⟨Tc.cells.1, Tc.cells.2.1⟩ | exact ⟨g1, g2⟩) (first | (go_at_call 25; refine C11.mono ?_; rintro e wc ⟨rfl, Tc⟩))
            all_goals
              go_wp2_with fail
              go_meet
              exact ⟨rfl, Tc⟩
          case rest =>
            rename World => wc
            obtain ⟨rfl, Tc⟩ := hcut
            clear g1 g2 g3 g4 C11
            obtain ⟨g1, g2, g3, g4⟩ := Tc.cells
            have C12 := (Tc.below (Below.refl _ _).drew).trail HF.out
            clear Tc
            go_wp2
            go_region_held3 (fun W => W.cell? ⟨A.gb, 0, none⟩ = some (.pointer (some ⟨A.hb, 0, none⟩)) ∧ W.cell? ⟨E.gb, 0, none⟩ = some (.pointer (some ⟨E.hb, 0, none⟩))) (first | exact ⟨Ld, Le⟩ | exact ⟨g1, g2⟩) (first | (go_at_call 26; refine C12.mono ?_; rintro e wd ⟨rfl, Pd, Ld, Le⟩))
            all_goals
              go_wp2
              go_ret
              rw [← HN.out]
              exact ⟨rfl, (HP4.out.trans (Pd.sub fun k hk => .inl hk)).toBelow⟩
end Go.Proofs.Ytbgilndohccicab
