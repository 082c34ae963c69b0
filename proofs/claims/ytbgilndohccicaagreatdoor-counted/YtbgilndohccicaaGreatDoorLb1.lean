import Derived.Test.YtbgilndohccicaaGreatDoorLaB
import Derived.BigRegion
namespace Go.Proofs.YtbgilndohccicaaGreatDoor
open Go.RowKit

set_option maxRecDepth 20000 in
set_option maxHeartbeats 1000000 in
theorem changes_none (hb rb : Nat) (o : OpV) (w : World) (hk : o.k ≤ 0) :
    Calls Tryz.prog 15 #[.agg #[.pointer (some ⟨hb, 0, none⟩), .pointer (some ⟨rb, 0, none⟩)], o.val] w fun e w' => e = .returned (.bool true) ∧ Below w.heap.size w w' := by
  obtain ⟨ok, om, oa, ob, oc, ov, os, ot⟩ := o
  simp only [OpV.val] at *
  have n1 : (ok == 16) = false := by simp; omega
  have n2 : (ok == 17) = false := by simp; omega
  have n3 : (ok == 18) = false := by simp; omega
  have n4 : (ok == 20) = false := by simp; omega
  have n5 : (ok == 19) = false := by simp; omega
  go_enter Tryz.func15, Tryz.ntmps15
  go_wp2
  go_ret
  exact ⟨rfl, ((Below.refl _ _).alloc (Nat.le_refl _) _).alloc (by simp) _⟩
theorem tmod_in (m : Int) (n : Nat) (hn : 0 < n) : ∃ j : Nat, (m.tmod n + n).tmod n = j ∧ j < n := by
  have hb0 : (0 : Int) < n := by omega
  have h1 : -(n : Int) < m.tmod n := by
    rw [Int.tmod_eq_emod]
    have a1 := Int.emod_nonneg m (b := n) (by omega)
    split
    · omega
    · rename_i hh
      have : m % n ≠ 0 := fun e => hh (.inr (Int.dvd_of_emod_eq_zero e))
      simp; omega
  have h2 : (0 : Int) ≤ m.tmod n + n := by omega
  refine ⟨((m.tmod n + n).tmod n).toNat, ?_, ?_⟩
  · rw [Int.tmod_eq_emod_of_nonneg h2]
    have := Int.emod_nonneg (m.tmod n + n) (b := n) (by omega)
    omega
  · rw [Int.tmod_eq_emod_of_nonneg h2]
    have a1 := Int.emod_nonneg (m.tmod n + n) (b := n) (by omega)
    have a2 := Int.emod_lt_of_pos (m.tmod n + n) hb0
    omega
theorem tmod_lt' (m : Int) (n : Nat) (hn : 0 < n) : m.tmod n < n ∧ -(n : Int) < m.tmod n := by
  have hb0 : (0 : Int) < n := by omega
  rw [Int.tmod_eq_emod]
  have a1 := Int.emod_nonneg m (b := n) (by omega)
  have a2 := Int.emod_lt_of_pos m hb0
  split
  · omega
  · rename_i hh
    have : m % n ≠ 0 := fun e => hh (.inr (Int.dvd_of_emod_eq_zero e))
    simp; omega
def StPost (B wb : Nat) (v : Value) (ps : List PQ) (mx : Nat) (w : World) (e : Ending) (w' : World) : Prop := e = .returned (.bool true) ∧ (Below B w w' ∧ GS w w' (wsS wb v ps)) ∧ ∃ v' ps', WS B w' wb v' ps' (mx + 1) ∧ ps.length ≤ ps'.length ∧ ps'.length ≤ ps.length + 1
theorem WS.call {B wb : Nat} {v : Value} {ps : List PQ} {mx : Nat} {WA W : World} (h : WS B WA wb v ps mx) (j hb rb : Nat) (d : PD) (hq : ps[j]? = some (hb, rb, d)) (hW : Below WA.heap.size WA W) {f : FuncId} {args : Array Value} (C : PairOK W hb rb d mx → d.lo ≤ hb → Calls Tryz.prog f args W (LPost hb rb d mx W)) :
    Calls Tryz.prog f args W fun e w' => e = .returned (.bool true) ∧ (Below B W w' ∧ GS W w' (wsS wb v ps)) ∧ ∃ v' ps', WS B w' wb v' ps' (mx + 1) ∧ ps.length ≤ ps'.length ∧ ps'.length ≤ ps.length + 1 := by
  have hC := h.below hW (Nat.le_refl mx)
  obtain ⟨a1, a2⟩ := hC.ok j _ hq
  refine (C a2 a1).mono ?_
  rintro e w' ⟨rfl, d', hlo, hp, gs, hfp⟩
  obtain ⟨b1, b2⟩ := hC.step j (hb, rb, d) hq d' hlo hp gs hfp
  exact ⟨rfl, ⟨b2, gs.mono fun k hk => .inr (.inr ⟨j, _, hq, hk⟩)⟩, v, _, b1, by simp, by simp⟩
set_option maxRecDepth 20000 in
set_option maxHeartbeats 2000000 in
theorem step_any (B wb : Nat) (v : Value) (ps : List PQ) (mx : Nat) (o : OpV) (w : World) (h : WS B w wb v ps mx) (ho : o.ok) (hk : o.k ≤ 11) (hE : Ends w) (hE0 : 0 < B) (hl : ps.length ≤ 2199023255552) (hmx : mx < 4398046511104) (hp0 : 0 < ps.length) :
    Calls Tryz.prog 9 #[.pointer (some ⟨wb, 0, none⟩), o.val] w (StPost B wb v ps mx w) := by
  have hwl := h.lt
  have hBw : B ≤ w.heap.size := by have := h.wbB; omega
  have HO : Hid (o.ok) := ho
  have BA : Below w.heap.size w (w.alloc (.cells o.cells 31)) := (Below.refl _ _).alloc (Nat.le_refl _) _
  have hA := h.below BA (Nat.le_refl mx)
  have HA : Hid (WS B (w.alloc (.cells o.cells 31)) wb v ps mx) := hA
  have HEA : Hid (Ends (w.alloc (.cells o.cells 31))) := hE.below BA
  have HBA : Hid (Below w.heap.size w (w.alloc (.cells o.cells 31))) := BA
  by_cases h1 : o.k = 1
  · have C := begin_any B wb v ps mx o.s o.a _ hA ho.s (hE.below BA) hE0 (by omega)
    unfold StPost
    obtain ⟨ok, om, oa, ob, oc, ov, os, ot⟩ := o
    simp only [OpV.val, OpV.cells] at *
    subst h1
    clear h ho hE hA BA
    go_enter Tryz.func9, Tryz.ntmps9
    go_wp2_with fail
    refine C.mono ?_
    rintro e w1 ⟨rfl, B1, v', ps', W1, l1, l2⟩
    have HL : Hid ((Below B w w1 ∧ GS w w1 (wsS wb v ps)) ∧ ∃ v' ps', WS B w1 wb v' ps' (mx + 1) ∧ ps.length ≤ ps'.length ∧ ps'.length ≤ ps.length + 1) := ⟨⟨(HBA.out.mono hBw).trans B1.1, GS.below HBA.out B1.2⟩, v', ps', W1.below (Below.refl _ _) (by omega), l1, l2.1⟩
    clear C B1 W1
    go_wp2
    go_ret
    exact ⟨rfl, HL.out.1, HL.out.2⟩
  · obtain ⟨j, hj, hjn⟩ := tmod_in o.m ps.length hp0
    obtain ⟨⟨hb, rb, d⟩, hq⟩ : ∃ q, ps[j]? = some q := ⟨_, List.getElem?_eq_getElem hjn⟩
    obtain ⟨g, cap, ev, hg, c0, c1⟩ := hA.cells j _ hq
    simp only [] at c0 c1
    have cw := hA.c
    rw [ev] at cw
    have tl := tmod_lt' o.m ps.length hp0
    have hw1 : IntKind.i64.wrap (o.m.tmod ps.length + ps.length) = o.m.tmod ps.length + ps.length := by rw [IntKind.wrap_i64]; omega
    have HQ : Hid (ps[j]? = some (hb, rb, d)) := hq
    have HV : Hid (v = .slice (some ⟨g, 0, none⟩) ps.length cap) := ev
    obtain ⟨n, hn⟩ : ∃ n, n = ps.length := ⟨_, rfl⟩
    have HN : Hid (n = ps.length) := hn
    rw [← hn] at cw hj hjn hw1 tl hp0 hl
    have hn0 : ((n : Int) == 0) = false := by simp; omega
    have hnb : (0 : Int) < (n : Int) := by omega
    have hjb : (0 : Int) ≤ (j : Int) ∧ (j : Int) < (n : Int) := by omega
    have n1 : (o.k == 1) = false := by simpa using h1
    have n2 : decide (12 ≤ o.k) = false := decide_eq_false (by omega)
    unfold StPost
    obtain ⟨ok, om, oa, ob, oc, ov, os, ot⟩ := o
    simp only [OpV.val, OpV.cells] at *
    clear h ho hE hA BA hq ev hn
    go_enter Tryz.func9, Tryz.ntmps9
    go_wp2
    have y0 : (w.alloc (.cells #[.int .i64 ok, .int .i64 om, .int .i64 oa, .int .i64 ob, .int .u8 oc, .int .i64 ov, .string os, .string ot] 31)).cell? ⟨w.heap.size, 0, none⟩ = some (.int .i64 ok) := by go_simp
    have y1 : (w.alloc (.cells #[.int .i64 ok, .int .i64 om, .int .i64 oa, .int .i64 ob, .int .u8 oc, .int .i64 ov, .string os, .string ot] 31)).cell? ⟨w.heap.size, 1, none⟩ = some (.int .i64 om) := by go_simp
    have y2 : (w.alloc (.cells #[.int .i64 ok, .int .i64 om, .int .i64 oa, .int .i64 ob, .int .u8 oc, .int .i64 ov, .string os, .string ot] 31)).cell? ⟨w.heap.size, 2, none⟩ = some (.int .i64 oa) := by go_simp
    have y3 : (w.alloc (.cells #[.int .i64 ok, .int .i64 om, .int .i64 oa, .int .i64 ob, .int .u8 oc, .int .i64 ov, .string os, .string ot] 31)).cell? ⟨w.heap.size, 3, none⟩ = some (.int .i64 ob) := by go_simp
    have y4 : (w.alloc (.cells #[.int .i64 ok, .int .i64 om, .int .i64 oa, .int .i64 ob, .int .u8 oc, .int .i64 ov, .string os, .string ot] 31)).cell? ⟨w.heap.size, 4, none⟩ = some (.int .u8 oc) := by go_simp
    have y5 : (w.alloc (.cells #[.int .i64 ok, .int .i64 om, .int .i64 oa, .int .i64 ob, .int .u8 oc, .int .i64 ov, .string os, .string ot] 31)).cell? ⟨w.heap.size, 5, none⟩ = some (.int .i64 ov) := by go_simp
    have y6 : (w.alloc (.cells #[.int .i64 ok, .int .i64 om, .int .i64 oa, .int .i64 ob, .int .u8 oc, .int .i64 ov, .string os, .string ot] 31)).cell? ⟨w.heap.size, 6, none⟩ = some (.string os) := by go_simp
    have y7 : (w.alloc (.cells #[.int .i64 ok, .int .i64 om, .int .i64 oa, .int .i64 ob, .int .u8 oc, .int .i64 ov, .string os, .string ot] 31)).cell? ⟨w.heap.size, 7, none⟩ = some (.string ot) := by go_simp
    have hlt : w.heap.size < (w.alloc (.cells #[.int .i64 ok, .int .i64 om, .int .i64 oa, .int .i64 ob, .int .u8 oc, .int .i64 ov, .string os, .string ot] 31)).heap.size := by simp
    have hwA : wb < (w.alloc (.cells #[.int .i64 ok, .int .i64 om, .int .i64 oa, .int .i64 ob, .int .u8 oc, .int .i64 ov, .string os, .string ot] 31)).heap.size := by simp; omega
    have hgA : g < (w.alloc (.cells #[.int .i64 ok, .int .i64 om, .int .i64 oa, .int .i64 ob, .int .u8 oc, .int .i64 ov, .string os, .string ot] 31)).heap.size := hg
    have hnz : ¬ n = 0 := by omega
    generalize (w.alloc (.cells #[.int .i64 ok, .int .i64 om, .int .i64 oa, .int .i64 ob, .int .u8 oc, .int .i64 ov, .string os, .string ot] 31)) = WA at *
    have FN : Hid (∀ W, Below WA.heap.size WA W → 2 ≤ ok → ok ≤ 5 → Calls Tryz.prog 13 #[.agg #[.pointer (some ⟨hb, 0, none⟩), .pointer (some ⟨rb, 0, none⟩)], .agg #[.int .i64 ok, .int .i64 om, .int .i64 oa, .int .i64 ob, .int .u8 oc, .int .i64 ov, .string os, .string ot]] W fun e w' => e = .returned (.bool true) ∧ (Below B W w' ∧ GS W w' (wsS wb v ps)) ∧ ∃ v' ps', WS B w' wb v' ps' (mx + 1) ∧ ps.length ≤ ps'.length ∧ ps'.length ≤ ps.length + 1) :=
      fun W hW k1 k2 => HA.out.call j hb rb d HQ.out hW fun p1 p2 => numbers_any hb rb d mx ⟨ok, om, oa, ob, oc, ov, os, ot⟩ W p1 p2 hmx HO.out k1 k2
    have FL : Hid (∀ W, Below WA.heap.size WA W → 6 ≤ ok → ok ≤ 11 → Calls Tryz.prog 14 #[.agg #[.pointer (some ⟨hb, 0, none⟩), .pointer (some ⟨rb, 0, none⟩)], .agg #[.int .i64 ok, .int .i64 om, .int .i64 oa, .int .i64 ob, .int .u8 oc, .int .i64 ov, .string os, .string ot]] W fun e w' => e = .returned (.bool true) ∧ (Below B W w' ∧ GS W w' (wsS wb v ps)) ∧ ∃ v' ps', WS B w' wb v' ps' (mx + 1) ∧ ps.length ≤ ps'.length ∧ ps'.length ≤ ps.length + 1) :=
      fun W hW k1 k2 => HA.out.call j hb rb d HQ.out hW fun p1 p2 => links_any hb rb d mx ⟨ok, om, oa, ob, oc, ov, os, ot⟩ W p1 p2 hmx HO.out k1 k2
    have FC : Hid (∀ W, Below WA.heap.size WA W → ok ≤ 0 → Calls Tryz.prog 15 #[.agg #[.pointer (some ⟨hb, 0, none⟩), .pointer (some ⟨rb, 0, none⟩)], .agg #[.int .i64 ok, .int .i64 om, .int .i64 oa, .int .i64 ob, .int .u8 oc, .int .i64 ov, .string os, .string ot]] W fun e w' => e = .returned (.bool true) ∧ (Below B W w' ∧ GS W w' (wsS wb v ps)) ∧ ∃ v' ps', WS B w' wb v' ps' (mx + 1) ∧ ps.length ≤ ps'.length ∧ ps'.length ≤ ps.length + 1) := by
      intro W hW k1
      refine (changes_none hb rb ⟨ok, om, oa, ob, oc, ov, os, ot⟩ W k1).mono ?_
      rintro e w' ⟨rfl, B1⟩
      have hBW : B ≤ W.heap.size := by have := HA.out.lt; have := HA.out.wbB; have := hW.size; omega
      exact ⟨rfl, ⟨B1.mono hBW, GS.of_below B1⟩, v, ps, (HA.out.below hW (Nat.le_refl _)).below B1 (by omega), Nat.le_refl _, by omega⟩
    have BWA : Below WA.heap.size WA ((WA.alloc (.cells #[.pointer (some ⟨hb, 0, none⟩), .pointer (some ⟨rb, 0, none⟩)] 41)).drew) := ((Below.refl _ _).alloc (Nat.le_refl _) _).drew
    have HBW : Hid (Below B w ((WA.alloc (.cells #[.pointer (some ⟨hb, 0, none⟩), .pointer (some ⟨rb, 0, none⟩)] 41)).drew)) := (HBA.out.mono hBw).trans (BWA.mono (by have := HA.out.lt; have := HA.out.wbB; omega))
    have HBW2 : Hid (Below w.heap.size w ((WA.alloc (.cells #[.pointer (some ⟨hb, 0, none⟩), .pointer (some ⟨rb, 0, none⟩)] 41)).drew)) := HBA.out.trans (BWA.mono HBA.out.size)
    have F1 := FN.out _ BWA
    have F2 := FL.out _ BWA
    have F3 := FC.out _ BWA
    clear FN FL FC BWA
    go_region
    all_goals
      by_cases k5 : 2 ≤ ok ∧ ok ≤ 5
      · have F := F1 k5.1 k5.2
        have ka := k5.1
        have kb := k5.2
        have d1 : decide (2 ≤ ok) = true := decide_eq_true ka
        clear F1 F2 F3
        go_wp2_with fail
        refine F.mono ?_
        rintro e w2 ⟨rfl, B2, hex⟩
        have HL : Hid ((Below B w w2 ∧ GS w w2 (wsS wb v ps)) ∧ ∃ v' ps', WS B w2 wb v' ps' (mx + 1) ∧ ps.length ≤ ps'.length ∧ ps'.length ≤ ps.length + 1) := ⟨⟨HBW.out.trans B2.1, GS.below HBW2.out B2.2⟩, hex⟩
        clear F B2 hex
        go_wp2
        go_ret
        exact ⟨rfl, HL.out.1, HL.out.2⟩
      · by_cases k11 : 6 ≤ ok
        · have F := F2 k11 hk
          have d1 : decide (ok ≤ 5) = false := decide_eq_false (by omega)
          clear F1 F2 F3
          go_wp2_with fail
          refine F.mono ?_
          rintro e w2 ⟨rfl, B2, hex⟩
          have HL : Hid ((Below B w w2 ∧ GS w w2 (wsS wb v ps)) ∧ ∃ v' ps', WS B w2 wb v' ps' (mx + 1) ∧ ps.length ≤ ps'.length ∧ ps'.length ≤ ps.length + 1) := ⟨⟨HBW.out.trans B2.1, GS.below HBW2.out B2.2⟩, hex⟩
          clear F B2 hex
          go_wp2
          go_ret
          exact ⟨rfl, HL.out.1, HL.out.2⟩
        · have k0 : ok ≤ 0 := by omega
          have F := F3 k0
          have d1 : decide (2 ≤ ok) = false := decide_eq_false (by omega)
          have d2 : decide (6 ≤ ok) = false := decide_eq_false (by omega)
          clear F1 F2 F3
          go_wp2_with fail
          refine F.mono ?_
          rintro e w2 ⟨rfl, B2, hex⟩
          have HL : Hid ((Below B w w2 ∧ GS w w2 (wsS wb v ps)) ∧ ∃ v' ps', WS B w2 wb v' ps' (mx + 1) ∧ ps.length ≤ ps'.length ∧ ps'.length ≤ ps.length + 1) := ⟨⟨HBW.out.trans B2.1, GS.below HBW2.out B2.2⟩, hex⟩
          clear F B2 hex
          go_wp2
          go_ret
          exact ⟨rfl, HL.out.1, HL.out.2⟩
end Go.Proofs.YtbgilndohccicaaGreatDoor
