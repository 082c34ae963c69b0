import Derived.Test.YtbgilndohccicaaGreatDoorLb2
import Derived.Test.YtbgilndohccicaaGreatDoorRows
import Derived.Test.YtbgilndohccicaaGreatDoorTie
import Derived.Test.YtbgilndohccicaaGreatDoorCards
import Derived.ProofKit
import Derived.LaidMore
import Derived.OpenShut
import Derived.ShutString
import Derived.ChangeOld
import Derived.Below
import Derived.Stop.Joined
import Derived.SevenTiedAt
namespace Go.Proofs.YtbgilndohccicaaGreatDoor
open Go.ChangeShapes Go.WideShapes Go.ChangeAt Go.WideMaps Go.WideElems Go.RowKit

theorem own : ownKnob Tryz.prog.godebug = none := by kernel_rfl
theorem laidOut : laidOutB Tryz.prog = true := by kernel_rfl
theorem gEnds : Tryz.prog.globalNamed "remake/remakeref.ends" = some 0 := by kernel_rfl
theorem tEnds : (Tryz.prog.globals[0]?).map (·.type) = some 188 := by kernel_rfl
theorem cOp : Tryz.prog.cellsOf 31 = 8 := by kernel_rfl
theorem cInt : Tryz.prog.cellsOf 3 = 1 := by kernel_rfl
theorem cU8 : Tryz.prog.cellsOf 5 = 1 := by kernel_rfl
theorem cI64 : Tryz.prog.cellsOf 2 = 1 := by kernel_rfl
theorem cStr : Tryz.prog.cellsOf 9 = 1 := by kernel_rfl
theorem bOp : Tryz.prog.bytesOf 31 = 80 := by kernel_rfl
theorem door_met (os : Os) (args : Array Value) : laidMetH Tryz.prog [("remake/remakeref.ends", Rows.laid_remake_remakeref_ends)] ((World.doorLaid Tryz.prog 400 os).forCall (fun _ _ => 0) ⟨#[], args, []⟩).memory :=
  laidMetH_of_parts3 (fuel := 8) (laidMet_of_run' 8 (by kernel_rfl) (by kernel_rfl)) (by kernel_rfl) (by kernel_rfl)

set_option maxRecDepth 20000 in
theorem of_laid {W : World} (h : laidMetH Tryz.prog [("remake/remakeref.ends", Rows.laid_remake_remakeref_ends)] W) : Ends W := by
  rw [MakeChecks.laidMetH_plain _ _ _ (by kernel_rfl)] at h
  obtain ⟨ps, ⟨g0, t0, cs0, f0, p0, q0, hg0, ht0, hv0, hd0, _, _⟩, _, _⟩ := h
  obtain rfl := Option.some.inj (gEnds.symm.trans hg0)
  obtain rfl := Option.some.inj (tEnds.symm.trans ht0)
  obtain ⟨xs, m1, rfl, hx1, hlen, hn3, hel⟩ := DataW.trod_array Tryz.underlying188 hd0
  simp only [Prod.mk.injEq, Rows.laid_remake_remakeref_ends, DataW.agg.injEq] at hx1
  have hmap := hx1.1
  have hcell : ∀ k, k < 7 → W.cell? ⟨0, k, none⟩ = some (.string (E k)) := by
    intro k hk
    have hk' := hel k hk
    rw [cStr, List.getElem?_eq_getElem (by omega)] at hk'
    obtain ⟨s, e1, e2, _⟩ := DataW.trod_string Tryz.underlying9 hk'
    have hv := World.var?_cell hg0 hv0 k
    have hc : cs0[k]? = some (.string s) := by
      rw [Nat.mul_one] at e1
      have : (cs0.toList.drop k)[0]? = some (.string s) := by
        have h0 : ((cs0.toList.drop k).take 1)[0]? = some (.string s) := by rw [e1]; rfl
        simpa using h0
      simpa using this
    rw [hv, hc]
    have hm : (xs.map (·.1))[k]? = some (.lit (.string s.data.toList)) := by
      rw [List.getElem?_map, List.getElem?_eq_getElem (by omega), e2]; rfl
    rw [← hmap] at hm
    have he : s.data.toList = (E k).data.toList := by
      match k, hk with
      | 0, _ | 1, _ | 2, _ | 3, _ | 4, _ | 5, _ | 6, _ => simp at hm; simp [E, ← hm]
    have : s = E k := by
      cases s; cases hE : E k
      rw [hE] at he
      simp only at he
      congr
      exact Array.toList_inj.1 he
    rw [this]
  exact ⟨World.block_lt_of_cell? W ⟨0, 0, none⟩ (hcell 0 (by omega)), hcell⟩
theorem take_at {cs : List Value} {k : Nat} {v : Value} (h : (cs.drop k).take 1 = [v]) : cs[k]? = some v := by
  have h0 : ((cs.drop k).take 1)[0]? = some v := by rw [h]; rfl
  simpa using h0

section
variable {H : Type} {enc : TypeId × Value → H}
set_option maxRecDepth 20000 in
/-- One call of the script. -/
theorem open_op {W : World} {cs : List Value} {x : DataW H × List MemPlace} {fuel : Nat} (h : DataW.trod enc Tryz.prog W 0 (fun _ => true) true fuel 31 cs = some x) :
    ∃ o : OpV, o.ok ∧ cs[0]? = some (.int .i64 o.k) ∧ cs[1]? = some (.int .i64 o.m) ∧ cs[2]? = some (.int .i64 o.a) ∧ cs[3]? = some (.int .i64 o.b) ∧ cs[4]? = some (.int .u8 o.c) ∧ cs[5]? = some (.int .i64 o.v) ∧ cs[6]? = some (.string o.s) ∧ cs[7]? = some (.string o.t) := by
  obtain ⟨xs, n, rfl, hx, hl, hn, hf⟩ := DataW.trod_struct Tryz.underlying31 h
  have hn8 : xs.length = 8 := hn
  have g : ∀ i, i < 8 → xs[i]? = some (xs[i]?.getD (.nil, [])) := fun i hi => by rw [List.getElem?_eq_getElem (by omega)]; rfl
  obtain ⟨n0, e0, _, b0⟩ := DataW.trod_int Tryz.underlying3 ((hf 0 _ rfl).trans (g 0 (by omega)))
  obtain ⟨n1, e1, _, b1⟩ := DataW.trod_int Tryz.underlying3 ((hf 1 _ rfl).trans (g 1 (by omega)))
  obtain ⟨n2, e2, _, b2⟩ := DataW.trod_int Tryz.underlying3 ((hf 2 _ rfl).trans (g 2 (by omega)))
  obtain ⟨n3, e3, _, b3⟩ := DataW.trod_int Tryz.underlying3 ((hf 3 _ rfl).trans (g 3 (by omega)))
  obtain ⟨n4, e4, _, b4⟩ := DataW.trod_int Tryz.underlying5 ((hf 4 _ rfl).trans (g 4 (by omega)))
  obtain ⟨n5, e5, _, b5⟩ := DataW.trod_int Tryz.underlying2 ((hf 5 _ rfl).trans (g 5 (by omega)))
  obtain ⟨s6, e6, _, b6⟩ := DataW.trod_string Tryz.underlying9 ((hf 6 _ rfl).trans (g 6 (by omega)))
  obtain ⟨s7, e7, _, b7⟩ := DataW.trod_string Tryz.underlying9 ((hf 7 _ rfl).trans (g 7 (by omega)))
  have f0 : (cs.drop 0).take (Tryz.prog.cellsOf 3) = [.int .i64 n0] := e0
  have f1 : (cs.drop 1).take (Tryz.prog.cellsOf 3) = [.int .i64 n1] := e1
  have f2 : (cs.drop 2).take (Tryz.prog.cellsOf 3) = [.int .i64 n2] := e2
  have f3 : (cs.drop 3).take (Tryz.prog.cellsOf 3) = [.int .i64 n3] := e3
  have f4 : (cs.drop 4).take (Tryz.prog.cellsOf 5) = [.int .u8 n4] := e4
  have f5 : (cs.drop 5).take (Tryz.prog.cellsOf 2) = [.int .i64 n5] := e5
  have f6 : (cs.drop 6).take (Tryz.prog.cellsOf 9) = [.string s6] := e6
  have f7 : (cs.drop 7).take (Tryz.prog.cellsOf 9) = [.string s7] := e7
  rw [cInt] at f0 f1 f2 f3
  rw [cU8] at f4
  rw [cI64] at f5
  rw [cStr] at f6 f7
  unfold maxLen at b6 b7
  exact ⟨⟨n0, n1, n2, n3, n4, n5, s6, s7⟩, ⟨(bounds_i64 b5).1, (bounds_i64 b5).2, b6, b7, (bounds_i64 b1).1, (bounds_i64 b1).2⟩, take_at f0, take_at f1, take_at f2, take_at f3, take_at f4, take_at f5, take_at f6, take_at f7⟩
/-- The script. -/
theorem open_ops {W : World} {c0 : Value} {d : DataW H} {p : List MemPlace} {fuel : Nat} (h : DataW.trod enc Tryz.prog W 0 (fun _ => true) true fuel 22 [c0] = some (d, p)) :
    ∃ a len cap O, c0 = .slice a len cap ∧ Sc W a len O ∧ ((len = 0) ∨ ∃ el sp, d = .slice el sp ∧ el.length = len) := by
  rcases DataW.trod_slice Tryz.underlying22 h with ⟨hc, _⟩ | ⟨a, len, cap, el, rest, n, rfl, hc, hx, _, hl, hm, hel, hall, _, _⟩
  · simp only [List.cons.injEq, and_true] at hc
    exact ⟨none, 0, 0, fun _ => ⟨0, 0, 0, 0, 0, 0, ⟨#[]⟩, ⟨#[]⟩⟩, hc, ⟨fun h => by omega, fun i h => by omega⟩, .inl rfl⟩
  · simp only [List.cons.injEq, and_true] at hc
    have hex : ∀ i, ∃ o : OpV, i < len → o.ok ∧ W.cell? (a.add (i * 8)) = some (.int .i64 o.k) ∧ W.cell? ((a.add (i * 8)).add 1) = some (.int .i64 o.m) ∧ W.cell? ((a.add (i * 8)).add 2) = some (.int .i64 o.a) ∧ W.cell? ((a.add (i * 8)).add 3) = some (.int .i64 o.b) ∧ W.cell? ((a.add (i * 8)).add 4) = some (.int .u8 o.c) ∧ W.cell? ((a.add (i * 8)).add 5) = some (.int .i64 o.v) ∧ W.cell? ((a.add (i * 8)).add 6) = some (.string o.s) ∧ W.cell? ((a.add (i * 8)).add 7) = some (.string o.t) := by
      intro i
      by_cases hi : i < len
      · have := hall i hi
        rw [List.getElem?_eq_getElem (by omega), cOp] at this
        obtain ⟨cs, hcs, ht⟩ := Option.bind_eq_some_iff.1 this
        obtain ⟨o, ok, q0, q1, q2, q3, q4, q5, q6, q7⟩ := open_op ht
        obtain ⟨_, _, hcell⟩ := World.cells?_some hcs
        have h0 := (hcell 0 (by omega)).trans q0
        have e0 : ((a.add (i * 8)).add 0) = a.add (i * 8) := by simp [Addr.add]
        rw [e0] at h0
        exact ⟨o, fun _ => ⟨ok, h0, (hcell 1 (by omega)).trans q1, (hcell 2 (by omega)).trans q2, (hcell 3 (by omega)).trans q3, (hcell 4 (by omega)).trans q4, (hcell 5 (by omega)).trans q5, (hcell 6 (by omega)).trans q6, (hcell 7 (by omega)).trans q7⟩⟩
      · exact ⟨⟨0, 0, 0, 0, 0, 0, ⟨#[]⟩, ⟨#[]⟩⟩, fun h => absurd h hi⟩
    obtain ⟨O, hO⟩ := Classical.axiomOfChoice hex
    refine ⟨some a, len, cap, O, hc, ⟨fun h0 => ?_, fun i hi => (hO i hi).1⟩, .inr ⟨_, _, (Prod.mk.inj hx).1, by simpa using hel⟩⟩
    obtain ⟨g, so, spot⟩ := a
    have hspot : spot = none := by
      have := (hO 0 h0).2.1
      simpa [Addr.add] using World.cell?_spot this
    subst hspot
    have ea : ∀ j k, ((⟨g, so, none⟩ : Addr).add j).add k = ⟨g, so + j + k, none⟩ := fun j k => by rw [Addr.add_lit, Addr.add_lit]
    have ea0 : ∀ j, ((⟨g, so, none⟩ : Addr).add j) = ⟨g, so + j, none⟩ := fun j => by rw [Addr.add_lit]
    refine ⟨g, so, rfl, ?_, fun i hi => ?_⟩
    · have := (hO 0 h0).2.1
      rw [ea0] at this
      exact World.block_lt_of_cell? W _ this
    · obtain ⟨_, q0, q1, q2, q3, q4, q5, q6, q7⟩ := hO i hi
      rw [ea0] at q0
      rw [ea] at q1 q2 q3 q4 q5 q6 q7
      exact ⟨q0, q1, q2, q3, q4, q5, q6, q7⟩
end
set_option maxHeartbeats 400000 in
theorem numbers_walk (a : Option Addr) (len cap : Nat) (O : Nat → OpV) (w : World) (hS : Sc w a len O) (hlen : len ≤ 1759218604441) (hE : Ends w) :
    Calls Tryz.prog 3 #[.slice a len cap] w fun e w' => e = .returned (.bool true) ∧ Below w.heap.size w w' := by
  have C := plays_any a len cap O 2 5 11 w hS hlen hE (by omega)
  clear hS hE
  go_enter Tryz.func3, Tryz.ntmps3
  go_wp2_with fail
  refine C.mono ?_
  rintro e w1 ⟨rfl, B1⟩
  go_wp2
  go_ret
  exact ⟨rfl, B1⟩
set_option maxHeartbeats 400000 in
theorem links_walk (a : Option Addr) (len cap : Nat) (O : Nat → OpV) (w : World) (hS : Sc w a len O) (hlen : len ≤ 1759218604441) (hE : Ends w) :
    Calls Tryz.prog 4 #[.slice a len cap] w fun e w' => e = .returned (.bool true) ∧ Below w.heap.size w w' := by
  have C := plays_any a len cap O 6 10 11 w hS hlen hE (by omega)
  clear hS hE
  go_enter Tryz.func4, Tryz.ntmps4
  go_wp2_with fail
  refine C.mono ?_
  rintro e w1 ⟨rfl, B1⟩
  go_wp2
  go_ret
  exact ⟨rfl, B1⟩
theorem Sc.below {w w' : World} {a : Option Addr} {len : Nat} {O : Nat → OpV} (h : Sc w a len O) (hb : Below w.heap.size w w') : Sc w' a len O := by
  refine ⟨fun h0 => ?_, h.ok⟩
  obtain ⟨g, so, ea, hg, hc⟩ := h.row h0
  refine ⟨g, so, ea, Nat.lt_of_lt_of_le hg hb.size, fun i hi => ?_⟩
  obtain ⟨q0, q1, q2, q3, q4, q5, q6, q7⟩ := hc i hi
  exact ⟨(hb.cell (by exact hg)).trans q0, (hb.cell (by exact hg)).trans q1, (hb.cell (by exact hg)).trans q2, (hb.cell (by exact hg)).trans q3, (hb.cell (by exact hg)).trans q4, (hb.cell (by exact hg)).trans q5, (hb.cell (by exact hg)).trans q6, (hb.cell (by exact hg)).trans q7⟩
set_option maxHeartbeats 400000 in
theorem counted_walk (a : Option Addr) (len cap : Nat) (O : Nat → OpV) (w : World) (hS : Sc w a len O) (hlen : len ≤ 1759218604441) (hE : Ends w) :
    Calls Tryz.prog 5 #[.slice a len cap] w fun e w' => e = .returned (.bool true) ∧ Below w.heap.size w w' := by
  have C := plays_any a len cap O 11 11 11 w hS hlen hE (by omega)
  have HS : Hid (Sc w a len O ∧ Ends w) := ⟨hS, hE⟩
  clear hS hE
  go_enter Tryz.func5, Tryz.ntmps5
  go_wp2_with fail
  refine C.mono ?_
  rintro e w1 ⟨rfl, B1⟩
  have C2 := plays_any a len cap O 2 2 11 w1 (HS.out.1.below B1) hlen (HS.out.2.below B1) (by omega)
  have HB1 : Hid (Below w.heap.size w w1) := B1
  clear C B1
  go_wp2_with fail
  refine C2.mono ?_
  rintro e w2 ⟨rfl, B2⟩
  have HB2 : Hid (Below w.heap.size w w2) := HB1.out.trans (B2.mono HB1.out.size)
  clear C2 B2
  go_wp2
  go_ret
  exact ⟨rfl, HB2.out⟩
end Go.Proofs.YtbgilndohccicaaGreatDoor
