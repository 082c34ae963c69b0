import Derived.Test.YtbgilndohccicabRows
import Derived.Test.YtbgilndohccicabMz46
import Derived.WalkKit
import Derived.ProofKit
import Derived.LaidMore
import Derived.OpenShut
import Derived.ShutString
import Derived.ChangeOld
import Derived.Below
import Derived.SizedLaws
namespace Go.Proofs.Ytbgilndohccicab
open Go.ChangeShapes Go.WideShapes Go.ChangeAt Go.WideMaps Go.WideElems Go.RowKit
set_option linter.unusedVariables false

theorem own : ownKnob Try.prog.godebug = none := by kernel_rfl
theorem laidOut : laidOutB Try.prog = true := by kernel_rfl
theorem cStep : Try.prog.cellsOf 61 = 5 := by kernel_rfl
theorem cInt : Try.prog.cellsOf 3 = 1 := by kernel_rfl
theorem cI64 : Try.prog.cellsOf 2 = 1 := by kernel_rfl
theorem bStep : Try.prog.bytesOf 61 = 40 := by kernel_rfl
theorem take_at {cs : List Value} {k : Nat} {v : Value} (h : (cs.drop k).take 1 = [v]) : cs[k]? = some v := by
  have h0 : ((cs.drop k).take 1)[0]? = some v := by rw [h]; rfl
  simpa using h0

section
variable {H : Type} {enc : TypeId × Value → H}
set_option maxRecDepth 20000 in
/-- One step of the script. -/
theorem open_step {W : World} {cs : List Value} {x : DataW H × List MemPlace} {fuel : Nat} (h : DataW.trod enc Try.prog W 0 (fun _ => true) true fuel 61 cs = some x) :
    ∃ o : StV, o.ok ∧ cs[0]? = some (.int .i64 o.k) ∧ cs[1]? = some (.int .i64 o.a) ∧ cs[2]? = some (.int .i64 o.b) ∧ cs[3]? = some (.int .i64 o.c) ∧ cs[4]? = some (.int .i64 o.v) := by
  obtain ⟨xs, n, rfl, hx, hl, hn, hf⟩ := DataW.trod_struct Try.underlying61 h
  have hn8 : xs.length = 5 := hn
  have g : ∀ i, i < 5 → xs[i]? = some (xs[i]?.getD (.nil, [])) := fun i hi => by rw [List.getElem?_eq_getElem (by omega)]; rfl
  obtain ⟨n0, e0, _, b0⟩ := DataW.trod_int Try.underlying3 ((hf 0 _ rfl).trans (g 0 (by omega)))
  obtain ⟨n1, e1, _, b1⟩ := DataW.trod_int Try.underlying3 ((hf 1 _ rfl).trans (g 1 (by omega)))
  obtain ⟨n2, e2, _, b2⟩ := DataW.trod_int Try.underlying3 ((hf 2 _ rfl).trans (g 2 (by omega)))
  obtain ⟨n3, e3, _, b3⟩ := DataW.trod_int Try.underlying3 ((hf 3 _ rfl).trans (g 3 (by omega)))
  obtain ⟨n4, e4, _, b4⟩ := DataW.trod_int Try.underlying2 ((hf 4 _ rfl).trans (g 4 (by omega)))
  have f0 : (cs.drop 0).take (Try.prog.cellsOf 3) = [.int .i64 n0] := e0
  have f1 : (cs.drop 1).take (Try.prog.cellsOf 3) = [.int .i64 n1] := e1
  have f2 : (cs.drop 2).take (Try.prog.cellsOf 3) = [.int .i64 n2] := e2
  have f3 : (cs.drop 3).take (Try.prog.cellsOf 3) = [.int .i64 n3] := e3
  have f4 : (cs.drop 4).take (Try.prog.cellsOf 2) = [.int .i64 n4] := e4
  rw [cInt] at f0 f1 f2 f3
  rw [cI64] at f4
  exact ⟨⟨n0, n1, n2, n3, n4⟩, ⟨(bounds_i64 b1).1, (bounds_i64 b1).2, (bounds_i64 b2).1, (bounds_i64 b2).2, (bounds_i64 b3).1, (bounds_i64 b3).2, (bounds_i64 b4).1, (bounds_i64 b4).2⟩, take_at f0, take_at f1, take_at f2, take_at f3, take_at f4⟩
/-- The script. -/
theorem open_steps {W : World} {c0 : Value} {d : DataW H} {p : List MemPlace} {fuel : Nat} (h : DataW.trod enc Try.prog W 0 (fun _ => true) true fuel 48 [c0] = some (d, p)) :
    ∃ a len cap O, c0 = .slice a len cap ∧ ScL W a len O ∧ ((len = 0) ∨ ∃ el sp, d = .slice el sp ∧ el.length = len) := by
  rcases DataW.trod_slice Try.underlying48 h with ⟨hc, _⟩ | ⟨a, len, cap, el, rest, n, rfl, hc, hx, _, hl, hm, hel, hall, _, _⟩
  · simp only [List.cons.injEq, and_true] at hc
    exact ⟨none, 0, 0, fun _ => ⟨0, 0, 0, 0, 0⟩, hc, ⟨fun h => by omega, fun i h => by omega⟩, .inl rfl⟩
  · simp only [List.cons.injEq, and_true] at hc
    have hex : ∀ i, ∃ o : StV, i < len → o.ok ∧ W.cell? (a.add (i * 5)) = some (.int .i64 o.k) ∧ W.cell? ((a.add (i * 5)).add 1) = some (.int .i64 o.a) ∧ W.cell? ((a.add (i * 5)).add 2) = some (.int .i64 o.b) ∧ W.cell? ((a.add (i * 5)).add 3) = some (.int .i64 o.c) ∧ W.cell? ((a.add (i * 5)).add 4) = some (.int .i64 o.v) := by
      intro i
      by_cases hi : i < len
      · have := hall i hi
        rw [List.getElem?_eq_getElem (by omega), cStep] at this
        obtain ⟨cs, hcs, ht⟩ := Option.bind_eq_some_iff.1 this
        obtain ⟨o, ok, q0, q1, q2, q3, q4⟩ := open_step ht
        obtain ⟨_, _, hcell⟩ := World.cells?_some hcs
        have h0 := (hcell 0 (by omega)).trans q0
        have e0 : ((a.add (i * 5)).add 0) = a.add (i * 5) := by simp [Addr.add]
        rw [e0] at h0
        exact ⟨o, fun _ => ⟨ok, h0, (hcell 1 (by omega)).trans q1, (hcell 2 (by omega)).trans q2, (hcell 3 (by omega)).trans q3, (hcell 4 (by omega)).trans q4⟩⟩
      · exact ⟨⟨0, 0, 0, 0, 0⟩, fun h => absurd h hi⟩
    obtain ⟨O, hO⟩ := Classical.axiomOfChoice hex
    refine ⟨some a, len, cap, O, hc, ⟨fun h0 => ?_, fun i hi => (hO i hi).1⟩, .inr ⟨_, _, (Prod.mk.inj hx).1, by simpa using hel⟩⟩
    obtain ⟨g, so, spot⟩ := a
    have hspot : spot = none := by
      have := (hO 0 h0).2.1
      simpa [Addr.add] using World.cell?_spot this
    subst hspot
    have ea : ∀ j k, ((⟨g, so, none⟩ : Addr).add j).add k = ⟨g, so + j + k, none⟩ := fun j k => by rw [Addr.add_lit, Addr.add_lit]
    have ea0 : ∀ j, ((⟨g, so, none⟩ : Addr).add j) = ⟨g, so + j, none⟩ := fun j => by rw [Addr.add_lit]
    refine ⟨g, so, rfl, ?_, fun i hi => ?_⟩
    · have := (hO 0 h0).2.1
      rw [ea0] at this
      exact World.block_lt_of_cell? W _ this
    · obtain ⟨_, q0, q1, q2, q3, q4⟩ := hO i hi
      rw [ea0] at q0
      rw [ea] at q1 q2 q3 q4
      exact ⟨q0, q1, q2, q3, q4⟩
end
set_option maxRecDepth 100000 in
theorem meanwhile_lifted (os : Os) (started : os.Started) (H : Type) (enc : TypeId × Value → H) :
    ReturnsInHanded {} Try.checked os 6 .any (Rows.meanwhileSpec.pre6 enc Try.prog Try.f6 Rows.meanwhileRow.domain false) (Rows.meanwhileSpec.post enc Try.prog Try.f6 false true false false) := by
  refine returnsInHanded_of_change_sized (C := Try.checked) own started (by kernel_rfl) Try.func6
    (ChangeSpec.witness6 (enc := enc) (C := Try.checked) false ⟨#[], #[.int .i64 0, .slice none 0 0, .slice none 0 0, .int .i64 0, .int .i64 0, .int .i64 0], []⟩ 8 (by kernel_rfl) (by kernel_rfl) (by kernel_rfl) (by kernel_rfl)) ?_
  intro W base args ds gs before hval0 hW _ hsz0 _
  have hval : ∀ (j : Nat) t v, Try.f6.params[j]? = some t → args[j]? = some v → Value.okWide Try.prog W .any base t v := hval0
  have hsz : (DataW.weightsEach Try.prog (Try.f6.params.toList ++ Rows.meanwhileSpec.plain.varTypes Try.prog) (ds ++ gs)).all (· ≤ reachBytes) = true := hsz0
  have hW' := hW
  obtain ⟨p, q, hA0, hV, rfl, hfz, hnd⟩ := hW
  have hA : DataW.TrodAll enc Try.prog W 0 (fun _ => true) true Try.f6.params.toList args.toList ds p := hA0
  rw [Try.params6] at hA hval hsz
  obtain ⟨v0, vs0, d0, ds0, p0, q0, hargs, rfl, rfl, h0, r0⟩ := trodAll_cons hA
  obtain ⟨v1, vs1, d1, ds1, p1, q1, rfl, rfl, rfl, h1, r1⟩ := trodAll_cons r0
  obtain ⟨v2, vs2, d2, ds2, p2, q2, rfl, rfl, rfl, h2, r2⟩ := trodAll_cons r1
  obtain ⟨v3, vs3, d3, ds3, p3, q3, rfl, rfl, rfl, h3, r3⟩ := trodAll_cons r2
  obtain ⟨v4, vs4, d4, ds4, p4, q4, rfl, rfl, rfl, h4, r4⟩ := trodAll_cons r3
  obtain ⟨v5, vs5, d5, ds5, p5, q5, rfl, rfl, rfl, h5, r5⟩ := trodAll_cons r4
  obtain ⟨rfl, rfl, rfl⟩ := trodAll_nil r5
  obtain rfl : args = #[v0, v1, v2, v3, v4, v5] := by cases args; simp_all
  obtain ⟨rfl, rfl⟩ := trodVars_none hV
  obtain ⟨size, rfl, rfl, rfl, wa⟩ := open_int Try.underlying3 (hval 0 3 v0 rfl rfl) h0
  obtain ⟨a1, len1, cap1, rfl⟩ := okWide_slice Try.underlying48 (hval 1 48 v1 rfl rfl)
  obtain ⟨a2, len2, cap2, rfl⟩ := okWide_slice Try.underlying48 (hval 2 48 v2 rfl rfl)
  obtain ⟨c, rfl, rfl, rfl, wc⟩ := open_int Try.underlying3 (hval 3 3 v3 rfl rfl) h3
  obtain ⟨x, rfl, rfl, rfl, wx⟩ := open_int Try.underlying3 (hval 4 3 v4 rfl rfl) h4
  obtain ⟨y, rfl, rfl, rfl, wy⟩ := open_int Try.underlying3 (hval 5 3 v5 rfl rfl) h5
  have k1 := h1
  have lt1 : ∀ x ∈ p1, x.block < W.heap.size := by obtain ⟨m, hm⟩ := k1; exact DataW.trod_lt m _ _ _ hm
  have k2 := h2
  have lt2 : ∀ x ∈ p2, x.block < W.heap.size := by obtain ⟨m, hm⟩ := k2; exact DataW.trod_lt m _ _ _ hm
  obtain ⟨fuel1, hf1'⟩ := h1
  have hf1 : DataW.trod enc Try.prog W 0 (fun _ => true) true fuel1 48 [.slice a1 len1 cap1] = some (d1, p1) := hf1'
  obtain ⟨fuel2, hf2'⟩ := h2
  have hf2 : DataW.trod enc Try.prog W 0 (fun _ => true) true fuel2 48 [.slice a2 len2 cap2] = some (d2, p2) := hf2'
  obtain ⟨a, len, cap, O1, ec, hS1, hd1⟩ := open_steps hf1
  injection ec with e1 e2 e3
  subst e1; subst e2; subst e3
  obtain ⟨a, len, cap, O2, ec, hS2, hd2⟩ := open_steps hf2
  injection ec with e1 e2 e3
  subst e1; subst e2; subst e3
  have hlen1 : len1 ≤ 3518437208780 := by
    rcases hd1 with h0 | ⟨el, sp, rfl, hl⟩
    · omega
    · have := sized_slice hsz (j := 1) (t := 48) (e := 61) rfl rfl Try.underlying48
      rw [bStep] at this
      unfold reachBytes at this
      omega
  have hlen2 : len2 ≤ 3518437208780 := by
    rcases hd2 with h0 | ⟨el, sp, rfl, hl⟩
    · omega
    · have := sized_slice hsz (j := 2) (t := 48) (e := 61) rfl rfl Try.underlying48
      rw [bStep] at this
      unfold reachBytes at this
      omega
  clear hA0 hval0
  have ra := bounds_i64 wa
  have rc := bounds_i64 wc
  have rx := bounds_i64 wx
  have ry := bounds_i64 wy
  refine (meanwhile_walk size c x y ra.1 ra.2 rc.1 rc.2 rx.1 rx.2 ry.1 ry.2 a1 len1 cap1 O1 a2 len2 cap2 O2 W hS1 hS2 (by omega)).mono fun e W' ⟨he, bel⟩ => ?_
  subst he
  have z1 := Below.trod laidOut (by kernel_rfl) (of_decide_eq_true (by kernel_rfl)) k1 bel lt1
  have z2 := Below.trod laidOut (by kernel_rfl) (of_decide_eq_true (by kernel_rfl)) k2 bel lt2
  exact ⟨_, rfl, _, _, _, [], _, [], hW', trodAll_mk1 (shut_bool Try.underlying4 _), (trodAll_cons_mk (shut_int Try.underlying3 wa) (trodAll_cons_mk z1 (trodAll_cons_mk z2 (trodAll_cons_mk (shut_int Try.underlying3 wc) (trodAll_cons_mk (shut_int Try.underlying3 wx) (trodAll_cons_mk (shut_int Try.underlying3 wy) trodAll_mk0)))))), rfl, bel.frame _, fun h => by cases h⟩

theorem meanwhile_over : Rows.meanwhileRow.holds Try.pinned (OpenSpec.ofChange Rows.meanwhileSpec) :=
  OpenClaim.holds_of_wide 6 Try.f6 rfl rfl rfl rfl rfl rfl rfl ⟨rfl, rfl, rfl, rfl, rfl⟩ rfl rfl rfl rfl rfl (by kernel_rfl) Try.func6 (by kernel_rfl)
    (of_decide_eq_true (by kernel_rfl)) (by unfold Func.isWrapper; first | (rw [if_pos (by decide +kernel)]; kernel_rfl) | (rw [if_neg (by decide +kernel)]; exact ⟨rfl, rfl⟩))
    (fun os started H enc _ => meanwhile_lifted os started H enc)

theorem meanwhile_holds : Rows.MeanwhileSaid := meanwhile_over
#print axioms meanwhile_holds
end Go.Proofs.Ytbgilndohccicab
