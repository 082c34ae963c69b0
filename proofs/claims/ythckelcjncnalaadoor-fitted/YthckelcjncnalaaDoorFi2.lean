import Derived.Test.YthckelcjncnalaaDoorFz46
import Derived.Test.YthckelcjncnalaaDoorRows
import Derived.Test.YthckelcjncnalaaDoorTie
import Derived.Test.YthckelcjncnalaaDoorCards
import Derived.ProofKit
import Derived.LaidMore
import Derived.OpenShut
import Derived.ShutString
import Derived.Stop.Joined
import Derived.SevenTiedAt
namespace Go.Proofs.YthckelcjncnalaaDoor
open Go.ChangeShapes Go.WideShapes Go.ChangeAt Go.WideMaps Go.WideElems Go.RowKit
open Go.ChangeMaps (open_string shut_string)

theorem own : ownKnob Tryd.prog.godebug = none := by kernel_rfl
theorem gEnds : Tryd.prog.globalNamed "remake/remakeref.ends" = some 0 := by kernel_rfl
theorem tEnds : (Tryd.prog.globals[0]?).map (·.type) = some 84 := by kernel_rfl

/-- The door's own heap meets the condition. -/
theorem door_met (os : Os) (args : Array Value) : laidMetH Tryd.prog [("remake/remakeref.ends", Rows.laid_remake_remakeref_ends)] ((World.doorLaid Tryd.prog 400 os).forCall (fun _ _ => 0) ⟨#[], args, []⟩).memory :=
  laidMetH_of_parts3 (fuel := 8) (laidMet_of_run' 8 (by kernel_rfl) (by kernel_rfl)) (by kernel_rfl) (by kernel_rfl)

set_option maxRecDepth 20000 in
theorem of_laid {W : World} (h : laidMetH Tryd.prog [("remake/remakeref.ends", Rows.laid_remake_remakeref_ends)] W) : Ends W := by
  rw [MakeChecks.laidMetH_plain _ _ _ (by kernel_rfl)] at h
  obtain ⟨ps, ⟨g0, t0, cs0, f0, p0, q0, hg0, ht0, hv0, hd0, _, _⟩, _, _⟩ := h
  obtain rfl := Option.some.inj (gEnds.symm.trans hg0)
  obtain rfl := Option.some.inj (tEnds.symm.trans ht0)
  obtain ⟨xs, m1, rfl, hx1, hlen, hn3, hel⟩ := DataW.trod_array Tryd.underlying84 hd0
  simp only [Prod.mk.injEq, Rows.laid_remake_remakeref_ends, DataW.agg.injEq] at hx1
  have hmap := hx1.1
  have c9 : Tryd.prog.cellsOf 9 = 1 := by kernel_rfl
  have hcell : ∀ k, k < 7 → W.cell? ⟨0, k, none⟩ = some (.string (E k)) := by
    intro k hk
    have hk' := hel k hk
    rw [c9, List.getElem?_eq_getElem (by omega)] at hk'
    obtain ⟨s, e1, e2, _⟩ := DataW.trod_string Tryd.underlying9 hk'
    have hv := World.var?_cell hg0 hv0 k
    have hc : cs0[k]? = some (.string s) := by
      rw [Nat.mul_one] at e1
      have : (cs0.toList.drop k)[0]? = some (.string s) := by
        have h0 : ((cs0.toList.drop k).take 1)[0]? = some (.string s) := by rw [e1]; rfl
        simpa using h0
      simpa using this
    rw [hv, hc]
    have hm : (xs.map (·.1))[k]? = some (.lit (.string s.data.toList)) := by
      rw [List.getElem?_map, List.getElem?_eq_getElem (by omega), e2]; rfl
    rw [← hmap] at hm
    have he : s.data.toList = (E k).data.toList := by
      match k, hk with
      | 0, _ | 1, _ | 2, _ | 3, _ | 4, _ | 5, _ | 6, _ => simp at hm; simp [E, ← hm]
    have : s = E k := by
      cases s; cases hE : E k
      rw [hE] at he
      simp only at he
      congr
      exact Array.toList_inj.1 he
    rw [this]
  exact ⟨World.block_lt_of_cell? W ⟨0, 0, none⟩ (hcell 0 (by omega)), hcell⟩

set_option maxRecDepth 100000 in
theorem fitted_lifted (os : Os) (started : os.Started) (H : Type) (enc : TypeId × Value → H) :
    ReturnsInHanded {} Tryd.checked os 4 .any (fun w args => (Rows.fittedSpec.pre enc Tryd.prog Tryd.f4 [] false w args ∧ laidMetH Tryd.prog [("remake/remakeref.ends", Rows.laid_remake_remakeref_ends)] w) ∧ sizedMet enc Tryd.prog Tryd.f4 (OpenSpec.ofChange Rows.fittedSpec) false w args)
      (Rows.fittedSpec.post enc Tryd.prog Tryd.f4 false true false false) := by
  refine returnsInHanded_of_change_and (C := Tryd.checked) (X := fun w _ => laidMetH Tryd.prog [("remake/remakeref.ends", Rows.laid_remake_remakeref_ends)] w) (fun _ _ _ hh h => h.of_heap hh) own started (by kernel_rfl) Tryd.func4
    (ChangeSpec.witness_shaped (enc := enc) (C := Tryd.checked) (os := os) (X := fun w _ => laidMetH Tryd.prog [("remake/remakeref.ends", Rows.laid_remake_remakeref_ends)] w) false (World.doorLaid Tryd.prog 400 os) #[.string ByteArray.empty, .string ByteArray.empty] 8 rfl (World.shaped_of_RefB (by kernel_rfl) (by kernel_rfl)) (by kernel_rfl) (by kernel_rfl) (by kernel_rfl) (door_met os _)) ?_
  intro W base args ds gs before hval0 hW _ _ hL _
  have hval : ∀ (j : Nat) t v, Tryd.f4.params[j]? = some t → args[j]? = some v → Value.okWide Tryd.prog W .any base t v := hval0
  have hW' := hW
  obtain ⟨p, q, hA0, hV, rfl, hfz, hnd⟩ := hW
  have hA : DataW.TrodAll enc Tryd.prog W 0 (fun _ => true) true Tryd.f4.params.toList args.toList ds p := hA0
  rw [Tryd.params4] at hA hval
  obtain ⟨v0, v1, d0, d1, p0, p1, e1, e2, e3, h0, h1⟩ := trodAll_two hA
  subst e1 e2 e3
  obtain ⟨rfl, rfl⟩ := trodVars_none hV
  obtain ⟨sc, rfl, rfl, rfl, hs⟩ := open_string Tryd.underlying9 (hval 0 9 v0 rfl rfl) h0
  obtain ⟨s, rfl, rfl, rfl, hs1⟩ := open_string Tryd.underlying9 (hval 1 9 v1 rfl rfl) h1
  clear hA0 hval0
  refine (fitted_walk sc s W (by unfold maxLen at hs; omega) (by unfold maxLen at hs1; omega) (of_laid hL)).mono fun e W' ⟨he, bel⟩ => ?_
  subst he
  exact ⟨_, rfl, _, _, _, [], _, [], hW', trodAll_mk1 (shut_bool Tryd.underlying4 _), trodAll_mk2 (shut_string Tryd.underlying9 hs) (shut_string Tryd.underlying9 hs1), rfl, bel.frame _, fun h => by cases h⟩

theorem fitted_holds : Rows.FittedSaid :=
  OpenClaim.holds_of_wide 4 Tryd.f4 rfl rfl rfl rfl rfl rfl rfl ⟨rfl, rfl, rfl, rfl, rfl⟩ rfl rfl rfl rfl rfl (by kernel_rfl) Tryd.func4 (by kernel_rfl)
    (of_decide_eq_true (by kernel_rfl)) (by unfold Func.isWrapper; first | (rw [if_pos (by decide +kernel)]; kernel_rfl) | (rw [if_neg (by decide +kernel)]; exact ⟨rfl, rfl⟩))
    (fun os started H enc _ => fitted_lifted os started H enc)

theorem fitted_card : Rows.FittedCardSaid :=
  Claim7.holds_tied_plain_at .later [] [.data] true Rows.fittedCard.stood.harness false
    fitted_holds (fun _ h => by cases h) (by kernel_rfl) (fun _ h => by cases h) fitted_row_tie rfl ⟨rfl, rfl⟩ (by kernel_rfl) rfl
    (fun f fn hf hfn => by
      obtain rfl : f = 4 := Option.some.inj ((show Tryd.prog.funcNamed "remake/remakelaw.Fitted" = some 4 by kernel_rfl).symm.trans hf) |>.symm
      obtain rfl : fn = Tryd.f4 := (Option.some.inj (Tryd.func4.symm.trans hfn)).symm
      exact ⟨by kernel_rfl, fun j t ht => by
        rw [Tryd.params4] at ht
        have hm : t ∈ [9] := by simpa using Array.mem_of_getElem? ht
        have hall : ([9].all fun u => !Tryd.prog.wantsStandIn u) = true := by kernel_rfl
        exact (show Tryd.prog.wantsStandIn t = false by simpa using List.all_eq_true.1 hall t hm)⟩)
    (by kernel_rfl)
#print axioms fitted_card
end Go.Proofs.YthckelcjncnalaaDoor
