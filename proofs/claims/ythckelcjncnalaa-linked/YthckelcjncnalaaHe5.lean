import Derived.Test.YthckelcjncnalaaHe4
import Derived.StillTailTactics
namespace Go.Proofs.Ythckelcjncnalaa
open Go.RowKit

theorem stillTail {P : Program} {id : Nat} {Q : Exit → Act → World → Prop} {a : Act} {w : World} {l : List Oper} (n : Nat) (hm : P.follows .mixedOrders = true) (hB : Region.lexTailB .any l.toArray n = true)
    (h : wpStill P l.toArray w.drew (fun a' => wpList P l.toArray Q (l.drop n) a' w.drew) (l.take n) a) : (Code.region id l.toArray true).wp P Q a w := wp_region_still_tail n hm hB h
theorem HP.setRoot {w : World} {hb : Nat} {sv : SV} {sz : Int} {R : Nat → Nat} {K : Nat → Int} {N : Nat → Nat → Int} {F : Nat → Nat → Nat} (h : HP w hb sv sz R K N F) {i : Nat} (hi : i < 8) (y : Nat) : HP (w.setCell ⟨hb, 2 + i, none⟩ (.int .i64 y)) hb sv sz (set1 R i y) K N F := by
  have ne : ∀ o, o ≠ 2 + i → (w.setCell ⟨hb, 2 + i, none⟩ (.int .i64 y)).cell? ⟨hb, o, none⟩ = w.cell? ⟨hb, o, none⟩ := by
    intro o ho; exact World.cell?_setCell_other _ _ _ _ (by intro e; injection e with _ e2 _; exact ho e2.symm)
  refine ⟨by rw [ne _ (by omega)]; exact h.sch, by rw [ne _ (by omega)]; exact h.size, fun a ha => ?_, fun a ha => by rw [ne _ (by omega)]; exact h.cls a ha, fun a b ha hb' => by rw [ne _ (by omega)]; exact h.num a b ha hb', fun a b ha hb' => by rw [ne _ (by omega)]; exact h.ref a b ha hb', fun o => by have := h.frz o; go_simp⟩
  by_cases e : a = i
  · subst e
    have := h.root a ha
    rw [set1_self]
    go_simp
  · rw [ne _ (by omega), set1_ne _ _ e]; exact h.root a ha
theorem HP.setRef {w : World} {hb : Nat} {sv : SV} {sz : Int} {R : Nat → Nat} {K : Nat → Int} {N : Nat → Nat → Int} {F : Nat → Nat → Nat} (h : HP w hb sv sz R K N F) {n i : Nat} (hn : n < 201) (hi : i < 6) (y : Nat) : HP (w.setCell ⟨hb, 10 + n * 13 + 7 + i, none⟩ (.int .i64 y)) hb sv sz R K N (set2 F n i y) := by
  have ne : ∀ o, o ≠ 10 + n * 13 + 7 + i → (w.setCell ⟨hb, 10 + n * 13 + 7 + i, none⟩ (.int .i64 y)).cell? ⟨hb, o, none⟩ = w.cell? ⟨hb, o, none⟩ := by
    intro o ho; exact World.cell?_setCell_other _ _ _ _ (by intro e; injection e with _ e2 _; exact ho e2.symm)
  refine ⟨by rw [ne _ (by omega)]; exact h.sch, by rw [ne _ (by omega)]; exact h.size, fun a ha => by rw [ne _ (by omega)]; exact h.root a ha, fun a ha => by rw [ne _ (by omega)]; exact h.cls a ha, fun a b ha hb' => by rw [ne _ (by omega)]; exact h.num a b ha hb', fun a b ha hb' => ?_, fun o => by have := h.frz o; go_simp⟩
  by_cases e : a = n ∧ b = i
  · obtain ⟨rfl, rfl⟩ := e
    have := h.ref a b ha hb'
    rw [set2_self]
    go_simp
  · rw [ne _ (by omega), set2_ne _ _ e]; exact h.ref a b ha hb'
def POp (hb : Nat) (sv : SV) (sz : Int) (p' : PH) (e0 : Int) (w : World) (e : Ending) (w' : World) : Prop :=
  e = .returned (.int .i64 e0) ∧ HP w' hb sv sz p'.R p'.K p'.N p'.F ∧ w.grownBy w' (some hb)
def pE2 (a b : Int) : Int := if rtB a = true ∧ rtB b = true then 0 else 8
def pcopyD (p : PH) (a b : Int) : PH := if rtB a = true ∧ rtB b = true then { p with R := set1 p.R b.toNat (p.R a.toNat) } else p
set_option maxRecDepth 20000 in
set_option maxHeartbeats 1000000 in
theorem pcopy_any (hb : Nat) (sv : SV) (sz : Int) (p : PH) (w : World) (h : HP w hb sv sz p.R p.K p.N p.F) (a b : Int) :
    Calls Try.prog 44 #[.pointer (some ⟨hb, 0, none⟩), .int .i64 a, .int .i64 b] w (POp hb sv sz (pcopyD p a b) (pE2 a b) w) := by
  have hbl := h.lt
  have HH : Hid (HP w hb sv sz p.R p.K p.N p.F) := h
  unfold POp
  cases ha : rtB a with
  | false =>
    have e1 : pcopyD p a b = p := by unfold pcopyD; rw [if_neg (by rw [ha]; simp)]
    have e2 : pE2 a b = 8 := by unfold pE2; rw [if_neg (by rw [ha]; simp)]
    rw [e1, e2]
    clear h e1 e2
    go_enter Try.func44, Try.ntmps44
    go_wp2_with fail
    refine (isRoot_rs (x := a) false ha).mono ?_
    rintro e w' ⟨rfl, rfl⟩
    go_wp2
    go_ret
    exact ⟨rfl, HH.out, gb_drewN _ 0 _⟩
  | true =>
    cases hb' : rtB b with
    | false =>
      have e1 : pcopyD p a b = p := by unfold pcopyD; rw [if_neg (by rw [hb']; simp)]
      have e2 : pE2 a b = 8 := by unfold pE2; rw [if_neg (by rw [hb']; simp)]
      rw [e1, e2]
      clear h e1 e2
      go_enter Try.func44, Try.ntmps44
      go_wp2_with fail
      refine (isRoot_rs (x := a) true ha).mono ?_
      rintro e w' ⟨rfl, rfl⟩
      go_wp2_with fail
      refine (isRoot_rs (x := b) false hb').mono ?_
      rintro e w' ⟨rfl, rfl⟩
      go_wp2
      go_ret
      exact ⟨rfl, HH.out, gb_drewN _ 0 _⟩
    | true =>
      have e1 : pcopyD p a b = { p with R := set1 p.R b.toNat (p.R a.toNat) } := by unfold pcopyD; rw [if_pos ⟨ha, hb'⟩]
      have e2 : pE2 a b = 0 := by unfold pE2; rw [if_pos ⟨ha, hb'⟩]
      rw [e1, e2]
      obtain ⟨i, rfl, hi⟩ := rtB_nat ha
      obtain ⟨j, rfl, hj⟩ := rtB_nat hb'
      rw [Int.toNat_natCast, Int.toNat_natCast]
      have c1 := h.root i hi
      have c2 := h.root j hj
      have f2 := h.frz (2 + j)
      have hib : (0 : Int) ≤ (i : Int) ∧ (i : Int) < 8 := by omega
      have hjb : (0 : Int) ≤ (j : Int) ∧ (j : Int) < 8 := by omega
      clear h e1 e2
      go_enter Try.func44, Try.ntmps44
      go_wp2_with fail
      refine (isRoot_rs (x := i) true ha).mono ?_
      rintro e w' ⟨rfl, rfl⟩
      go_wp2_with fail
      refine (isRoot_rs (x := j) true hb').mono ?_
      rintro e w' ⟨rfl, rfl⟩
      go_wp2
      refine stillTail 11 rfl (by kernel_rfl) ?_
      simp only [List.take_succ_cons, List.take_zero, List.drop_succ_cons, List.drop_zero]
      repeat still_step
      refine wpStill_nil ?_
      go_wp2
      go_ret
      refine ⟨rfl, ?_, ?_⟩
      · exact (HH.out.drew).setRoot hj _
      · exact gb_setB (gb_drewN w' 1 _) (2 + j) _
def pclearD (p : PH) (a : Int) : PH := if rtB a = true then { p with R := set1 p.R a.toNat 0 } else p
def pE1 (a : Int) : Int := if rtB a = true then 0 else 8
set_option maxRecDepth 20000 in
set_option maxHeartbeats 1000000 in
theorem pclear_any (hb : Nat) (sv : SV) (sz : Int) (p : PH) (w : World) (h : HP w hb sv sz p.R p.K p.N p.F) (a : Int) :
    Calls Try.prog 45 #[.pointer (some ⟨hb, 0, none⟩), .int .i64 a] w (POp hb sv sz (pclearD p a) (pE1 a) w) := by
  have hbl := h.lt
  have HH : Hid (HP w hb sv sz p.R p.K p.N p.F) := h
  unfold POp
  cases ha : rtB a with
  | false =>
    have e1 : pclearD p a = p := by unfold pclearD; rw [if_neg (by rw [ha]; simp)]
    have e2 : pE1 a = 8 := by unfold pE1; rw [if_neg (by rw [ha]; simp)]
    rw [e1, e2]
    clear h e1 e2
    go_enter Try.func45, Try.ntmps45
    go_wp2_with fail
    refine (isRoot_rs (x := a) false ha).mono ?_
    rintro e w' ⟨rfl, rfl⟩
    go_wp2
    go_ret
    exact ⟨rfl, HH.out, gb_drewN _ 0 _⟩
  | true =>
    have e1 : pclearD p a = { p with R := set1 p.R a.toNat 0 } := by unfold pclearD; rw [if_pos ha]
    have e2 : pE1 a = 0 := by unfold pE1; rw [if_pos ha]
    rw [e1, e2]
    obtain ⟨i, rfl, hi⟩ := rtB_nat ha
    rw [Int.toNat_natCast]
    have c1 := h.root i hi
    have f1 := h.frz (2 + i)
    have hib : (0 : Int) ≤ (i : Int) ∧ (i : Int) < 8 := by omega
    clear h e1 e2
    go_enter Try.func45, Try.ntmps45
    go_wp2_with fail
    refine (isRoot_rs (x := i) true ha).mono ?_
    rintro e w' ⟨rfl, rfl⟩
    go_wp2
    go_ret
    refine ⟨rfl, ?_, ?_⟩
    · exact HH.out.setRoot hi 0
    · exact gb_setB (gb_drewN w' 0 _) (2 + i) _
def psameI (p : PH) (a b : Int) : Bool := if rtB a = true ∧ rtB b = true then decide (p.R a.toNat = p.R b.toNat) else false
set_option maxRecDepth 20000 in
set_option maxHeartbeats 1000000 in
theorem psame_any (hb : Nat) (sv : SV) (sz : Int) (p : PH) (w : World) (h : HP w hb sv sz p.R p.K p.N p.F) (a b : Int) :
    Calls Try.prog 26 #[.pointer (some ⟨hb, 0, none⟩), .int .i64 a, .int .i64 b] w fun e w' => e = .returned (.tuple #[.bool (psameI p a b), .int .i64 (pE2 a b)]) ∧ Below w.heap.size w w' := by
  have hbl := h.lt
  cases ha : rtB a with
  | false =>
    have e1 : psameI p a b = false := by unfold psameI; rw [if_neg (by rw [ha]; simp)]
    have e2 : pE2 a b = 8 := by unfold pE2; rw [if_neg (by rw [ha]; simp)]
    rw [e1, e2]
    clear h e1 e2
    go_enter Try.func26, Try.ntmps26
    go_wp2_with fail
    refine (isRoot_rs (x := a) false ha).mono ?_
    rintro e w' ⟨rfl, rfl⟩
    go_wp2
    go_ret2
    exact ⟨rfl, Below.refl _ _⟩
  | true =>
    cases hb' : rtB b with
    | false =>
      have e1 : psameI p a b = false := by unfold psameI; rw [if_neg (by rw [hb']; simp)]
      have e2 : pE2 a b = 8 := by unfold pE2; rw [if_neg (by rw [hb']; simp)]
      rw [e1, e2]
      clear h e1 e2
      go_enter Try.func26, Try.ntmps26
      go_wp2_with fail
      refine (isRoot_rs (x := a) true ha).mono ?_
      rintro e w' ⟨rfl, rfl⟩
      go_wp2_with fail
      refine (isRoot_rs (x := b) false hb').mono ?_
      rintro e w' ⟨rfl, rfl⟩
      go_wp2
      go_ret2
      exact ⟨rfl, Below.refl _ _⟩
    | true =>
      have e1 : psameI p a b = decide (p.R a.toNat = p.R b.toNat) := by unfold psameI; rw [if_pos ⟨ha, hb'⟩]
      have e2 : pE2 a b = 0 := by unfold pE2; rw [if_pos ⟨ha, hb'⟩]
      rw [e1, e2]
      obtain ⟨i, rfl, hi⟩ := rtB_nat ha
      obtain ⟨j, rfl, hj⟩ := rtB_nat hb'
      rw [Int.toNat_natCast, Int.toNat_natCast]
      have c1 := h.root i hi
      have c2 := h.root j hj
      have hib : (0 : Int) ≤ (i : Int) ∧ (i : Int) < 8 := by omega
      have hjb : (0 : Int) ≤ (j : Int) ∧ (j : Int) < 8 := by omega
      have hd : ((p.R i : Int) == (p.R j : Int)) = decide (p.R i = p.R j) := by
        by_cases e : p.R i = p.R j
        · simp [e]
        · simp [e]; omega
      rw [← hd]
      clear h e1 e2 hd
      go_enter Try.func26, Try.ntmps26
      go_wp2_with fail
      refine (isRoot_rs (x := i) true ha).mono ?_
      rintro e w' ⟨rfl, rfl⟩
      go_wp2_with fail
      refine (isRoot_rs (x := j) true hb').mono ?_
      rintro e w' ⟨rfl, rfl⟩
      go_wp2
      go_quiet (fail)
      go_wp2
      go_ret2
      exact ⟨rfl, gb_below_drewN _ _⟩
def pclsI (p : PH) (a : Int) : Int × Int := if rtB a = false then (0, 8) else if p.R a.toNat = 0 then (0, 9) else (p.K (p.R a.toNat), 0)
set_option maxRecDepth 20000 in
set_option maxHeartbeats 1000000 in
theorem pclass_any (hb : Nat) (sv : SV) (sz : Int) (p : PH) (w : World) (h : HP w hb sv sz p.R p.K p.N p.F) (hR : ∀ i, i < 8 → p.R i < 201) (a : Int) :
    Calls Try.prog 25 #[.pointer (some ⟨hb, 0, none⟩), .int .i64 a] w fun e w' => e = .returned (.tuple #[.int .u8 (pclsI p a).1, .int .i64 (pclsI p a).2]) ∧ Below w.heap.size w w' := by
  have hbl := h.lt
  have HD := held_any hb sv sz p.R p.K p.N p.F w h a
  unfold pclsI
  by_cases h1 : rtB a = false
  · have e : heldI p.R a = (0, 8) := by unfold heldI; rw [if_pos h1]
    rw [if_pos h1]
    rw [e] at HD
    clear e
    go_enter Try.func25, Try.ntmps25
    go_wp2_with fail
    refine HD.mono ?_
    rintro e w' ⟨rfl, rfl⟩
    simp only []
    go_wp2
    go_ret2
    exact ⟨rfl, Below.refl _ _⟩
  rw [if_neg h1]
  obtain ⟨i, rfl, hi⟩ := rtB_nat (x := a) (by simpa using h1)
  rw [Int.toNat_natCast]
  by_cases h2 : p.R i = 0
  · have e : heldI p.R i = (0, 9) := by unfold heldI; rw [if_neg h1, Int.toNat_natCast, if_pos h2]
    rw [if_pos h2]
    rw [e] at HD
    clear e
    go_enter Try.func25, Try.ntmps25
    go_wp2_with fail
    refine HD.mono ?_
    rintro e w' ⟨rfl, rfl⟩
    simp only []
    go_wp2
    go_ret2
    exact ⟨rfl, Below.refl _ _⟩
  · have e : heldI p.R i = (p.R i, 0) := by unfold heldI; rw [if_neg h1, Int.toNat_natCast, if_neg h2]
    rw [if_neg h2]
    rw [e] at HD
    have hlt := hR i hi
    have ck := h.cls (p.R i) hlt
    have hnb : (0 : Int) ≤ (p.R i : Int) ∧ (p.R i : Int) < 201 := by omega
    clear e h2
    go_enter Try.func25, Try.ntmps25
    go_wp2_with fail
    refine HD.mono ?_
    rintro e w' ⟨rfl, rfl⟩
    simp only []
    go_wp2
    go_ret2
    exact ⟨rfl, Below.refl _ _⟩
end Go.Proofs.Ythckelcjncnalaa
