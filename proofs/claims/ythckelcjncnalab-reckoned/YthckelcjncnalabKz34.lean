import Derived.Test.YthckelcjncnalabKz33
import Derived.StillTailTactics
namespace Go.Proofs.Ythckelcjncnalab
open Go.RowKit

theorem stillTail {P : Program} {id : Nat} {Q : Exit → Act → World → Prop} {a : Act} {w : World} {l : List Oper} (n : Nat) (hm : P.follows .mixedOrders = true) (hB : Region.lexTailB .any l.toArray n = true)
    (h : wpStill P l.toArray w.drew (fun a' => wpList P l.toArray Q (l.drop n) a' w.drew) (l.take n) a) : (Code.region id l.toArray true).wp P Q a w := wp_region_still_tail n hm hB h
theorem HP.setRoot {w : World} {hb : Nat} {sv : SV} {sz : Int} {R : Nat → Nat} {K : Nat → Int} {N : Nat → Nat → Int} {F : Nat → Nat → Nat} (h : HP w hb sv sz R K N F) {i : Nat} (hi : i < 8) (y : Nat) : HP (w.setCell ⟨hb, 2 + i, none⟩ (.int .i64 y)) hb sv sz (set1 R i y) K N F := by
  have ne : ∀ o, o ≠ 2 + i → (w.setCell ⟨hb, 2 + i, none⟩ (.int .i64 y)).cell? ⟨hb, o, none⟩ = w.cell? ⟨hb, o, none⟩ := by
    intro o ho; exact World.cell?_setCell_other _ _ _ _ (by intro e; injection e with _ e2 _; exact ho e2.symm)
  refine ⟨by rw [ne _ (by omega)]; exact h.sch, by rw [ne _ (by omega)]; exact h.size, fun a ha => ?_, fun a ha => by rw [ne _ (by omega)]; exact h.cls a ha, fun a b ha hb' => by rw [ne _ (by omega)]; exact h.num a b ha hb', fun a b ha hb' => by rw [ne _ (by omega)]; exact h.ref a b ha hb', fun o => by have := h.frz o; go_simp, by rw [ne _ (by omega)]; exact h.pend, by rw [ne _ (by omega)]; exact h.upd⟩
  by_cases e : a = i
  · subst e
    have := h.root a ha
    rw [set1_self]
    go_simp
  · rw [ne _ (by omega), set1_ne _ _ e]; exact h.root a ha
theorem HP.setRef {w : World} {hb : Nat} {sv : SV} {sz : Int} {R : Nat → Nat} {K : Nat → Int} {N : Nat → Nat → Int} {F : Nat → Nat → Nat} (h : HP w hb sv sz R K N F) {n i : Nat} (hn : n < 201) (hi : i < 6) (y : Nat) : HP (w.setCell ⟨hb, 10 + n * 13 + 7 + i, none⟩ (.int .i64 y)) hb sv sz R K N (set2 F n i y) := by
  have ne : ∀ o, o ≠ 10 + n * 13 + 7 + i → (w.setCell ⟨hb, 10 + n * 13 + 7 + i, none⟩ (.int .i64 y)).cell? ⟨hb, o, none⟩ = w.cell? ⟨hb, o, none⟩ := by
    intro o ho; exact World.cell?_setCell_other _ _ _ _ (by intro e; injection e with _ e2 _; exact ho e2.symm)
  refine ⟨by rw [ne _ (by omega)]; exact h.sch, by rw [ne _ (by omega)]; exact h.size, fun a ha => by rw [ne _ (by omega)]; exact h.root a ha, fun a ha => by rw [ne _ (by omega)]; exact h.cls a ha, fun a b ha hb' => by rw [ne _ (by omega)]; exact h.num a b ha hb', fun a b ha hb' => ?_, fun o => by have := h.frz o; go_simp, by rw [ne _ (by omega)]; exact h.pend, by rw [ne _ (by omega)]; exact h.upd⟩
  by_cases e : a = n ∧ b = i
  · obtain ⟨rfl, rfl⟩ := e
    have := h.ref a b ha hb'
    rw [set2_self]
    go_simp
  · rw [ne _ (by omega), set2_ne _ _ e]; exact h.ref a b ha hb'
def POp (hb : Nat) (sv : SV) (sz : Int) (p' : PH) (e0 : Int) (w : World) (e : Ending) (w' : World) : Prop :=
  e = .returned (.int .i64 e0) ∧ HP w' hb sv sz p'.R p'.K p'.N p'.F ∧ w.grownBy w' (some hb)
def pE2 (a b : Int) : Int := if rtB a = true ∧ rtB b = true then 0 else 8
def pcopyD (p : PH) (a b : Int) : PH := if rtB a = true ∧ rtB b = true then { p with R := set1 p.R b.toNat (p.R a.toNat) } else p
def pclearD (p : PH) (a : Int) : PH := if rtB a = true then { p with R := set1 p.R a.toNat 0 } else p
def pE1 (a : Int) : Int := if rtB a = true then 0 else 8
def psameI (p : PH) (a b : Int) : Bool := if rtB a = true ∧ rtB b = true then decide (p.R a.toNat = p.R b.toNat) else false
def pclsI (p : PH) (a : Int) : Int × Int := if rtB a = false then (0, 8) else if p.R a.toNat = 0 then (0, 9) else (p.K (p.R a.toNat), 0)
end Go.Proofs.Ythckelcjncnalab
namespace Go.Proofs.Ythckelcjncnalab
open Go.RowKit

def frf (f : FF) (other : Int) : FF := if rtB other = false then ⟨0, 0, 0, 8⟩ else fref f
def FRPost (f : FF) (w : World) (e : Ending) (w' : World) : Prop := e = .returned (.tuple #[.agg #[.int .i64 f.n, .int .i64 f.i], .int .i64 f.e]) ∧ Below w.heap.size w w'
end Go.Proofs.Ythckelcjncnalab
