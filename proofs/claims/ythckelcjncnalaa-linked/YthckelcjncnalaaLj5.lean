import Derived.Test.YthckelcjncnalaaLj4
namespace Go.Proofs.Ythckelcjncnalaa
open Go.RowKit

/-- A root of the graph is set. -/
theorem LK.mkRoot {w w0 : World} {B gb lo hi hb : Nat} {sv : SV} {vs : List (Int × SV)} {sz : Int} {nv nv0 : Value} {p p0 : PH} {G G0 : GG} (h : LK w0 B gb lo hi hb sv vs sz nv0 p0 G0) (hp : HP w hb sv sz p.R p.K p.N p.F) (cl : ClsIn w lo hi (.slice sv.a sv.n sv.c) vs csL) (gp : GP w gb hb sz nv G.R) (nd : ND w (hb + 1) nv G) (pw : Pw p) (gw : GW G) {i : Nat} (hi' : i < 8) {y : Int} (h1 : -1 ≤ y) (h2 : y < G.n) (hs : Sim csL p { dh G with R := set1 (dh G).R i (y + 1).toNat }) :
    LK (w.setCell ⟨gb, 3 + i, none⟩ (.int .i64 y)) B gb lo hi hb sv vs sz nv p { G with R := set1 G.R i y } := by
  have q1 := h.b1; have q2 := h.b2; have q3 := h.b3
  refine ⟨hp.kept (heap_setCell_other _ _ _ _ (by show hb ≠ gb; omega)), cl.keep fun b hb1 _ => heap_setCell_other _ _ _ _ (by show b ≠ gb; omega), gp.setR hi' y, nd.kept (gb_set w gb (3 + i) _) (by omega), h.b0, h.b1, h.b2, h.b3, pw, ?_, gw.setR h1 h2, h.s0, h.s1⟩
  have e : dh { G with R := set1 G.R i y } = { dh G with R := set1 (dh G).R i (y + 1).toNat } := by
    unfold dh
    congr 1
    funext j
    show (set1 G.R i y j + 1).toNat = set1 (fun i => (G.R i + 1).toNat) i (y + 1).toNat j
    by_cases e : j = i
    · subst e; rw [set1_self, set1_self]
    · rw [set1_ne _ _ e, set1_ne _ _ e]
  rw [e]; exact hs
/-- Copy and Clear on the heap's side. -/
def CpPost (B gb lo hi hb : Nat) (sv : SV) (vs : List (Int × SV)) (sz : Int) (nv : Value) (G : GG) (i : Nat) (y : Int) (w : World) (e : Ending) (w' : World) : Prop := e = .returned (.int .i64 0) ∧ ∃ p', HP w' hb sv sz p'.R p'.K p'.N p'.F ∧ ClsIn w' lo hi (.slice sv.a sv.n sv.c) vs csL ∧ GP w' gb hb sz nv G.R ∧ ND w' (hb + 1) nv G ∧ Pw p' ∧ Sim csL p' { dh G with R := set1 (dh G).R i (y + 1).toNat } ∧ Below B w w'
theorem gcopy_any {B gb lo hi hb : Nat} {sv : SV} {vs : List (Int × SV)} {sz : Int} {nv : Value} {p : PH} {G : GG} {w : World} (h : LK w B gb lo hi hb sv vs sz nv p G) (a b : Nat) (ha : a < 8) (hb' : b < 8) (y : Int) (hy : y = G.R a) :
    Calls Try.prog 44 #[.pointer (some ⟨hb, 0, none⟩), .int .i64 a, .int .i64 b] w (CpPost B gb lo hi hb sv vs sz nv G b y w) := by
  refine (pcopy_any hb sv sz p w h.hp a b).mono ?_
  rintro e w' ⟨he, hp, g⟩
  have e1 : pE2 (a : Int) b = 0 := by unfold pE2; rw [if_pos ⟨rtB_of ha, rtB_of hb'⟩]
  have e2 : pcopyD p a b = { p with R := set1 p.R b (p.R a) } := by unfold pcopyD; rw [if_pos ⟨rtB_of ha, rtB_of hb'⟩, Int.toNat_natCast, Int.toNat_natCast]
  rw [e1] at he
  rw [e2] at hp
  obtain ⟨P1, P2, P3, P4, P5, P6⟩ := h.heap (p' := { p with R := set1 p.R b (p.R a) }) hp g (h.pw.setRoot b _ (h.pw.root a ha))
  refine ⟨he, _, P1, P2, P3, P4, P5, ?_, P6⟩
  rw [hy]
  exact copy_meet h.sim a b ha
theorem gclear_any {B gb lo hi hb : Nat} {sv : SV} {vs : List (Int × SV)} {sz : Int} {nv : Value} {p : PH} {G : GG} {w : World} (h : LK w B gb lo hi hb sv vs sz nv p G) (a : Nat) (ha : a < 8) :
    Calls Try.prog 45 #[.pointer (some ⟨hb, 0, none⟩), .int .i64 a] w (CpPost B gb lo hi hb sv vs sz nv G a (-1) w) := by
  refine (pclear_any hb sv sz p w h.hp a).mono ?_
  rintro e w' ⟨he, hp, g⟩
  have e1 : pE1 (a : Int) = 0 := by unfold pE1; rw [if_pos (rtB_of ha)]
  have e2 : pclearD p a = { p with R := set1 p.R a 0 } := by unfold pclearD; rw [if_pos (rtB_of ha), Int.toNat_natCast]
  rw [e1] at he
  rw [e2] at hp
  obtain ⟨P1, P2, P3, P4, P5, P6⟩ := h.heap (p' := { p with R := set1 p.R a 0 }) hp g (h.pw.setRoot a _ (by omega))
  exact ⟨he, _, P1, P2, P3, P4, P5, clear_meet h.sim a, P6⟩
end Go.Proofs.Ythckelcjncnalaa
