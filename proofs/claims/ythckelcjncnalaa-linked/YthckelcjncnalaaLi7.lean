import Derived.Test.YthckelcjncnalaaLi6
namespace Go.Proofs.Ythckelcjncnalaa
open Go.RowKit

theorem plink_pw {p : PH} (hP : Pw p) (root name : Int) {fr : Nat} (hf : fr < 8) : Pw (plinkD csL p root name fr) := by
  unfold plinkD
  split
  · rw [Int.toNat_natCast]; exact hP.setRef _ _ _ (hP.root fr hf)
  · exact hP
def setA (G : GG) (o : Nat) (y : Int) : GG := { G with a := set1 G.a o y }
def setB (G : GG) (o : Nat) (y : Int) : GG := { G with b := set1 G.b o y }
def setF (G : GG) (o : Nat) (f y : Int) : GG := if f = 97 then setA G o y else setB G o y
theorem gw_setA {G : GG} (h : GW G) (o : Nat) {y : Int} (h1 : -1 ≤ y) (h2 : y < G.n) : GW (setA G o y) := by
  refine ⟨h.R, fun j hj => ?_, h.b, h.c, h.v⟩
  show -1 ≤ set1 G.a o y j ∧ set1 G.a o y j < G.n
  by_cases e : j = o
  · subst e; rw [set1_self]; exact ⟨h1, h2⟩
  · rw [set1_ne _ _ e]; exact h.a j hj
theorem gw_setB {G : GG} (h : GW G) (o : Nat) {y : Int} (h1 : -1 ≤ y) (h2 : y < G.n) (hc : G.c o = 78) : GW (setB G o y) := by
  refine ⟨h.R, h.a, fun j hj => ?_, fun j hj => ?_, h.v⟩
  · show -1 ≤ set1 G.b o y j ∧ set1 G.b o y j < G.n
    by_cases e : j = o
    · subst e; rw [set1_self]; exact ⟨h1, h2⟩
    · rw [set1_ne _ _ e]; exact h.b j hj
  · show G.c j = 78 ∨ (G.c j = 81 ∧ set1 G.b o y j = -1)
    by_cases e : j = o
    · subst e; exact .inl hc
    · rw [set1_ne _ _ e]; exact h.c j hj
/-- The reference in the document's heap. -/
theorem sim_setA {p : PH} {G : GG} {o : Nat} {y : Int} (h1 : -1 ≤ y) {z : Nat} (hz : z = (y + 1).toNat) (h : Sim csL p { dh G with C := set2 (dh G).C (o + 1) 1 (z : Int) }) : Sim csL p (dh (setA G o y)) := by
  refine h.congrD (fun _ _ => rfl) rfl (fun _ _ _ => rfl) (fun x j hx _ => ?_)
  show (if j = 0 then G.v (x - 1) else if j = 1 then set1 G.a o y (x - 1) + 1 else if j = 2 then G.b (x - 1) + 1 else 0) = set2 (dh G).C (o + 1) 1 (z : Int) x j
  by_cases e : x = o + 1 ∧ j = 1
  · obtain ⟨rfl, rfl⟩ := e
    rw [set2_self, if_neg (by decide), if_pos rfl, Nat.add_sub_cancel, set1_self, hz]; omega
  · rw [set2_ne _ _ e]
    show _ = (if j = 0 then G.v (x - 1) else if j = 1 then G.a (x - 1) + 1 else if j = 2 then G.b (x - 1) + 1 else 0)
    by_cases ej : j = 1
    · have : x - 1 ≠ o := fun e' => e ⟨by omega, ej⟩
      rw [set1_ne _ _ this]
    · rw [if_neg ej, if_neg ej]
theorem sim_setB {p : PH} {G : GG} {o : Nat} {y : Int} (h1 : -1 ≤ y) {z : Nat} (hz : z = (y + 1).toNat) (h : Sim csL p { dh G with C := set2 (dh G).C (o + 1) 2 (z : Int) }) : Sim csL p (dh (setB G o y)) := by
  refine h.congrD (fun _ _ => rfl) rfl (fun _ _ _ => rfl) (fun x j hx _ => ?_)
  show (if j = 0 then G.v (x - 1) else if j = 1 then G.a (x - 1) + 1 else if j = 2 then set1 G.b o y (x - 1) + 1 else 0) = set2 (dh G).C (o + 1) 2 (z : Int) x j
  by_cases e : x = o + 1 ∧ j = 2
  · obtain ⟨rfl, rfl⟩ := e
    rw [set2_self, if_neg (by decide), if_neg (by decide), if_pos rfl, Nat.add_sub_cancel, set1_self, hz]; omega
  · rw [set2_ne _ _ e]
    show _ = (if j = 0 then G.v (x - 1) else if j = 1 then G.a (x - 1) + 1 else if j = 2 then G.b (x - 1) + 1 else 0)
    by_cases ej : j = 2
    · have : x - 1 ≠ o := fun e' => e ⟨by omega, ej⟩
      rw [set1_ne _ _ this]
    · rw [if_neg ej, if_neg ej]
theorem sim_setV {p : PH} {G : GG} {o : Nat} {y : Int} (h : Sim csL p { dh G with C := set2 (dh G).C (o + 1) 0 y }) : Sim csL p (dh { G with v := set1 G.v o y }) := by
  refine h.congrD (fun _ _ => rfl) rfl (fun _ _ _ => rfl) (fun x j hx _ => ?_)
  show (if j = 0 then set1 G.v o y (x - 1) else if j = 1 then G.a (x - 1) + 1 else if j = 2 then G.b (x - 1) + 1 else 0) = set2 (dh G).C (o + 1) 0 y x j
  by_cases e : x = o + 1 ∧ j = 0
  · obtain ⟨rfl, rfl⟩ := e
    rw [set2_self, if_pos rfl, Nat.add_sub_cancel, set1_self]
  · rw [set2_ne _ _ e]
    show _ = (if j = 0 then G.v (x - 1) else if j = 1 then G.a (x - 1) + 1 else if j = 2 then G.b (x - 1) + 1 else 0)
    by_cases ej : j = 0
    · have : x - 1 ≠ o := fun e' => e ⟨by omega, ej⟩
      rw [set1_ne _ _ this]
    · rw [if_neg ej, if_neg ej]
/-- A cell of a node is set, on both sides. -/
theorem LK.mkNode {w w0 : World} {B gb lo hi hb : Nat} {sv : SV} {vs : List (Int × SV)} {sz : Int} {nv nv0 : Value} {p p0 : PH} {G G0 G' : GG} (h : LK w0 B gb lo hi hb sv vs sz nv0 p0 G0) (cl : ClsIn w lo hi (.slice sv.a sv.n sv.c) vs csL) (gp : GP w gb hb sz nv G.R) (nd : ND w (hb + 1) nv G) {g o k : Nat} (hg : nv.ownBlock = some g) (ho : o < G.n) (hk : k < 4) (x : Value) (hn : G'.n = G.n) (hR : G'.R = G.R)
    (he : ∀ j, j < G.n → nodeV G' j = if j = o then (nodeV G o).set k x else nodeV G j) (hp : HP w hb sv sz p.R p.K p.N p.F) (pw : Pw p) (hs : Sim csL p (dh G')) (hw : GW G') : LK (w.setCell ⟨g, o * 4 + k, none⟩ x) B gb lo hi hb sv vs sz nv p G' := by
  have q1 := h.b1; have q2 := h.b2; have q3 := h.b3
  have hgl := (World.ownsRow.lt nd g hg).1
  obtain ⟨na, nc, hnv⟩ := nd.shape
  subst hnv
  obtain ⟨g', hga, _⟩ := nd.cells.2.2 o ho
  subst hga
  have hgg : g' = g := by simpa [Value.ownBlock] using hg
  subst hgg
  refine ⟨hp.kept (heap_setCell_other _ _ _ _ (by show hb ≠ g'; omega)), cl.keep fun b _ hb2 => heap_setCell_other _ _ _ _ (by show b ≠ g'; omega), ?_, nd.set ho hk x hn he, h.b0, h.b1, h.b2, h.b3, pw, hs, hw, h.s0, h.s1⟩
  rw [hR]
  exact gp.keep (heap_setCell_other _ _ _ _ (by show gb ≠ g'; omega))
end Go.Proofs.Ythckelcjncnalaa
