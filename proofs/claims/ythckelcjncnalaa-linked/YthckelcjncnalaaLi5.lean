import Derived.Test.YthckelcjncnalaaLi4
namespace Go.Proofs.Ythckelcjncnalaa
open Go.RowKit

theorem Sim.congrD {cs : Sch} {p : PH} {r r' : DH} (h : Sim cs p r) (eR : ∀ i, i < 8 → r'.R i = r.R i) (en : r'.n = r.n) (eK : ∀ x, 0 < x → x ≤ r.n → r'.K x = r.K x) (eC : ∀ x j, 0 < x → x ≤ r.n → r'.C x j = r.C x j) : Sim cs p r' := by
  obtain ⟨M, h⟩ := h
  refine ⟨M, h.fn, h.inj, fun a b hm => by rw [en]; exact h.pos a b hm, fun i hi => by rw [eR i hi]; exact h.root i hi, fun a b hm => ?_, h.has, fun a b hm j f hf hk => ?_, fun a b hm j f hf hk => ?_, h.nor⟩
  · have := h.pos a b hm; rw [eK b this.2.2.1 this.2.2.2]; exact h.cls a b hm
  · have := h.pos a b hm; rw [eC b j this.2.2.1 this.2.2.2]; exact h.num a b hm j f hf hk
  · have := h.pos a b hm; rw [eC b j this.2.2.1 this.2.2.2]; exact h.ref a b hm j f hf hk
/-- What is found in the graph. -/
theorem gf_nil {G : GG} (x : Int) {i : Nat} (hi : i < 8) (h : G.R i < 0) : ffind csL (dh G).R (dh G).K i x = ⟨0, 0, 0, 9⟩ := by
  unfold ffind
  have e : (dh G).R (i : Int).toNat = 0 := by show (G.R i + 1).toNat = 0; omega
  rw [if_neg (by unfold rtB; rw [decide_eq_true (show (0 : Int) ≤ i by omega), decide_eq_true (show (i : Int) < 8 by omega)]; decide), if_pos e]
theorem gf_obj {G : GG} (x : Int) {i o : Nat} (hi : i < 8) (h : G.R i = o) : ffind csL (dh G).R (dh G).K i x =
    if idxF (fof csL (G.c o)) x < 0 then ⟨0, 0, 0, 5⟩ else ⟨o + 1, (idxF (fof csL (G.c o)) x).toNat, ((fof csL (G.c o))[(idxF (fof csL (G.c o)) x).toNat]?.getD (0, 0)).2, 0⟩ := by
  unfold ffind
  have e : (dh G).R (i : Int).toNat = o + 1 := by show (G.R i + 1).toNat = o + 1; omega
  have ek : (dh G).K (o + 1) = G.c o := by show G.c (o + 1 - 1) = _; rw [Nat.add_sub_cancel]
  rw [if_neg (by unfold rtB; rw [decide_eq_true (show (0 : Int) ≤ i by omega), decide_eq_true (show (i : Int) < 8 by omega)]; decide), e, if_neg (by omega), ek]
theorem gf_v {G : GG} (hW : GW G) {i o : Nat} (hi : i < 8) (ho : o < G.n) (h : G.R i = o) : ffind csL (dh G).R (dh G).K i 118 = ⟨o + 1, 0, if G.c o = 78 then 108 else 119, 0⟩ := by
  rw [gf_obj 118 hi h]
  rcases hW.c o ho with hc | ⟨hc, _⟩ <;> rw [hc] <;> rfl
theorem gf_a {G : GG} (hW : GW G) {i o : Nat} (hi : i < 8) (ho : o < G.n) (h : G.R i = o) : ffind csL (dh G).R (dh G).K i 97 = ⟨o + 1, 1, 114, 0⟩ := by
  rw [gf_obj 97 hi h]
  rcases hW.c o ho with hc | ⟨hc, _⟩ <;> rw [hc] <;> rfl
theorem gf_b {G : GG} (hW : GW G) {i o : Nat} (hi : i < 8) (ho : o < G.n) (h : G.R i = o) : ffind csL (dh G).R (dh G).K i 98 = if G.c o = 78 then ⟨o + 1, 2, 114, 0⟩ else ⟨0, 0, 0, 5⟩ := by
  rw [gf_obj 98 hi h]
  rcases hW.c o ho with hc | ⟨hc, _⟩ <;> rw [hc] <;> rfl
theorem rtB_of {i : Nat} (hi : i < 8) : rtB (i : Int) = true := by
  unfold rtB; rw [decide_eq_true (show (0 : Int) ≤ i by omega), decide_eq_true (show (i : Int) < 8 by omega)]; rfl
/-- The heap and the graph beside each other. -/
structure LK (w : World) (B gb lo hi hb : Nat) (sv : SV) (vs : List (Int × SV)) (sz : Int) (nv : Value) (p : PH) (G : GG) : Prop where
  hp : HP w hb sv sz p.R p.K p.N p.F
  cl : ClsIn w lo hi (.slice sv.a sv.n sv.c) vs csL
  gp : GP w gb hb sz nv G.R
  nd : ND w (hb + 1) nv G
  b0 : B ≤ gb
  b1 : gb < lo
  b2 : hi ≤ hb
  b3 : lo ≤ hi
  pw : Pw p
  sim : Sim csL p (dh G)
  gw : GW G
  s0 : 0 ≤ sz
  s1 : sz ≤ 200
/-- A call on the heap. -/
theorem LK.heap {w w' : World} {B gb lo hi hb : Nat} {sv : SV} {vs : List (Int × SV)} {sz : Int} {nv : Value} {p p' : PH} {G : GG} (h : LK w B gb lo hi hb sv vs sz nv p G) (hp : HP w' hb sv sz p'.R p'.K p'.N p'.F) (g : w.grownBy w' (some hb)) (pw : Pw p') :
    HP w' hb sv sz p'.R p'.K p'.N p'.F ∧ ClsIn w' lo hi (.slice sv.a sv.n sv.c) vs csL ∧ GP w' gb hb sz nv G.R ∧ ND w' (hb + 1) nv G ∧ Pw p' ∧ Below B w w' := by
  have h1 := h.b1; have h2 := h.b2; have h3 := h.b3; have h0 := h.b0
  have hl := h.hp.lt
  refine ⟨hp, h.cl.keep fun b _ hb' => g.block b (by omega) (fun e => by injection e with e; omega), h.gp.keep (g.block gb h.gp.lt (fun e => by injection e with e; omega)), h.nd.kept g (by omega), pw, ?_⟩
  exact ⟨g.os, g.tape, g.output, g.size, fun k hk => g.block k (by have := h.gp.lt; omega) (fun e => by injection e with e; omega)⟩
/-- A root of the graph is set. -/
theorem GP.setR {w : World} {gb hb : Nat} {sz : Int} {nv : Value} {R : Nat → Int} (h : GP w gb hb sz nv R) {i : Nat} (hi : i < 8) (y : Int) : GP (w.setCell ⟨gb, 3 + i, none⟩ (.int .i64 y)) gb hb sz nv (set1 R i y) := by
  refine ⟨by rw [scOff w _ (by omega)]; exact h.h, by rw [scOff w _ (by omega)]; exact h.s, by rw [scOff w _ (by omega)]; exact h.n, fun j hj => ?_, by rw [scOff w _ (by omega)]; exact h.t, fun o => by simpa using h.frz o⟩
  by_cases e : j = i
  · subst e
    have := h.r j hj
    have hl := h.lt
    rw [set1_self]
    go_simp
  · rw [set1_ne _ _ e, scOff w _ (by omega)]; exact h.r j hj
theorem GP.setN {w : World} {gb hb : Nat} {sz : Int} {nv : Value} {R : Nat → Int} (h : GP w gb hb sz nv R) (v : Value) : GP (w.setCell ⟨gb, 2, none⟩ v) gb hb sz v R := by
  have hn := h.n
  have hl := h.lt
  refine ⟨by rw [scOff w _ (by omega)]; exact h.h, by rw [scOff w _ (by omega)]; exact h.s, by go_simp, fun j hj => by rw [scOff w _ (by omega)]; exact h.r j hj, by rw [scOff w _ (by omega)]; exact h.t, fun o => by simpa using h.frz o⟩
/-- What a step of the graph leaves. -/
def GOk (B gb lo hi hb : Nat) (sv : SV) (vs : List (Int × SV)) (sz : Int) (m : Nat) (w : World) (e : Ending) (w' : World) : Prop := e = .returned (.bool true) ∧ Below B w w' ∧ ∃ nv p G, LK w' B gb lo hi hb sv vs sz nv p G ∧ G.n ≤ m
theorem GW.setR {G : GG} (h : GW G) {i : Nat} {y : Int} (h1 : -1 ≤ y) (h2 : y < G.n) : GW { G with R := set1 G.R i y } := by
  refine ⟨fun j hj => ?_, h.a, h.b, h.c, h.v⟩
  show -1 ≤ set1 G.R i y j ∧ set1 G.R i y j < G.n
  by_cases e : j = i
  · subst e; rw [set1_self]; exact ⟨h1, h2⟩
  · rw [set1_ne _ _ e]; exact h.R j hj
theorem LK.setR {w : World} {B gb lo hi hb : Nat} {sv : SV} {vs : List (Int × SV)} {sz : Int} {nv : Value} {p p0 : PH} {G : GG} (h : LK w B gb lo hi hb sv vs sz nv p0 G) (hp : HP w hb sv sz p.R p.K p.N p.F) (pw : Pw p) {i : Nat} (hi' : i < 8) {y : Int} (h1 : -1 ≤ y) (h2 : y < G.n) (hs : Sim csL p { dh G with R := set1 (dh G).R i (y + 1).toNat }) :
    LK (w.setCell ⟨gb, 3 + i, none⟩ (.int .i64 y)) B gb lo hi hb sv vs sz nv p { G with R := set1 G.R i y } := by
  have q1 := h.b1; have q2 := h.b2; have q3 := h.b3
  refine ⟨?_, h.cl.keep fun b hb1 _ => heap_setCell_other _ _ _ _ (by show b ≠ gb; omega), h.gp.setR hi' y, ?_, h.b0, h.b1, h.b2, h.b3, pw, ?_, h.gw.setR h1 h2, h.s0, h.s1⟩
  · exact hp.kept (heap_setCell_other _ _ _ _ (by show hb ≠ gb; omega))
  · exact h.nd.kept (gb_set w gb (3 + i) _) (by omega)
  · have e : dh { G with R := set1 G.R i y } = { dh G with R := set1 (dh G).R i (y + 1).toNat } := by
      unfold dh
      congr 1
      funext j
      show (set1 G.R i y j + 1).toNat = set1 (fun i => (G.R i + 1).toNat) i (y + 1).toNat j
      by_cases e : j = i
      · subst e; rw [set1_self, set1_self]
      · rw [set1_ne _ _ e, set1_ne _ _ e]
    rw [e]; exact hs
end Go.Proofs.Ythckelcjncnalaa
