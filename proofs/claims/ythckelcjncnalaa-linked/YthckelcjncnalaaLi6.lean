import Derived.Test.YthckelcjncnalaaLi5
namespace Go.Proofs.Ythckelcjncnalaa
open Go.RowKit

theorem frf_ok (f : FF) {t : Nat} (ht : t < 8) : frf f (t : Int) = fref f := by unfold frf; rw [rtB_of ht]; rfl
/-- Which reference a letter means. -/
def refI (G : GG) (o : Nat) (f : Int) : Int := if f = 97 then G.a o else G.b o
def refB (G : GG) (o : Nat) (f : Int) : Bool := if f = 97 then true else G.c o == 78
theorem refI_bd {G : GG} (h : GW G) {o : Nat} (ho : o < G.n) (f : Int) : -1 ≤ refI G o f ∧ refI G o f < G.n := by
  unfold refI; split
  · exact h.a o ho
  · exact h.b o ho
/-- What a reference's letter finds. -/
theorem gf_ref {G : GG} (hW : GW G) {i o : Nat} (hi : i < 8) (ho : o < G.n) (h : G.R i = o) {f : Int} (hf : f = 97 ∨ f = 98) :
    (refB G o f = true → ∃ j : Nat, ffind csL (dh G).R (dh G).K i f = ⟨o + 1, j, 114, 0⟩ ∧ (j = if f = 97 then 1 else 2) ∧ (dh G).C (o + 1) j = refI G o f + 1) ∧ (refB G o f = false → ffind csL (dh G).R (dh G).K i f = ⟨0, 0, 0, 5⟩) := by
  have c1 : ∀ j, (dh G).C (o + 1) j = if j = 0 then G.v o else if j = 1 then G.a o + 1 else if j = 2 then G.b o + 1 else 0 := by
    intro j
    show (if j = 0 then G.v (o + 1 - 1) else if j = 1 then G.a (o + 1 - 1) + 1 else if j = 2 then G.b (o + 1 - 1) + 1 else 0) = _
    rw [Nat.add_sub_cancel]
  unfold refB refI
  rcases hf with rfl | rfl
  · refine ⟨fun _ => ⟨1, gf_a hW hi ho h, rfl, by rw [c1]; rfl⟩, fun h => by simp at h⟩
  · rw [if_neg (by decide), if_neg (by decide), if_neg (by decide), gf_b hW hi ho h]
    refine ⟨fun hc => ⟨2, by rw [if_pos (by simpa using hc)], rfl, by rw [c1]; rfl⟩, fun hc => by rw [if_neg (by simpa using hc)]⟩
theorem LK.kept {w w' : World} {B gb lo hi hb : Nat} {sv : SV} {vs : List (Int × SV)} {sz : Int} {nv : Value} {p : PH} {G : GG} (h : LK w B gb lo hi hb sv vs sz nv p G) (hp : HP w' hb sv sz p.R p.K p.N p.F) (g : w.grownBy w' (some hb)) : LK w' B gb lo hi hb sv vs sz nv p G ∧ Below B w w' := by
  obtain ⟨a, b, c, d, e, f⟩ := h.heap hp g h.pw
  exact ⟨⟨a, b, c, d, h.b0, h.b1, h.b2, h.b3, h.pw, h.sim, h.gw, h.s0, h.s1⟩, f⟩
theorem LK.below {w w' : World} {B gb lo hi hb : Nat} {sv : SV} {vs : List (Int × SV)} {sz : Int} {nv : Value} {p : PH} {G : GG} (h : LK w B gb lo hi hb sv vs sz nv p G) (b : Below w.heap.size w w') : LK w' B gb lo hi hb sv vs sz nv p G := (h.kept (h.hp.below b) (gb_below b _)).1
theorem LK.bB {w w' : World} {B gb lo hi hb : Nat} {sv : SV} {vs : List (Int × SV)} {sz : Int} {nv : Value} {p : PH} {G : GG} (h : LK w B gb lo hi hb sv vs sz nv p G) (b : Below w.heap.size w w') : Below B w w' := b.mono (by have := h.b0; have := h.gp.lt; omega)
theorem pfol_pw {p : PH} (hP : Pw p) (root name to : Int) : Pw (pfolD csL p root name to) := by
  unfold pfolD
  split
  · rename_i h
    obtain ⟨_, hfe, _⟩ := frf_e0 h
    have hbd := ffind_bd (K := p.K) (root := root) (letter := name) hP.root csL_6 hfe
    exact hP.setRoot _ _ (hP.ref _ _ hbd.2.1 hbd.2.2)
  · exact hP
set_option maxRecDepth 20000 in
set_option maxHeartbeats 1000000 in
theorem gfollow_any {B gb lo hi hb : Nat} {sv : SV} {vs : List (Int × SV)} {sz : Int} {nv : Value} {p : PH} {G : GG} {w : World} (h : LK w B gb lo hi hb sv vs sz nv p G) (root to : Nat) (hr : root < 8) (ht : to < 8) (f : Int) (hf : f = 97 ∨ f = 98) :
    Calls Try.prog 29 #[.pointer (some ⟨gb, 0, none⟩), .int .i64 root, .int .u8 f, .int .i64 to] w (GOk B gb lo hi hb sv vs sz G.n w) := by
  have C := pfollow_any hb sv sz p lo vs csL w h.hp h.cl.cls h.pw csL_6 root f to
  unfold POp at C
  rw [frf_ok _ ht, ref_meet h.sim root f] at C
  have HL : Hid (LK w B gb lo hi hb sv vs sz nv p G) := h
  have g0 := h.gp.h
  have hgb := h.gp.lt
  have hRr := h.gw.R root hr
  have hrb : (0 : Int) ≤ (root : Int) ∧ (root : Int) < 8 := by omega
  have htb : (0 : Int) ≤ (to : Int) ∧ (to : Int) < 8 := by omega
  obtain ⟨y, hy⟩ : ∃ y, y = G.R root := ⟨_, rfl⟩
  have HY : Hid (y = G.R root) := hy
  unfold GOk
  by_cases h0 : G.R root < 0
  · have e9 : (fref (ffind csL (dh G).R (dh G).K root f)).e = 9 := by rw [gf_nil f hr h0]; rfl
    have ep : pfolD csL p root f to = p := by
      unfold pfolD; rw [if_neg]; rw [frf_ok _ ht, ref_meet h.sim, e9]; decide
    rw [e9, ep] at C
    have hy0 : y < 0 := by rw [hy]; exact h0
    clear h hy h0 e9 ep hRr
    go_enter Try.func29, Try.ntmps29
    go_wp2_with fail
    refine C.mono ?_
    rintro e w1 ⟨rfl, hp1, g1⟩
    obtain ⟨L1, B1⟩ := HL.out.kept hp1 g1
    have cr : w1.cell? ⟨gb, 3 + root, none⟩ = some (.int .i64 y) := by rw [HY.out]; exact L1.gp.r root hr
    have hg1 := L1.gp.lt
    have HF : Hid (LK w1 B gb lo hi hb sv vs sz nv p G ∧ Below B w w1) := ⟨L1, B1⟩
    clear C L1 B1 hp1 g1 g0
    go_wp2
    go_ret
    exact ⟨rfl, HF.out.2, _, _, _, HF.out.1, Nat.le_refl _⟩
  · obtain ⟨o, ho⟩ : ∃ o : Nat, G.R root = o := ⟨(G.R root).toNat, by omega⟩
    have hoG : o < G.n := by omega
    obtain ⟨F1, F2⟩ := gf_ref h.gw hr hoG ho hf
    have hyo : y = o := by rw [hy]; exact ho
    subst hyo
    have hny : ¬ (o : Int) < 0 := by omega
    cases hB : refB G o f with
    | false =>
      have e5 : (fref (ffind csL (dh G).R (dh G).K root f)).e = 5 := by rw [F2 hB]; rfl
      have ep : pfolD csL p root f to = p := by
        unfold pfolD; rw [if_neg]; rw [frf_ok _ ht, ref_meet h.sim, e5]; decide
      rw [e5, ep] at C
      have HRB : Hid (refB G o f = false) := hB
      clear h hy h0 e5 ep hRr F1 F2 hB ho
      go_enter Try.func29, Try.ntmps29
      go_wp2_with fail
      refine C.mono ?_
      rintro e w1 ⟨rfl, hp1, g1⟩
      obtain ⟨L1, B1⟩ := HL.out.kept hp1 g1
      have cr : w1.cell? ⟨gb, 3 + root, none⟩ = some (.int .i64 (o : Int)) := by rw [HY.out]; exact L1.gp.r root hr
      have hg1 := L1.gp.lt
      have C2 := grefer_any gb hb (hb + 1) sz nv G o f w1 L1.gp L1.nd hoG
      obtain ⟨x, hx⟩ : ∃ x, x = refI G o f := ⟨_, rfl⟩
      have C2' : Calls Try.prog 50 #[.pointer (some ⟨gb, 0, none⟩), .int .i64 o, .int .u8 f] w1 fun e w' => e = .returned (.tuple #[.int .i64 x, .bool false]) ∧ Below w1.heap.size w1 w' := by
        rw [hx, ← HRB.out]; exact C2
      have HF : Hid (LK w1 B gb lo hi hb sv vs sz nv p G ∧ Below B w w1) := ⟨L1, B1⟩
      clear C L1 B1 hp1 g1 g0 C2 hx
      go_wp2_with fail
      refine C2'.mono ?_
      rintro e w2 ⟨rfl, B2⟩
      have HF2 : Hid (LK w2 B gb lo hi hb sv vs sz nv p G ∧ Below B w w2) := ⟨HF.out.1.below B2, HF.out.2.trans (HF.out.1.bB B2)⟩
      clear C2' B2
      go_wp2
      go_ret
      exact ⟨rfl, HF2.out.2, _, _, _, HF2.out.1, Nat.le_refl _⟩
    | true =>
      obtain ⟨j, fj, _, fc⟩ := F1 hB
      have e0 : (fref (ffind csL (dh G).R (dh G).K root f)).e = 0 := by rw [fj]; rfl
      have e0' : (fref (ffind csL p.R p.K root f)).e = 0 := by rw [ref_meet h.sim]; exact e0
      have hpw := pfol_pw h.pw root f to
      have hsim : Sim csL (pfolD csL p root f to) { dh G with R := set1 (dh G).R to (refI G o f + 1).toNat } := by
        have := follow_meet h.sim root f to e0'
        rw [fj] at this
        simp only [] at this
        rw [fc] at this
        have ep : pfolD csL p root f to = { p with R := set1 p.R to (p.F (ffind csL p.R p.K root f).n (ffind csL p.R p.K root f).i) } := by
          unfold pfolD; rw [if_pos (by rw [frf_ok _ ht]; exact e0'), Int.toNat_natCast]
        rw [ep]; exact this
      rw [e0] at C
      have hbd := refI_bd h.gw hoG f
      have HRB : Hid (refB G o f = true) := hB
      generalize pfolD csL p root f to = p' at C hpw hsim
      obtain ⟨x, hx⟩ : ∃ x, x = refI G o f := ⟨_, rfl⟩
      rw [← hx] at hsim hbd
      have HX : Hid (x = refI G o f) := hx
      have HS : Hid (Sim csL p' { dh G with R := set1 (dh G).R to (x + 1).toNat }) := hsim
      clear h hy h0 e0 e0' hRr F2 hB ho hx hsim F1 fj fc
      go_enter Try.func29, Try.ntmps29
      go_wp2_with fail
      refine C.mono ?_
      rintro e w1 ⟨rfl, hp1, g1⟩
      obtain ⟨P1, P2, P3, P4, P5, P6⟩ := HL.out.heap hp1 g1 hpw
      have cr : w1.cell? ⟨gb, 3 + root, none⟩ = some (.int .i64 (o : Int)) := by rw [HY.out]; exact P3.r root hr
      have hg1 := P3.lt
      have C2 := grefer_any gb hb (hb + 1) sz nv G o f w1 P3 P4 hoG
      have C2' : Calls Try.prog 50 #[.pointer (some ⟨gb, 0, none⟩), .int .i64 o, .int .u8 f] w1 fun e w' => e = .returned (.tuple #[.int .i64 x, .bool true]) ∧ Below w1.heap.size w1 w' := by
        rw [HX.out, ← HRB.out]; exact C2
      have HP1 : Hid (HP w1 hb sv sz p'.R p'.K p'.N p'.F ∧ ClsIn w1 lo hi (.slice sv.a sv.n sv.c) vs csL ∧ GP w1 gb hb sz nv G.R ∧ ND w1 (hb + 1) nv G ∧ Below B w w1) := ⟨P1, P2, P3, P4, P6⟩
      clear C hp1 g1 g0 C2 P1 P2 P3 P4 P5 P6
      go_wp2_with fail
      refine C2'.mono ?_
      rintro e w2 ⟨rfl, B2⟩
      obtain ⟨P1, P2, P3, P4, P6⟩ := HP1.out
      have G2 := P3.below B2
      have ct := G2.r to ht
      have cf := G2.frz (3 + to)
      have hg2 := G2.lt
      have HB2 : Hid (Below w1.heap.size w1 w2) := B2
      clear C2' B2 P1 P2 P3 P4 P6 G2
      go_wp2
      go_ret
      obtain ⟨P1, P2, P3, P4, P6⟩ := HP1.out
      have L0 := HL.out
      have hb0 := L0.b0
      have hz := P3.lt
      have B12 : Below B w w2 := P6.trans (HB2.out.mono (by omega))
      refine ⟨rfl, B12.setCell (by show B ≤ gb; omega) _, nv, p', { G with R := set1 G.R to x }, ?_, Nat.le_refl _⟩
      have cl2 : ClsIn w2 lo hi (.slice sv.a sv.n sv.c) vs csL := P2.keep fun b _ hb' => HB2.out.block b (by have := P1.lt; have := L0.b2; omega)
      have hq1 := L0.b1; have hq2 := L0.b2; have hq3 := L0.b3
      have e : dh { G with R := set1 G.R to x } = { dh G with R := set1 (dh G).R to (x + 1).toNat } := by
        unfold dh
        congr 1
        funext j
        show (set1 G.R to x j + 1).toNat = set1 (fun i => (G.R i + 1).toNat) to (x + 1).toNat j
        by_cases e : j = to
        · subst e; rw [set1_self, set1_self]
        · rw [set1_ne _ _ e, set1_ne _ _ e]
      refine ⟨(P1.below HB2.out).kept (heap_setCell_other _ _ _ _ (by show hb ≠ gb; omega)), cl2.keep fun b hb1 _ => heap_setCell_other _ _ _ _ (by show b ≠ gb; omega), (P3.below HB2.out).setR ht x, (P4.below HB2.out).kept (gb_set w2 gb (3 + to) _) (by omega), L0.b0, L0.b1, L0.b2, L0.b3, hpw, by rw [e]; exact HS.out, L0.gw.setR hbd.1 hbd.2, L0.s0, L0.s1⟩
end Go.Proofs.Ythckelcjncnalaa
