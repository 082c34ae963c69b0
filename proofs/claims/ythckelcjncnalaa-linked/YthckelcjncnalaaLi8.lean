import Derived.Test.YthckelcjncnalaaLi7
namespace Go.Proofs.Ythckelcjncnalaa
open Go.RowKit

theorem node_a (G : GG) (o : Nat) (y : Int) : ∀ j, j < G.n → nodeV (setA G o y) j = if j = o then (nodeV G o).set 2 (.int .i64 y) else nodeV G j := by
  intro j _
  show [Value.int .u8 (G.c j), .int .i64 (G.v j), .int .i64 (set1 G.a o y j), .int .i64 (G.b j)] = _
  by_cases e : j = o
  · subst e; rw [if_pos rfl, set1_self]; rfl
  · rw [if_neg e, set1_ne _ _ e]; rfl
theorem node_b (G : GG) (o : Nat) (y : Int) : ∀ j, j < G.n → nodeV (setB G o y) j = if j = o then (nodeV G o).set 3 (.int .i64 y) else nodeV G j := by
  intro j _
  show [Value.int .u8 (G.c j), .int .i64 (G.v j), .int .i64 (G.a j), .int .i64 (set1 G.b o y j)] = _
  by_cases e : j = o
  · subst e; rw [if_pos rfl, set1_self]; rfl
  · rw [if_neg e, set1_ne _ _ e]; rfl
theorem node_v (G : GG) (o : Nat) (y : Int) : ∀ j, j < G.n → nodeV { G with v := set1 G.v o y } j = if j = o then (nodeV G o).set 1 (.int .i64 y) else nodeV G j := by
  intro j _
  show [Value.int .u8 (G.c j), .int .i64 (set1 G.v o y j), .int .i64 (G.a j), .int .i64 (G.b j)] = _
  by_cases e : j = o
  · subst e; rw [if_pos rfl, set1_self]; rfl
  · rw [if_neg e, set1_ne _ _ e]; rfl
set_option maxRecDepth 20000 in
set_option maxHeartbeats 2000000 in
theorem glink_any {B gb lo hi hb : Nat} {sv : SV} {vs : List (Int × SV)} {sz : Int} {nv : Value} {p : PH} {G : GG} {w : World} (h : LK w B gb lo hi hb sv vs sz nv p G) (root fr : Nat) (hr : root < 8) (ht : fr < 8) (f : Int) (hf : f = 97 ∨ f = 98) :
    Calls Try.prog 43 #[.pointer (some ⟨gb, 0, none⟩), .int .i64 root, .int .u8 f, .int .i64 fr] w (GOk B gb lo hi hb sv vs sz G.n w) := by
  have C := plink_any hb sv sz p lo vs csL w h.hp h.cl.cls h.pw csL_6 root f fr
  unfold POp at C
  rw [frf_ok _ ht, ref_meet h.sim root f] at C
  have HL : Hid (LK w B gb lo hi hb sv vs sz nv p G) := h
  have g0 := h.gp.h
  have hgb := h.gp.lt
  have hRr := h.gw.R root hr
  have hRf := h.gw.R fr ht
  have hrb : (0 : Int) ≤ (root : Int) ∧ (root : Int) < 8 := by omega
  have htb : (0 : Int) ≤ (fr : Int) ∧ (fr : Int) < 8 := by omega
  obtain ⟨y, hy⟩ : ∃ y, y = G.R root := ⟨_, rfl⟩
  have HY : Hid (y = G.R root) := hy
  unfold GOk
  by_cases h0 : G.R root < 0
  · have e9 : (fref (ffind csL (dh G).R (dh G).K root f)).e = 9 := by rw [gf_nil f hr h0]; rfl
    have ep : plinkD csL p root f fr = p := by
      unfold plinkD; rw [if_neg]; rw [frf_ok _ ht, ref_meet h.sim, e9]; decide
    rw [e9, ep] at C
    have hy0 : y < 0 := by rw [hy]; exact h0
    clear h hy h0 e9 ep hRr hRf
    go_enter Try.func43, Try.ntmps43
    go_wp2_with fail
    refine C.mono ?_
    rintro e w1 ⟨rfl, hp1, g1⟩
    obtain ⟨L1, B1⟩ := HL.out.kept hp1 g1
    have cr : w1.cell? ⟨gb, 3 + root, none⟩ = some (.int .i64 y) := by rw [HY.out]; exact L1.gp.r root hr
    have hg1 := L1.gp.lt
    have HF : Hid (LK w1 B gb lo hi hb sv vs sz nv p G ∧ Below B w w1) := ⟨L1, B1⟩
    clear C L1 B1 hp1 g1 g0
    go_wp2
    go_ret
    exact ⟨rfl, HF.out.2, _, _, _, HF.out.1, Nat.le_refl _⟩
  · obtain ⟨o, ho⟩ : ∃ o : Nat, G.R root = o := ⟨(G.R root).toNat, by omega⟩
    have hoG : o < G.n := by omega
    obtain ⟨F1, F2⟩ := gf_ref h.gw hr hoG ho hf
    have hyo : y = o := by rw [hy]; exact ho
    subst hyo
    have hny : ¬ (o : Int) < 0 := by omega
    cases hB : refB G o f with
    | false =>
      have e5 : (fref (ffind csL (dh G).R (dh G).K root f)).e = 5 := by rw [F2 hB]; rfl
      have ep : plinkD csL p root f fr = p := by
        unfold plinkD; rw [if_neg]; rw [frf_ok _ ht, ref_meet h.sim, e5]; decide
      rw [e5, ep] at C
      have HRB : Hid (refB G o f = false) := hB
      clear h hy h0 e5 ep hRr F1 F2 hB ho hRf
      go_enter Try.func43, Try.ntmps43
      go_wp2_with fail
      refine C.mono ?_
      rintro e w1 ⟨rfl, hp1, g1⟩
      obtain ⟨L1, B1⟩ := HL.out.kept hp1 g1
      have cr : w1.cell? ⟨gb, 3 + root, none⟩ = some (.int .i64 (o : Int)) := by rw [HY.out]; exact L1.gp.r root hr
      have hg1 := L1.gp.lt
      have C2 := grefer_any gb hb (hb + 1) sz nv G o f w1 L1.gp L1.nd hoG
      obtain ⟨x, hx⟩ : ∃ x, x = refI G o f := ⟨_, rfl⟩
      have C2' : Calls Try.prog 50 #[.pointer (some ⟨gb, 0, none⟩), .int .i64 o, .int .u8 f] w1 fun e w' => e = .returned (.tuple #[.int .i64 x, .bool false]) ∧ Below w1.heap.size w1 w' := by
        rw [hx, ← HRB.out]; exact C2
      have HF : Hid (LK w1 B gb lo hi hb sv vs sz nv p G ∧ Below B w w1) := ⟨L1, B1⟩
      clear C L1 B1 hp1 g1 g0 C2 hx
      go_wp2_with fail
      refine C2'.mono ?_
      rintro e w2 ⟨rfl, B2⟩
      have HF2 : Hid (LK w2 B gb lo hi hb sv vs sz nv p G ∧ Below B w w2) := ⟨HF.out.1.below B2, HF.out.2.trans (HF.out.1.bB B2)⟩
      clear C2' B2
      go_wp2
      go_ret
      exact ⟨rfl, HF2.out.2, _, _, _, HF2.out.1, Nat.le_refl _⟩
    | true =>
      obtain ⟨j, fj, hj, fc⟩ := F1 hB
      have e0 : (fref (ffind csL (dh G).R (dh G).K root f)).e = 0 := by rw [fj]; rfl
      have e0' : (fref (ffind csL p.R p.K root f)).e = 0 := by rw [ref_meet h.sim]; exact e0
      have hpw := plink_pw h.pw root f ht
      have hsim : Sim csL (plinkD csL p root f fr) { dh G with C := set2 (dh G).C (o + 1) j ((dh G).R fr : Int) } := by
        have := link_meet h.sim root f fr ht e0'
        rw [fj] at this
        simp only [] at this
        have ep : plinkD csL p root f fr = { p with F := set2 p.F (ffind csL p.R p.K root f).n (ffind csL p.R p.K root f).i (p.R fr) } := by
          unfold plinkD; rw [if_pos (by rw [frf_ok _ ht]; exact e0'), Int.toNat_natCast]
        rw [ep]; exact this
      rw [e0] at C
      have HRB : Hid (refB G o f = true) := hB
      generalize plinkD csL p root f fr = p' at C hpw hsim
      obtain ⟨z, hz⟩ : ∃ z, z = G.R fr := ⟨_, rfl⟩
      have hRz : (dh G).R fr = (z + 1).toNat := by rw [hz]; rfl
      have HZ : Hid (z = G.R fr ∧ -1 ≤ z ∧ z < G.n) := ⟨hz, by rw [hz]; exact hRf.1, by rw [hz]; exact hRf.2⟩
      have HS : Hid (Sim csL p' { dh G with C := set2 (dh G).C (o + 1) j (((z + 1).toNat : Nat) : Int) } ∧ j = if f = 97 then 1 else 2) := ⟨by rw [← hRz]; exact hsim, hj⟩
      obtain ⟨x, hx⟩ : ∃ x, x = refI G o f := ⟨_, rfl⟩
      have HX : Hid (x = refI G o f) := hx
      clear h hy h0 e0 e0' hRr F2 hB ho hsim F1 fj fc hRf hz hRz hj hx
      go_enter Try.func43, Try.ntmps43
      go_wp2_with fail
      refine C.mono ?_
      rintro e w1 ⟨rfl, hp1, g1⟩
      obtain ⟨P1, P2, P3, P4, P5, P6⟩ := HL.out.heap hp1 g1 hpw
      have cr : w1.cell? ⟨gb, 3 + root, none⟩ = some (.int .i64 (o : Int)) := by rw [HY.out]; exact P3.r root hr
      have hg1 := P3.lt
      have C2 := grefer_any gb hb (hb + 1) sz nv G o f w1 P3 P4 hoG
      have C2' : Calls Try.prog 50 #[.pointer (some ⟨gb, 0, none⟩), .int .i64 o, .int .u8 f] w1 fun e w' => e = .returned (.tuple #[.int .i64 x, .bool true]) ∧ Below w1.heap.size w1 w' := by
        rw [HX.out, ← HRB.out]; exact C2
      have HP1 : Hid (HP w1 hb sv sz p'.R p'.K p'.N p'.F ∧ ClsIn w1 lo hi (.slice sv.a sv.n sv.c) vs csL ∧ GP w1 gb hb sz nv G.R ∧ ND w1 (hb + 1) nv G ∧ Below B w w1) := ⟨P1, P2, P3, P4, P6⟩
      clear C hp1 g1 g0 C2 P1 P2 P3 P4 P5 P6
      go_wp2_with fail
      refine C2'.mono ?_
      rintro e w2 ⟨rfl, B2⟩
      obtain ⟨P1, P2, P3, P4, P6⟩ := HP1.out
      have L0 := HL.out
      have Q1 := P1.below B2
      have Q2 : ClsIn w2 lo hi (.slice sv.a sv.n sv.c) vs csL := P2.keep fun b _ hb' => B2.block b (by have := P1.lt; have := L0.b2; omega)
      have Q3 := P3.below B2
      have Q4 := P4.below B2
      have B12 : Below B w w2 := P6.trans (B2.mono (by have := L0.b0; have := P3.lt; omega))
      obtain ⟨na, nc, hnv⟩ := Q4.shape
      subst hnv
      obtain ⟨ng, hna, hnb, hnl, hnc⟩ := Q4.cells.2.2 o hoG
      subst hna
      have cf := Q3.r fr ht
      rw [← HZ.out.1] at cf
      have cn := Q3.n
      have c2 := hnc.c2
      have c3 := hnc.c3
      have fz2 := hnc.fz (o * 4 + 2)
      have fz3 := hnc.fz (o * 4 + 3)
      have hg2 := Q3.lt
      obtain ⟨n, hn⟩ : ∃ n, n = G.n := ⟨_, rfl⟩
      have hob : (0 : Int) ≤ (o : Int) ∧ (o : Int) < (n : Int) := by omega
      rw [← hn] at cn
      have HQ : Hid (HP w2 hb sv sz p'.R p'.K p'.N p'.F ∧ ClsIn w2 lo hi (.slice sv.a sv.n sv.c) vs csL ∧ GP w2 gb hb sz (.slice (some ⟨ng, 0, none⟩) G.n nc) G.R ∧ ND w2 (hb + 1) (.slice (some ⟨ng, 0, none⟩) G.n nc) G ∧ Below B w w2) := ⟨Q1, Q2, Q3, Q4, B12⟩
      have hBn : B ≤ ng := by have := L0.b0; have := L0.b1; have := L0.b2; have := L0.b3; omega
      clear C2' B2 P1 P2 P3 P4 P6 Q1 Q2 Q3 Q4 B12 L0 hnc hn
      rcases hf with rfl | rfl
      · go_wp2
        refine stillTail 13 rfl (by kernel_rfl) ?_
        simp only [List.take_succ_cons, List.take_zero, List.drop_succ_cons, List.drop_zero]
        repeat still_step
        refine wpStill_nil ?_
        go_wp2
        go_ret
        obtain ⟨R1, R2, R3, R4, R5⟩ := HQ.out
        have hs : Sim csL p' (dh (setA G o z)) := by
          have := HS.out; rw [this.2] at this; exact sim_setA HZ.out.2.1 rfl this.1
        refine ⟨rfl, (R5.trans ((gb_below_drewN w2 1).mono (Nat.le_of_lt (Nat.lt_of_le_of_lt hBn hnl)))).setCell (by show B ≤ ng; exact hBn) _, .slice (some ⟨ng, 0, none⟩) G.n nc, p', setA G o z, ?_, Nat.le_refl _⟩
        exact LK.mkNode (w := w2.drew) (k := 2) HL.out (R2.keep fun _ _ _ => rfl) (R3.keep rfl) R4 rfl hoG (by decide) _ rfl rfl (node_a G o z) (R1.kept rfl) hpw hs (gw_setA HL.out.gw o HZ.out.2.1 HZ.out.2.2)
      · have hc78 : G.c o = 78 := by have := HRB.out; unfold refB at this; rw [if_neg (by decide)] at this; simpa using this
        have HC : Hid (G.c o = 78) := hc78
        clear hc78
        go_wp2
        refine stillTail 13 rfl (by kernel_rfl) ?_
        simp only [List.take_succ_cons, List.take_zero, List.drop_succ_cons, List.drop_zero]
        repeat still_step
        refine wpStill_nil ?_
        go_wp2
        go_ret
        obtain ⟨R1, R2, R3, R4, R5⟩ := HQ.out
        have hs : Sim csL p' (dh (setB G o z)) := by
          have := HS.out; rw [this.2] at this; exact sim_setB HZ.out.2.1 rfl this.1
        refine ⟨rfl, (R5.trans ((gb_below_drewN w2 1).mono (Nat.le_of_lt (Nat.lt_of_le_of_lt hBn hnl)))).setCell (by show B ≤ ng; exact hBn) _, .slice (some ⟨ng, 0, none⟩) G.n nc, p', setB G o z, ?_, Nat.le_refl _⟩
        exact LK.mkNode (w := w2.drew) (k := 3) HL.out (R2.keep fun _ _ _ => rfl) (R3.keep rfl) R4 rfl hoG (by decide) _ rfl rfl (node_b G o z) (R1.kept rfl) hpw hs (gw_setB HL.out.gw o HZ.out.2.1 HZ.out.2.2 HC.out)
end Go.Proofs.Ythckelcjncnalaa
