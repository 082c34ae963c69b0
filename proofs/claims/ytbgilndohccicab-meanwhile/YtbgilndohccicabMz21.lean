import Derived.Test.YtbgilndohccicabMz20
namespace Go.Proofs.Ytbgilndohccicab
open Go.RowKit

theorem plink_pw {p : PH} (hP : Pw p) (root name : Int) {fr : Nat} (hf : fr < 8) : Pw (plinkD csL p root name fr) := by
  unfold plinkD
  split
  · rw [Int.toNat_natCast]; exact hP.setRef _ _ _ (hP.root fr hf)
  · exact hP
def setA (G : GG) (o : Nat) (y : Int) : GG := { G with a := set1 G.a o y }
def setB (G : GG) (o : Nat) (y : Int) : GG := { G with b := set1 G.b o y }
def setF (G : GG) (o : Nat) (f y : Int) : GG := if f = 97 then setA G o y else setB G o y
theorem gw_setA {G : GG} (h : GW G) (o : Nat) {y : Int} (h1 : -1 ≤ y) (h2 : y < G.n) : GW (setA G o y) := by
  refine ⟨h.R, fun j hj => ?_, h.b, h.c, h.v⟩
  show -1 ≤ set1 G.a o y j ∧ set1 G.a o y j < G.n
  by_cases e : j = o
  · subst e; rw [set1_self]; exact ⟨h1, h2⟩
  · rw [set1_ne _ _ e]; exact h.a j hj
theorem gw_setB {G : GG} (h : GW G) (o : Nat) {y : Int} (h1 : -1 ≤ y) (h2 : y < G.n) (hc : G.c o = 78) : GW (setB G o y) := by
  refine ⟨h.R, h.a, fun j hj => ?_, fun j hj => ?_, h.v⟩
  · show -1 ≤ set1 G.b o y j ∧ set1 G.b o y j < G.n
    by_cases e : j = o
    · subst e; rw [set1_self]; exact ⟨h1, h2⟩
    · rw [set1_ne _ _ e]; exact h.b j hj
  · show G.c j = 78 ∨ (G.c j = 81 ∧ set1 G.b o y j = -1)
    by_cases e : j = o
    · subst e; exact .inl hc
    · rw [set1_ne _ _ e]; exact h.c j hj
/-- The reference in the document's heap. -/
theorem sim_setA {p : PH} {G : GG} {o : Nat} {y : Int} (h1 : -1 ≤ y) {z : Nat} (hz : z = (y + 1).toNat) (h : Sim csL p { dh G with C := set2 (dh G).C (o + 1) 1 (z : Int) }) : Sim csL p (dh (setA G o y)) := by
  refine h.congrD (fun _ _ => rfl) rfl (fun _ _ _ => rfl) (fun x j hx _ => ?_)
  show (if j = 0 then G.v (x - 1) else if j = 1 then set1 G.a o y (x - 1) + 1 else if j = 2 then G.b (x - 1) + 1 else 0) = set2 (dh G).C (o + 1) 1 (z : Int) x j
  by_cases e : x = o + 1 ∧ j = 1
  · obtain ⟨rfl, rfl⟩ := e
    rw [set2_self, if_neg (by decide), if_pos rfl, Nat.add_sub_cancel, set1_self, hz]; omega
  · rw [set2_ne _ _ e]
    show _ = (if j = 0 then G.v (x - 1) else if j = 1 then G.a (x - 1) + 1 else if j = 2 then G.b (x - 1) + 1 else 0)
    by_cases ej : j = 1
    · have : x - 1 ≠ o := fun e' => e ⟨by omega, ej⟩
      rw [set1_ne _ _ this]
    · rw [if_neg ej, if_neg ej]
theorem sim_setB {p : PH} {G : GG} {o : Nat} {y : Int} (h1 : -1 ≤ y) {z : Nat} (hz : z = (y + 1).toNat) (h : Sim csL p { dh G with C := set2 (dh G).C (o + 1) 2 (z : Int) }) : Sim csL p (dh (setB G o y)) := by
  refine h.congrD (fun _ _ => rfl) rfl (fun _ _ _ => rfl) (fun x j hx _ => ?_)
  show (if j = 0 then G.v (x - 1) else if j = 1 then G.a (x - 1) + 1 else if j = 2 then set1 G.b o y (x - 1) + 1 else 0) = set2 (dh G).C (o + 1) 2 (z : Int) x j
  by_cases e : x = o + 1 ∧ j = 2
  · obtain ⟨rfl, rfl⟩ := e
    rw [set2_self, if_neg (by decide), if_neg (by decide), if_pos rfl, Nat.add_sub_cancel, set1_self, hz]; omega
  · rw [set2_ne _ _ e]
    show _ = (if j = 0 then G.v (x - 1) else if j = 1 then G.a (x - 1) + 1 else if j = 2 then G.b (x - 1) + 1 else 0)
    by_cases ej : j = 2
    · have : x - 1 ≠ o := fun e' => e ⟨by omega, ej⟩
      rw [set1_ne _ _ this]
    · rw [if_neg ej, if_neg ej]
theorem sim_setV {p : PH} {G : GG} {o : Nat} {y : Int} (h : Sim csL p { dh G with C := set2 (dh G).C (o + 1) 0 y }) : Sim csL p (dh { G with v := set1 G.v o y }) := by
  refine h.congrD (fun _ _ => rfl) rfl (fun _ _ _ => rfl) (fun x j hx _ => ?_)
  show (if j = 0 then set1 G.v o y (x - 1) else if j = 1 then G.a (x - 1) + 1 else if j = 2 then G.b (x - 1) + 1 else 0) = set2 (dh G).C (o + 1) 0 y x j
  by_cases e : x = o + 1 ∧ j = 0
  · obtain ⟨rfl, rfl⟩ := e
    rw [set2_self, if_pos rfl, Nat.add_sub_cancel, set1_self]
  · rw [set2_ne _ _ e]
    show _ = (if j = 0 then G.v (x - 1) else if j = 1 then G.a (x - 1) + 1 else if j = 2 then G.b (x - 1) + 1 else 0)
    by_cases ej : j = 0
    · have : x - 1 ≠ o := fun e' => e ⟨by omega, ej⟩
      rw [set1_ne _ _ this]
    · rw [if_neg ej, if_neg ej]
/-- A cell of a node is set, on both sides. -/
theorem LK.mkNode {w w0 : World} {P : Nat → Prop} {gb lo hi hb : Nat} {sv : SV} {vs : List (Int × SV)} {sz : Int} {nv nv0 : Value} {p p0 : PH} {G G0 G' : GG} (h : LK w0 P gb lo hi hb sv vs sz nv0 p0 G0) (cl : ClsIn w lo hi (.slice sv.a sv.n sv.c) vs csL) (gp : GP w gb hb sz nv G.R) (nd : ND w (hb + 1) nv G) {g o k : Nat} (hg : nv.ownBlock = some g) (ho : o < G.n) (hk : k < 4) (x : Value) (hn : G'.n = G.n) (hR : G'.R = G.R)
    (he : ∀ j, j < G.n → nodeV G' j = if j = o then (nodeV G o).set k x else nodeV G j) (hp : HP w hb sv sz p.R p.K p.N p.F) (pw : Pw p) (hs : Sim csL p (dh G')) (hw : GW G') (n2 : ∀ g, nv.ownBlock = some g → ¬ P g) (pl : ∀ k, P k → k < w.heap.size) : LK (w.setCell ⟨g, o * 4 + k, none⟩ x) P gb lo hi hb sv vs sz nv p G' := by
  have q1 := h.b1; have q2 := h.b2; have q3 := h.b3
  have hgl := (World.ownsRow.lt nd g hg).1
  obtain ⟨na, nc, hnv⟩ := nd.shape
  subst hnv
  obtain ⟨g', hga, _⟩ := nd.cells.2.2 o ho
  subst hga
  have hgg : g' = g := by simpa [Value.ownBlock] using hg
  subst hgg
  refine ⟨hp.kept (heap_setCell_other _ _ _ _ (by show hb ≠ g'; omega)), cl.keep fun b _ hb2 => heap_setCell_other _ _ _ _ (by show b ≠ g'; omega), ?_, nd.set ho hk x hn he, h.n0, h.n1, n2, pl_set pl _ _, h.b1, h.b2, h.b3, pw, hs, hw, h.s0, h.s1⟩
  rw [hR]
  exact gp.keep (heap_setCell_other _ _ _ _ (by show gb ≠ g'; omega))
end Go.Proofs.Ytbgilndohccicab
namespace Go.Proofs.Ytbgilndohccicab
open Go.RowKit

theorem node_a (G : GG) (o : Nat) (y : Int) : ∀ j, j < G.n → nodeV (setA G o y) j = if j = o then (nodeV G o).set 2 (.int .i64 y) else nodeV G j := by
  intro j _
  show [Value.int .u8 (G.c j), .int .i64 (G.v j), .int .i64 (set1 G.a o y j), .int .i64 (G.b j)] = _
  by_cases e : j = o
  · subst e; rw [if_pos rfl, set1_self]; rfl
  · rw [if_neg e, set1_ne _ _ e]; rfl
theorem node_b (G : GG) (o : Nat) (y : Int) : ∀ j, j < G.n → nodeV (setB G o y) j = if j = o then (nodeV G o).set 3 (.int .i64 y) else nodeV G j := by
  intro j _
  show [Value.int .u8 (G.c j), .int .i64 (G.v j), .int .i64 (G.a j), .int .i64 (set1 G.b o y j)] = _
  by_cases e : j = o
  · subst e; rw [if_pos rfl, set1_self]; rfl
  · rw [if_neg e, set1_ne _ _ e]; rfl
theorem node_v (G : GG) (o : Nat) (y : Int) : ∀ j, j < G.n → nodeV { G with v := set1 G.v o y } j = if j = o then (nodeV G o).set 1 (.int .i64 y) else nodeV G j := by
  intro j _
  show [Value.int .u8 (G.c j), .int .i64 (set1 G.v o y j), .int .i64 (G.a j), .int .i64 (G.b j)] = _
  by_cases e : j = o
  · subst e; rw [if_pos rfl, set1_self]; rfl
  · rw [if_neg e, set1_ne _ _ e]; rfl
/-- What link makes of the graph. -/
def lnkG (G : GG) (root : Nat) (f : Int) (fr : Nat) : GG := if G.R root < 0 then G else if refB G (G.R root).toNat f = true then setF G (G.R root).toNat f (G.R fr) else G
set_option maxRecDepth 20000 in
set_option maxHeartbeats 2000000 in
theorem glink_any {P : Nat → Prop} {gb lo hi hb : Nat} {sv : SV} {vs : List (Int × SV)} {sz : Int} {nv : Value} {p : PH} {G : GG} {w : World} (h : LK w P gb lo hi hb sv vs sz nv p G) (root fr : Nat) (hr : root < 8) (ht : fr < 8) (f : Int) (hf : f = 97 ∨ f = 98) :
    Calls Try.prog 48 #[.pointer (some ⟨gb, 0, none⟩), .int .i64 root, .int .u8 f, .int .i64 fr] w (GOk P gb lo hi hb sv vs sz p.N (lnkG G root f fr) w) := by
  have C := plink_any hb sv sz p lo vs csL w h.hp h.cl.cls h.pw csL_6 root f fr
  unfold POp at C
  rw [frf_ok _ ht, ref_meet h.sim root f] at C
  have HL : Hid (LK w P gb lo hi hb sv vs sz nv p G) := h
  have g0 := h.gp.h
  have hgb := h.gp.lt
  have hRr := h.gw.R root hr
  have hRf := h.gw.R fr ht
  have hrb : (0 : Int) ≤ (root : Int) ∧ (root : Int) < 8 := by omega
  have htb : (0 : Int) ≤ (fr : Int) ∧ (fr : Int) < 8 := by omega
  obtain ⟨y, hy⟩ : ∃ y, y = G.R root := ⟨_, rfl⟩
  have HY : Hid (y = G.R root) := hy
  unfold GOk
  by_cases h0 : G.R root < 0
  · have HG : Hid (lnkG G root f fr = G) := by show lnkG G root f fr = G; unfold lnkG; rw [if_pos h0]
    have e9 : (fref (ffind csL (dh G).R (dh G).K root f)).e = 9 := by rw [gf_nil f hr h0]; rfl
    have ep : plinkD csL p root f fr = p := by
      unfold plinkD; rw [if_neg]; rw [frf_ok _ ht, ref_meet h.sim, e9]; decide
    rw [e9, ep] at C
    have hy0 : y < 0 := by rw [hy]; exact h0
    clear h hy h0 e9 ep hRr hRf
    go_enter Try.func48, Try.ntmps48
    go_wp2_with fail
    refine C.mono ?_
    rintro e w1 ⟨rfl, hp1, g1⟩
    obtain ⟨L1, B1⟩ := HL.out.kept hp1 g1
    have cr : w1.cell? ⟨gb, 3 + root, none⟩ = some (.int .i64 y) := by rw [HY.out]; exact L1.gp.r root hr
    have hg1 := L1.gp.lt
    have HF : Hid (LK w1 P gb lo hi hb sv vs sz nv p G ∧ Prot P w w1) := ⟨L1, B1⟩
    clear C L1 B1 hp1 g1 g0
    go_wp2
    go_ret
    rw [HG.out]
    exact ⟨rfl, HF.out.2, _, _, HF.out.1, fun _ => rfl⟩
  · obtain ⟨o, ho⟩ : ∃ o : Nat, G.R root = o := ⟨(G.R root).toNat, by omega⟩
    have hoG : o < G.n := by omega
    obtain ⟨F1, F2⟩ := gf_ref h.gw hr hoG ho hf
    have hyo : y = o := by rw [hy]; exact ho
    subst hyo
    have hny : ¬ (o : Int) < 0 := by omega
    cases hB : refB G o f with
    | false =>
      have HG : Hid (lnkG G root f fr = G) := by show lnkG G root f fr = G; unfold lnkG; rw [if_neg h0, ho, Int.toNat_natCast, hB, if_neg (by decide)]
      have e5 : (fref (ffind csL (dh G).R (dh G).K root f)).e = 5 := by rw [F2 hB]; rfl
      have ep : plinkD csL p root f fr = p := by
        unfold plinkD; rw [if_neg]; rw [frf_ok _ ht, ref_meet h.sim, e5]; decide
      rw [e5, ep] at C
      have HRB : Hid (refB G o f = false) := hB
      clear h hy h0 e5 ep hRr F1 F2 hB ho hRf
      go_enter Try.func48, Try.ntmps48
      go_wp2_with fail
      refine C.mono ?_
      rintro e w1 ⟨rfl, hp1, g1⟩
      obtain ⟨L1, B1⟩ := HL.out.kept hp1 g1
      have cr : w1.cell? ⟨gb, 3 + root, none⟩ = some (.int .i64 (o : Int)) := by rw [HY.out]; exact L1.gp.r root hr
      have hg1 := L1.gp.lt
      have C2 := grefer_any gb hb (hb + 1) sz nv G o f w1 L1.gp L1.nd hoG
      obtain ⟨x, hx⟩ : ∃ x, x = refI G o f := ⟨_, rfl⟩
      have C2' : Calls Try.prog 76 #[.pointer (some ⟨gb, 0, none⟩), .int .i64 o, .int .u8 f] w1 fun e w' => e = .returned (.tuple #[.int .i64 x, .bool false]) ∧ Below w1.heap.size w1 w' := by
        rw [hx, ← HRB.out]; exact C2
      have HF : Hid (LK w1 P gb lo hi hb sv vs sz nv p G ∧ Prot P w w1) := ⟨L1, B1⟩
      clear C L1 B1 hp1 g1 g0 C2 hx
      go_wp2_with fail
      refine C2'.mono ?_
      rintro e w2 ⟨rfl, B2⟩
      have HF2 : Hid (LK w2 P gb lo hi hb sv vs sz nv p G ∧ Prot P w w2) := ⟨HF.out.1.below B2, HF.out.2.trans (HF.out.1.bB B2)⟩
      clear C2' B2
      go_wp2
      go_ret
      rw [HG.out]
      exact ⟨rfl, HF2.out.2, _, _, HF2.out.1, fun _ => rfl⟩
    | true =>
      have HG : Hid (lnkG G root f fr = setF G o f (G.R fr)) := by show lnkG G root f fr = _; unfold lnkG; rw [if_neg h0, ho, Int.toNat_natCast, hB, if_pos rfl]
      have HNN : Hid (∀ j, (plinkD csL p root f fr).N 201 j = p.N 201 j) := by intro j; unfold plinkD; split <;> rfl
      obtain ⟨j, fj, hj, fc⟩ := F1 hB
      have e0 : (fref (ffind csL (dh G).R (dh G).K root f)).e = 0 := by rw [fj]; rfl
      have e0' : (fref (ffind csL p.R p.K root f)).e = 0 := by rw [ref_meet h.sim]; exact e0
      have hpw := plink_pw h.pw root f ht
      have hsim : Sim csL (plinkD csL p root f fr) { dh G with C := set2 (dh G).C (o + 1) j ((dh G).R fr : Int) } := by
        have := link_meet h.sim root f fr ht e0'
        rw [fj] at this
        simp only [] at this
        have ep : plinkD csL p root f fr = { p with F := set2 p.F (ffind csL p.R p.K root f).n (ffind csL p.R p.K root f).i (p.R fr) } := by
          unfold plinkD; rw [if_pos (by rw [frf_ok _ ht]; exact e0'), Int.toNat_natCast]
        rw [ep]; exact this
      rw [e0] at C
      have HRB : Hid (refB G o f = true) := hB
      generalize plinkD csL p root f fr = p' at C hpw hsim HNN
      obtain ⟨z, hz⟩ : ∃ z, z = G.R fr := ⟨_, rfl⟩
      have hRz : (dh G).R fr = (z + 1).toNat := by rw [hz]; rfl
      have HZ : Hid (z = G.R fr ∧ -1 ≤ z ∧ z < G.n) := ⟨hz, by rw [hz]; exact hRf.1, by rw [hz]; exact hRf.2⟩
      have HS : Hid (Sim csL p' { dh G with C := set2 (dh G).C (o + 1) j (((z + 1).toNat : Nat) : Int) } ∧ j = if f = 97 then 1 else 2) := ⟨by rw [← hRz]; exact hsim, hj⟩
      obtain ⟨x, hx⟩ : ∃ x, x = refI G o f := ⟨_, rfl⟩
      have HX : Hid (x = refI G o f) := hx
      clear h hy h0 e0 e0' hRr F2 hB ho hsim F1 fj fc hRf hz hRz hj hx
      go_enter Try.func48, Try.ntmps48
      go_wp2_with fail
      refine C.mono ?_
      rintro e w1 ⟨rfl, hp1, g1⟩
      obtain ⟨P1, P2, P3, P4, P5, P6⟩ := HL.out.heap hp1 g1 hpw
      have cr : w1.cell? ⟨gb, 3 + root, none⟩ = some (.int .i64 (o : Int)) := by rw [HY.out]; exact P3.r root hr
      have hg1 := P3.lt
      have C2 := grefer_any gb hb (hb + 1) sz nv G o f w1 P3 P4 hoG
      have C2' : Calls Try.prog 76 #[.pointer (some ⟨gb, 0, none⟩), .int .i64 o, .int .u8 f] w1 fun e w' => e = .returned (.tuple #[.int .i64 x, .bool true]) ∧ Below w1.heap.size w1 w' := by
        rw [HX.out, ← HRB.out]; exact C2
      have HP1 : Hid (HP w1 hb sv sz p'.R p'.K p'.N p'.F ∧ ClsIn w1 lo hi (.slice sv.a sv.n sv.c) vs csL ∧ GP w1 gb hb sz nv G.R ∧ ND w1 (hb + 1) nv G ∧ Prot P w w1) := ⟨P1, P2, P3, P4, P6⟩
      clear C hp1 g1 g0 C2 P1 P2 P3 P4 P5 P6
      go_wp2_with fail
      refine C2'.mono ?_
      rintro e w2 ⟨rfl, B2⟩
      obtain ⟨P1, P2, P3, P4, P6⟩ := HP1.out
      have L0 := HL.out
      have Q1 := P1.below B2
      have Q2 : ClsIn w2 lo hi (.slice sv.a sv.n sv.c) vs csL := P2.keep fun b _ hb' => B2.block b (by have := P1.lt; have := L0.b2; omega)
      have Q3 := P3.below B2
      have Q4 := P4.below B2
      have B12 : Prot P w w2 := P6.trans (Prot.of (P6.lt L0.pl) B2)
      obtain ⟨na, nc, hnv⟩ := Q4.shape
      subst hnv
      obtain ⟨ng, hna, hnb, hnl, hnc⟩ := Q4.cells.2.2 o hoG
      subst hna
      have cf := Q3.r fr ht
      rw [← HZ.out.1] at cf
      have cn := Q3.n
      have c2 := hnc.c2
      have c3 := hnc.c3
      have fz2 := hnc.fz (o * 4 + 2)
      have fz3 := hnc.fz (o * 4 + 3)
      have hg2 := Q3.lt
      obtain ⟨n, hn⟩ : ∃ n, n = G.n := ⟨_, rfl⟩
      have hob : (0 : Int) ≤ (o : Int) ∧ (o : Int) < (n : Int) := by omega
      rw [← hn] at cn
      have HQ : Hid (HP w2 hb sv sz p'.R p'.K p'.N p'.F ∧ ClsIn w2 lo hi (.slice sv.a sv.n sv.c) vs csL ∧ GP w2 gb hb sz (.slice (some ⟨ng, 0, none⟩) G.n nc) G.R ∧ ND w2 (hb + 1) (.slice (some ⟨ng, 0, none⟩) G.n nc) G ∧ Prot P w w2) := ⟨Q1, Q2, Q3, Q4, B12⟩
      have hBn : ¬ P ng := L0.n2 ng rfl
      have HBN : Hid (¬ P ng) := hBn
      clear C2' B2 P1 P2 P3 P4 P6 Q1 Q2 Q3 Q4 B12 L0 hnc hn hBn
      rcases hf with rfl | rfl
      · go_wp2
        refine stillTail 13 rfl (by kernel_rfl) ?_
        simp only [List.take_succ_cons, List.take_zero, List.drop_succ_cons, List.drop_zero]
        repeat still_step
        refine wpStill_nil ?_
        go_wp2
        go_ret
        obtain ⟨R1, R2, R3, R4, R5⟩ := HQ.out
        have hs : Sim csL p' (dh (setA G o z)) := by
          have := HS.out; rw [this.2] at this; exact sim_setA HZ.out.2.1 rfl this.1
        have hpl := R5.lt HL.out.pl
        have eG : lnkG G root 97 fr = setA G o z := by rw [HG.out, ← HZ.out.1]; rfl
        rw [eG]
        refine ⟨rfl, (R5.trans (Prot.of hpl (gb_below_drewN w2 1))).setCell HBN.out _, .slice (some ⟨ng, 0, none⟩) G.n nc, p', ?_, HNN.out⟩
        exact LK.mkNode (w := w2.drew) (k := 2) HL.out (R2.keep fun _ _ _ => rfl) (R3.keep rfl) R4 rfl hoG (by decide) _ rfl rfl (node_a G o z) (R1.kept rfl) hpw hs (gw_setA HL.out.gw o HZ.out.2.1 HZ.out.2.2) HL.out.n2 hpl
      · have hc78 : G.c o = 78 := by have := HRB.out; unfold refB at this; rw [if_neg (by decide)] at this; simpa using this
        have HC : Hid (G.c o = 78) := hc78
        clear hc78
        go_wp2
        refine stillTail 13 rfl (by kernel_rfl) ?_
        simp only [List.take_succ_cons, List.take_zero, List.drop_succ_cons, List.drop_zero]
        repeat still_step
        refine wpStill_nil ?_
        go_wp2
        go_ret
        obtain ⟨R1, R2, R3, R4, R5⟩ := HQ.out
        have hs : Sim csL p' (dh (setB G o z)) := by
          have := HS.out; rw [this.2] at this; exact sim_setB HZ.out.2.1 rfl this.1
        have hpl := R5.lt HL.out.pl
        have eG : lnkG G root 98 fr = setB G o z := by rw [HG.out, ← HZ.out.1]; rfl
        rw [eG]
        refine ⟨rfl, (R5.trans (Prot.of hpl (gb_below_drewN w2 1))).setCell HBN.out _, .slice (some ⟨ng, 0, none⟩) G.n nc, p', ?_, HNN.out⟩
        exact LK.mkNode (w := w2.drew) (k := 3) HL.out (R2.keep fun _ _ _ => rfl) (R3.keep rfl) R4 rfl hoG (by decide) _ rfl rfl (node_b G o z) (R1.kept rfl) hpw hs (gw_setB HL.out.gw o HZ.out.2.1 HZ.out.2.2 HC.out) HL.out.n2 hpl
end Go.Proofs.Ytbgilndohccicab
namespace Go.Proofs.Ytbgilndohccicab
open Go.RowKit

def setV (G : GG) (o : Nat) (y : Int) : GG := { G with v := set1 G.v o y }
theorem gw_setV {G : GG} (h : GW G) (o : Nat) {y : Int} (h1 : -9223372036854775808 ≤ y) (h2 : y ≤ 9223372036854775807) : GW (setV G o y) := by
  refine ⟨h.R, h.a, h.b, h.c, fun j hj => ?_⟩
  show -9223372036854775808 ≤ set1 G.v o y j ∧ set1 G.v o y j ≤ 9223372036854775807
  by_cases e : j = o
  · subst e; rw [set1_self]; exact ⟨h1, h2⟩
  · rw [set1_ne _ _ e]; exact h.v j hj
theorem set1_twice {α : Type} (f : Nat → α) (o : Nat) (x y : α) : set1 (set1 f o x) o y = set1 f o y := by
  funext j
  by_cases e : j = o
  · subst e; rw [set1_self, set1_self]
  · rw [set1_ne _ _ e, set1_ne _ _ e, set1_ne _ _ e]
theorem setV_twice (G : GG) (o : Nat) (x y : Int) : setV (setV G o x) o y = setV G o y := by
  unfold setV; simp only [set1_twice]
/-- A cell of a node is set: the world's side alone. -/
theorem LK.mkCell {w w0 : World} {P : Nat → Prop} {gb lo hi hb : Nat} {sv : SV} {vs : List (Int × SV)} {sz : Int} {nv nv0 : Value} {p p0 : PH} {G G0 G' : GG} (h : LK w0 P gb lo hi hb sv vs sz nv0 p0 G0) (cl : ClsIn w lo hi (.slice sv.a sv.n sv.c) vs csL) (gp : GP w gb hb sz nv G.R) (nd : ND w (hb + 1) nv G) {g o k : Nat} (hg : nv.ownBlock = some g) (ho : o < G.n) (hk : k < 4) (x : Value) (hn : G'.n = G.n) (hR : G'.R = G.R)
    (he : ∀ j, j < G.n → nodeV G' j = if j = o then (nodeV G o).set k x else nodeV G j) (hp : HP w hb sv sz p.R p.K p.N p.F) :
    HP (w.setCell ⟨g, o * 4 + k, none⟩ x) hb sv sz p.R p.K p.N p.F ∧ ClsIn (w.setCell ⟨g, o * 4 + k, none⟩ x) lo hi (.slice sv.a sv.n sv.c) vs csL ∧ GP (w.setCell ⟨g, o * 4 + k, none⟩ x) gb hb sz nv G'.R ∧ ND (w.setCell ⟨g, o * 4 + k, none⟩ x) (hb + 1) nv G' := by
  have q1 := h.b1; have q2 := h.b2; have q3 := h.b3
  have hgl := (World.ownsRow.lt nd g hg).1
  obtain ⟨na, nc, hnv⟩ := nd.shape
  subst hnv
  obtain ⟨g', hga, _⟩ := nd.cells.2.2 o ho
  subst hga
  have hgg : g' = g := by simpa [Value.ownBlock] using hg
  subst hgg
  refine ⟨hp.kept (heap_setCell_other _ _ _ _ (by show hb ≠ g'; omega)), cl.keep fun b _ hb2 => heap_setCell_other _ _ _ _ (by show b ≠ g'; omega), ?_, nd.set ho hk x hn he⟩
  rw [hR]
  exact gp.keep (heap_setCell_other _ _ _ _ (by show gb ≠ g'; omega))
/-- What put makes of the graph. -/
def putG (G : GG) (root : Nat) (v : Int) : GG := if G.R root < 0 then G else setV G (G.R root).toNat (wrK (if G.c (G.R root).toNat = 78 then 108 else 119) v)
set_option maxRecDepth 20000 in
set_option maxHeartbeats 2000000 in
theorem gput_any {P : Nat → Prop} {gb lo hi hb : Nat} {sv : SV} {vs : List (Int × SV)} {sz : Int} {nv : Value} {p : PH} {G : GG} {w : World} (h : LK w P gb lo hi hb sv vs sz nv p G) (root : Nat) (hr : root < 8) (v : Int) (hv1 : -9223372036854775808 ≤ v) (hv2 : v ≤ 9223372036854775807) :
    Calls Try.prog 47 #[.pointer (some ⟨gb, 0, none⟩), .int .i64 root, .int .i64 v] w (GOk P gb lo hi hb sv vs sz p.N (putG G root v) w) := by
  have C := put_any hb sv sz p.R p.K p.N p.F lo vs csL w h.hp h.cl.cls h.pw.root csL_6 root 118 v hv1 hv2
  unfold PutPost at C
  rw [(get_meet h.sim root 118).1] at C
  have HL : Hid (LK w P gb lo hi hb sv vs sz nv p G) := h
  have g0 := h.gp.h
  have hgb := h.gp.lt
  have hRr := h.gw.R root hr
  have hrb : (0 : Int) ≤ (root : Int) ∧ (root : Int) < 8 := by omega
  obtain ⟨y, hy⟩ : ∃ y, y = G.R root := ⟨_, rfl⟩
  have HY : Hid (y = G.R root) := hy
  have HV : Hid (-9223372036854775808 ≤ v ∧ v ≤ 9223372036854775807) := ⟨hv1, hv2⟩
  unfold GOk
  by_cases h0 : G.R root < 0
  · have HG : Hid (putG G root v = G) := by show putG G root v = G; unfold putG; rw [if_pos h0]
    have e9 : (fnum (ffind csL (dh G).R (dh G).K root 118)).e = 9 := by rw [gf_nil 118 hr h0]; rfl
    rw [e9, if_neg (by decide)] at C
    have hy0 : y < 0 := by rw [hy]; exact h0
    clear h hy h0 e9 hRr hv1 hv2
    go_enter Try.func47, Try.ntmps47
    go_wp2_with fail
    refine C.mono ?_
    rintro e w1 ⟨rfl, hp1, g1⟩
    obtain ⟨L1, B1⟩ := HL.out.kept hp1 g1
    have cr : w1.cell? ⟨gb, 3 + root, none⟩ = some (.int .i64 y) := by rw [HY.out]; exact L1.gp.r root hr
    have hg1 := L1.gp.lt
    have HF : Hid (LK w1 P gb lo hi hb sv vs sz nv p G ∧ Prot P w w1) := ⟨L1, B1⟩
    clear C L1 B1 hp1 g1 g0
    go_wp2
    go_ret
    rw [HG.out]
    exact ⟨rfl, HF.out.2, _, _, HF.out.1, fun _ => rfl⟩
  · obtain ⟨o, ho⟩ : ∃ o : Nat, G.R root = o := ⟨(G.R root).toNat, by omega⟩
    have hoG : o < G.n := by omega
    have hyo : y = o := by rw [hy]; exact ho
    subst hyo
    have hny : ¬ (o : Int) < 0 := by omega
    have F := gf_v h.gw hr hoG ho
    have e0 : (fnum (ffind csL (dh G).R (dh G).K root 118)).e = 0 := by
      rw [F]; unfold fnum
      simp only []
      rw [if_pos trivial]
      split
      · rfl
      · rfl
    have e0' : (fnum (ffind csL p.R p.K root 118)).e = 0 := by rw [(get_meet h.sim root 118).1]; exact e0
    obtain ⟨x, hx⟩ : ∃ x, x = wrK (if G.c o = 78 then 108 else 119) v := ⟨_, rfl⟩
    have ek : wrK (ffind csL p.R p.K root 118).k v = x := by
      obtain ⟨M, hM⟩ := h.sim
      rw [(find_meet hM root 118).2.2.1, F, hx]
    rw [e0, if_pos rfl, ek] at C
    have hsim := put_meet h.sim root 118 x e0'
    rw [F] at hsim
    have HG : Hid (putG G root v = setV G o x) := by show putG G root v = _; unfold putG; rw [if_neg h0, ho, Int.toNat_natCast, ← hx]
    have HNN : Hid (∀ j, set2 p.N (ffind csL p.R p.K root 118).n (ffind csL p.R p.K root 118).i x 201 j = p.N 201 j) := by
      intro j
      obtain ⟨a1, _, _⟩ := fnum_e0 e0'
      obtain ⟨nn, _, hn8, _, _, _, _, ea⟩ := ffind_at a1
      have hR := h.pw.root nn hn8
      rw [set2_ne _ _ (by rw [ea]; simp only []; omega)]
    obtain ⟨p', hp'⟩ : ∃ p' : PH, p' = { p with N := set2 p.N (ffind csL p.R p.K root 118).n (ffind csL p.R p.K root 118).i x } := ⟨_, rfl⟩
    have hpw : Pw p' := by rw [hp']; exact ⟨h.pw.root, h.pw.ref⟩
    have HN2 : Hid (∀ j, p'.N 201 j = p.N 201 j) := by intro j; rw [hp']; exact HNN.out j
    have C' : Calls Try.prog 15 #[.pointer (some ⟨hb, 0, none⟩), .int .i64 root, .int .u8 118, .int .i64 v] w fun e w' => e = .returned (.int .i64 0) ∧ HP w' hb sv sz p'.R p'.K p'.N p'.F ∧ w.grownBy w' (some hb) := by
      rw [hp']; exact C
    have HS : Hid (Sim csL p' (dh (setV G o x))) := by
      rw [hp']; exact sim_setV hsim
    have hcc := h.gw.c o hoG
    have hcs : (G.c o = 78 ∧ x = v) ∨ (G.c o = 81 ∧ x = (v + 2147483648) % 4294967296 - 2147483648) := by
      rcases hcc with hc | ⟨hc, _⟩
      · left; exact ⟨hc, by rw [hx, if_pos hc]; rfl⟩
      · right; exact ⟨hc, by rw [hx, if_neg (by rw [hc]; decide)]; rfl⟩
    clear h hy h0 e0 e0' hRr ho C hsim F ek hx hcc hp' hv1 hv2
    go_enter Try.func47, Try.ntmps47
    go_wp2_with fail
    refine C'.mono ?_
    rintro e w1 ⟨rfl, hp1, g1⟩
    obtain ⟨P1, P2, P3, P4, P5, P6⟩ := HL.out.heap hp1 g1 hpw
    have cr : w1.cell? ⟨gb, 3 + root, none⟩ = some (.int .i64 (o : Int)) := by rw [HY.out]; exact P3.r root hr
    have hg1 := P3.lt
    have L0 := HL.out
    obtain ⟨na, nc, hnv⟩ := P4.shape
    subst hnv
    obtain ⟨ng, hna, hnb, hnl, hnc⟩ := P4.cells.2.2 o hoG
    subst hna
    have cn := P3.n
    have c0 := hnc.c0
    have c1 := hnc.c1
    have fz1 := hnc.fz (o * 4 + 1)
    obtain ⟨n, hn⟩ : ∃ n, n = G.n := ⟨_, rfl⟩
    have hob : (0 : Int) ≤ (o : Int) ∧ (o : Int) < (n : Int) := by omega
    rw [← hn] at cn
    have HQ : Hid (HP w1 hb sv sz p'.R p'.K p'.N p'.F ∧ ClsIn w1 lo hi (.slice sv.a sv.n sv.c) vs csL ∧ GP w1 gb hb sz (.slice (some ⟨ng, 0, none⟩) G.n nc) G.R ∧ ND w1 (hb + 1) (.slice (some ⟨ng, 0, none⟩) G.n nc) G ∧ Prot P w w1) := ⟨P1, P2, P3, P4, P6⟩
    have HBN : Hid (¬ P ng) := L0.n2 ng rfl
    have hgn : gb ≠ ng := by have := L0.b1; have := L0.b2; have := L0.b3; omega
    clear C' hp1 g1 g0 P1 P2 P3 P4 P5 P6 L0 hnc hn
    rcases hcs with ⟨hc, rfl⟩ | ⟨hc, hx⟩
    · rw [hc] at c0
      have HC : Hid (G.c o = 78) := hc
      clear hc
      go_wp2
      go_ret
      obtain ⟨R1, R2, R3, R4, R5⟩ := HQ.out
      rw [HG.out]
      refine ⟨rfl, R5.setCell HBN.out _, .slice (some ⟨ng, 0, none⟩) G.n nc, p', ?_, HN2.out⟩
      exact LK.mkNode (k := 1) HL.out R2 R3 R4 rfl hoG (by decide) _ rfl rfl (node_v G o x) R1 hpw HS.out (gw_setV HL.out.gw o HV.out.1 HV.out.2) HL.out.n2 (R5.lt HL.out.pl)
    · rw [hc] at c0
      have HC : Hid (G.c o = 81) := hc
      have HX : Hid (x = (v + 2147483648) % 4294967296 - 2147483648) := hx
      clear hc hx
      go_wp2
      go_ret
      have ex : wrap64 (wrap32 v) = x := by rw [HX.out]; unfold wrap64 wrap32; omega
      rw [ex]
      obtain ⟨R1, R2, R3, R4, R5⟩ := HQ.out
      obtain ⟨S1, S2, S3, S4⟩ := LK.mkCell (k := 1) (G' := setV G o v) HL.out R2 R3 R4 rfl hoG (by decide) (.int .i64 v) rfl rfl (node_v G o v) R1
      have hxb := HX.out
      rw [HG.out]
      refine ⟨rfl, (R5.setCell HBN.out _).setCell HBN.out _, .slice (some ⟨ng, 0, none⟩) G.n nc, p', ?_, HN2.out⟩
      have hnode := node_v (setV G o v) o x
      have hG : setV (setV G o v) o x = setV G o x := setV_twice G o v x
      exact LK.mkNode (k := 1) (G := setV G o v) HL.out S2 S3 S4 rfl hoG (by decide) _ rfl rfl (by rw [← hG]; exact hnode) S1 hpw HS.out (gw_setV HL.out.gw o (by omega) (by omega)) HL.out.n2 (pl_set (R5.lt HL.out.pl) _ _)
end Go.Proofs.Ytbgilndohccicab
