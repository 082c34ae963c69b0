import Derived.Test.YtbgilndohccicabMz24
namespace Go.Proofs.Ytbgilndohccicab
open Go.RowKit

theorem dhR_nil {G : GG} {i : Nat} (h : G.R i < 0) : (dh G).R i = 0 := by show (G.R i + 1).toNat = 0; omega
theorem dhR_obj {G : GG} {i o : Nat} (h : G.R i = o) : (dh G).R i = o + 1 := by show (G.R i + 1).toNat = o + 1; omega
theorem gclass_nil {P : Nat → Prop} {gb lo hi hb : Nat} {sv : SV} {vs : List (Int × SV)} {sz : Int} {nv : Value} {p : PH} {G : GG} {w : World} (h : LK w P gb lo hi hb sv vs sz nv p G) (i : Nat) (hi' : i < 8) (h0 : G.R i < 0) :
    Calls Try.prog 53 #[.pointer (some ⟨hb, 0, none⟩), .int .i64 i] w fun e w' => e = .returned (.tuple #[.int .u8 0, .int .i64 9]) ∧ Below w.heap.size w w' := by
  have C := pclass_any hb sv sz p w h.hp h.pw.root i
  have e : pclsI p i = (0, 9) := by
    unfold pclsI
    rw [rtB_of hi', if_neg (by decide), Int.toNat_natCast, if_pos ((class_meet' h.sim i hi').1.2 (dhR_nil h0))]
  rw [e] at C; exact C
theorem gclass_obj {P : Nat → Prop} {gb lo hi hb : Nat} {sv : SV} {vs : List (Int × SV)} {sz : Int} {nv : Value} {p : PH} {G : GG} {w : World} (h : LK w P gb lo hi hb sv vs sz nv p G) (i : Nat) (hi' : i < 8) (o : Nat) (ho : G.R i = o) :
    Calls Try.prog 53 #[.pointer (some ⟨hb, 0, none⟩), .int .i64 i] w fun e w' => e = .returned (.tuple #[.int .u8 (G.c o), .int .i64 0]) ∧ Below w.heap.size w w' := by
  have C := pclass_any hb sv sz p w h.hp h.pw.root i
  have hm := class_meet' h.sim i hi'
  have hd := dhR_obj ho
  have hne : p.R i ≠ 0 := fun e => by have := hm.1.1 e; omega
  have e : pclsI p i = (G.c o, 0) := by
    unfold pclsI
    rw [rtB_of hi', if_neg (by decide), Int.toNat_natCast, if_neg hne, hm.2 hne, hd]
    show (G.c (o + 1 - 1), (0 : Int)) = _
    rw [Nat.add_sub_cancel]
  rw [e] at C; exact C
theorem gget_nil {P : Nat → Prop} {gb lo hi hb : Nat} {sv : SV} {vs : List (Int × SV)} {sz : Int} {nv : Value} {p : PH} {G : GG} {w : World} (h : LK w P gb lo hi hb sv vs sz nv p G) (i : Nat) (hi' : i < 8) (h0 : G.R i < 0) :
    Calls Try.prog 54 #[.pointer (some ⟨hb, 0, none⟩), .int .i64 i, .int .u8 118] w fun e w' => e = .returned (.tuple #[.int .i64 0, .int .i64 9]) ∧ Below w.heap.size w w' := by
  have C := get_any hb sv sz p.R p.K p.N p.F lo vs csL w h.hp h.cl.cls h.pw.root csL_6 i 118
  unfold GetPost at C
  have e9 : (fnum (ffind csL (dh G).R (dh G).K i 118)).e = 9 := by rw [gf_nil 118 hi' h0]; rfl
  rw [(get_meet h.sim i 118).1, e9, if_neg (by decide)] at C
  exact C
theorem gget_obj {P : Nat → Prop} {gb lo hi hb : Nat} {sv : SV} {vs : List (Int × SV)} {sz : Int} {nv : Value} {p : PH} {G : GG} {w : World} (h : LK w P gb lo hi hb sv vs sz nv p G) (i : Nat) (hi' : i < 8) (o : Nat) (ho : G.R i = o) :
    Calls Try.prog 54 #[.pointer (some ⟨hb, 0, none⟩), .int .i64 i, .int .u8 118] w fun e w' => e = .returned (.tuple #[.int .i64 (G.v o), .int .i64 0]) ∧ Below w.heap.size w w' := by
  have C := get_any hb sv sz p.R p.K p.N p.F lo vs csL w h.hp h.cl.cls h.pw.root csL_6 i 118
  unfold GetPost at C
  have hoG : o < G.n := by have := h.gw.R i hi'; omega
  have F := gf_v h.gw hi' hoG ho
  have e0 : (fnum (ffind csL (dh G).R (dh G).K i 118)).e = 0 := by
    rw [F]; unfold fnum
    simp only []
    rw [if_pos trivial]
    split
    · rfl
    · rfl
  have e0' : (fnum (ffind csL p.R p.K i 118)).e = 0 := by rw [(get_meet h.sim i 118).1]; exact e0
  have hN := (get_meet h.sim i 118).2 e0'
  rw [e0', if_pos rfl, hN, F] at C
  have e : (dh G).C (o + 1) 0 = G.v o := by show G.v (o + 1 - 1) = _; rw [Nat.add_sub_cancel]
  simp only [] at C
  rw [e] at C
  exact C
theorem gsame_any {P : Nat → Prop} {gb lo hi hb : Nat} {sv : SV} {vs : List (Int × SV)} {sz : Int} {nv : Value} {p : PH} {G : GG} {w : World} (h : LK w P gb lo hi hb sv vs sz nv p G) (i k : Nat) (hi' : i < 8) (hk : k < 8) :
    Calls Try.prog 55 #[.pointer (some ⟨hb, 0, none⟩), .int .i64 i, .int .i64 k] w fun e w' => e = .returned (.tuple #[.bool (decide (G.R i = G.R k)), .int .i64 0]) ∧ Below w.heap.size w w' := by
  have C := psame_any hb sv sz p w h.hp i k
  have e1 : pE2 (i : Int) k = 0 := by unfold pE2; rw [if_pos ⟨rtB_of hi', rtB_of hk⟩]
  have e2 : psameI p i k = decide (G.R i = G.R k) := by
    unfold psameI
    rw [if_pos ⟨rtB_of hi', rtB_of hk⟩, Int.toNat_natCast, Int.toNat_natCast]
    have hm := same_meet h.sim i k hi' hk
    have hq : (dh G).R i = (dh G).R k ↔ G.R i = G.R k := by
      have h1 := h.gw.R i hi'
      have h2 := h.gw.R k hk
      show (G.R i + 1).toNat = (G.R k + 1).toNat ↔ _
      omega
    by_cases e : G.R i = G.R k
    · rw [decide_eq_true e, decide_eq_true (hm.2 (hq.2 e))]
    · rw [decide_eq_false e, decide_eq_false (fun hh => e (hq.1 (hm.1 hh)))]
  rw [e1, e2] at C; exact C
set_option maxRecDepth 20000 in
set_option maxHeartbeats 2000000 in
theorem glook_any {P : Nat → Prop} {gb lo hi hb : Nat} {sv : SV} {vs : List (Int × SV)} {sz : Int} {nv : Value} {p : PH} {G : GG} {w : World} (h : LK w P gb lo hi hb sv vs sz nv p G) (hn : G.n ≤ 7036874417560) :
    Calls Try.prog 52 #[.pointer (some ⟨gb, 0, none⟩)] w fun e w' => e = .returned (.bool true) ∧ Below w.heap.size w w' := by
  have HL : Hid (LK w P gb lo hi hb sv vs sz nv p G) := h
  have hgb := h.gp.lt
  have HN : Hid (G.n ≤ 7036874417560) := hn
  clear h hn
  go_enter Try.func52, Try.ntmps52
  go_wp2
  go_loopw [3] (fun iv wr => ∃ i : Nat, i ≤ 8 ∧ iv = .int .i64 i ∧ Hid (Below w.heap.size w wr)) (fun iv _ => 8 - (intOf iv).toNat)
  case atStart => exact ⟨0, by omega, rfl, Below.refl _ _⟩
  case round =>
    obtain ⟨i, hi8, rfl, HB⟩ := hrel
    by_cases hlt : i < 8
    · have L1 := HL.out.below HB.out
      have g0 := L1.gp.h
      have cr := L1.gp.r i hlt
      have hg1 := L1.gp.lt
      have hRi := L1.gw.R i hlt
      have hib : (0 : Int) ≤ (i : Int) ∧ (i : Int) < 8 := by omega
      obtain ⟨y, hy⟩ : ∃ y, y = G.R i := ⟨_, rfl⟩
      have HY : Hid (y = G.R i) := hy
      rw [← hy] at cr hRi
      have HL1 : Hid (LK wr P gb lo hi hb sv vs sz nv p G) := L1
      by_cases h0 : y < 0
      · have C1 := gclass_nil L1 i hlt (by rw [← hy]; exact h0)
        clear L1 hy
        go_wp2_with fail
        refine C1.mono ?_
        rintro e w2 ⟨rfl, B2⟩
        have L2 := HL1.out.below B2
        have g02 := L2.gp.h
        have hg2 := L2.gp.lt
        have C2 := gget_nil L2 i hlt (by rw [← HY.out]; exact h0)
        have HB2 : Hid (Below w.heap.size w w2) := HB.out.trans (B2.mono HB.out.size)
        clear C1 L2 B2 HL1 HB g0 cr hg1
        go_wp2_with fail
        refine C2.mono ?_
        rintro e w3 ⟨rfl, B3⟩
        have HB3 : Hid (Below w.heap.size w w3) := HB2.out.trans (B3.mono HB2.out.size)
        clear C2 B3 HB2 g02 hg2
        go_wp2
        go_loopw [9] (fun kv wq => ∃ k : Nat, k ≤ 8 ∧ kv = .int .i64 k ∧ Hid (Below w.heap.size w wq)) (fun kv _ => 8 - (intOf kv).toNat)
        case atStart => exact ⟨0, by omega, rfl, HB3.out⟩
        case round =>
          obtain ⟨k, hk, rfl, HBq⟩ := hrel
          by_cases hkl : k < 8
          · have Lq := HL.out.below HBq.out
            have CS := gsame_any Lq i k hlt hkl
            have g0 := Lq.gp.h
            have hgq := Lq.gp.lt
            have hkb : (0 : Int) ≤ (k : Int) ∧ (k : Int) < 8 := by omega
            obtain ⟨x, hx⟩ : ∃ x, x = G.R k := ⟨_, rfl⟩
            have HX : Hid (x = G.R k) := hx
            rw [← hx, ← HY.out] at CS
            have HLq : Hid (LK wr P gb lo hi hb sv vs sz _ p G) := Lq
            by_cases hxy : y = x
            · rw [decide_eq_true hxy] at CS
              subst hxy
              clear hx Lq
              go_wp2_with fail
              refine CS.mono ?_
              rintro e w6 ⟨rfl, B6⟩
              have L6 := HLq.out.below B6
              have c6 : w6.cell? ⟨gb, 3 + k, none⟩ = some (.int .i64 y) := by rw [HX.out]; exact L6.gp.r k hkl
              have hg6 := L6.gp.lt
              have HB6 : Hid (Below w.heap.size w w6) := HBq.out.trans (B6.mono HBq.out.size)
              clear CS B6 L6 HBq HLq
              go_wp2
              exact ⟨⟨k + 1, by omega, rfl, HB6.out⟩, by simp [intOf]; omega⟩
            · rw [decide_eq_false hxy] at CS
              have hxe : (x == y) = false := by simp; exact fun e => hxy e.symm
              clear hx Lq hxy
              go_wp2_with fail
              refine CS.mono ?_
              rintro e w6 ⟨rfl, B6⟩
              have L6 := HLq.out.below B6
              have c6 : w6.cell? ⟨gb, 3 + k, none⟩ = some (.int .i64 x) := by rw [HX.out]; exact L6.gp.r k hkl
              have hg6 := L6.gp.lt
              have HB6 : Hid (Below w.heap.size w w6) := HBq.out.trans (B6.mono HBq.out.size)
              clear CS B6 L6 HBq HLq
              go_wp2
              exact ⟨⟨k + 1, by omega, rfl, HB6.out⟩, by simp [intOf]; omega⟩
          · obtain rfl : k = 8 := by omega
            go_wp2
            exact ⟨⟨i + 1, by omega, rfl, HBq.out⟩, by simp [intOf]; omega⟩
      · obtain ⟨o, rfl⟩ : ∃ o : Nat, y = o := ⟨y.toNat, by omega⟩
        have hoG : o < G.n := by omega
        have C1 := gclass_obj L1 i hlt o (by rw [← hy])
        clear L1 hy
        go_wp2_with fail
        refine C1.mono ?_
        rintro e w2 ⟨rfl, B2⟩
        have L2 := HL1.out.below B2
        have g02 := L2.gp.h
        have hg2 := L2.gp.lt
        have C2 := gget_obj L2 i hlt o (by rw [← HY.out])
        have HB2 : Hid (Below w.heap.size w w2) := HB.out.trans (B2.mono HB.out.size)
        clear C1 L2 B2 HL1 HB g0 cr hg1
        go_wp2_with fail
        refine C2.mono ?_
        rintro e w3 ⟨rfl, B3⟩
        have HB3 : Hid (Below w.heap.size w w3) := HB2.out.trans (B3.mono HB2.out.size)
        have L3 := HL.out.below HB3.out
        obtain ⟨na, nc, hnv⟩ := L3.nd.shape
        subst hnv
        obtain ⟨ng, hna, hnb, hnl, hnc⟩ := L3.nd.cells.2.2 o hoG
        subst hna
        have cn := L3.gp.n
        have hg3 := L3.gp.lt
        have c0 := hnc.c0
        have c1 := hnc.c1
        obtain ⟨n, hn⟩ : ∃ n, n = G.n := ⟨_, rfl⟩
        have hob : (0 : Int) ≤ (o : Int) ∧ (o : Int) < (n : Int) := by omega
        rw [← hn] at cn
        obtain ⟨cc, hcc⟩ : ∃ cc, cc = G.c o := ⟨_, rfl⟩
        obtain ⟨cv, hcv⟩ : ∃ cv, cv = G.v o := ⟨_, rfl⟩
        rw [← hcc] at c0 ⊢
        rw [← hcv] at c1 ⊢
        obtain ⟨y, hyo⟩ : ∃ y : Int, y = (o : Int) := ⟨_, rfl⟩
        have HYO : Hid (y = (o : Int)) := hyo
        clear C2 B3 HB2 g02 hg2 L3 hnc hcc hcv hn hyo
        go_wp2
        rw [← HYO.out] at HY ⊢
        go_loopw [9] (fun kv wq => ∃ k : Nat, k ≤ 8 ∧ kv = .int .i64 k ∧ Hid (Below w.heap.size w wq)) (fun kv _ => 8 - (intOf kv).toNat)
        case atStart => exact ⟨0, by omega, rfl, HB3.out⟩
        case round =>
          obtain ⟨k, hk, rfl, HBq⟩ := hrel
          by_cases hkl : k < 8
          · have Lq := HL.out.below HBq.out
            have CS := gsame_any Lq i k hlt hkl
            have g0 := Lq.gp.h
            have hgq := Lq.gp.lt
            have hkb : (0 : Int) ≤ (k : Int) ∧ (k : Int) < 8 := by omega
            obtain ⟨x, hx⟩ : ∃ x, x = G.R k := ⟨_, rfl⟩
            have HX : Hid (x = G.R k) := hx
            rw [← hx, ← HY.out] at CS
            have HLq : Hid (LK wr P gb lo hi hb sv vs sz _ p G) := Lq
            by_cases hxy : y = x
            · rw [decide_eq_true hxy] at CS
              subst hxy
              clear hx Lq
              go_wp2_with fail
              refine CS.mono ?_
              rintro e w6 ⟨rfl, B6⟩
              have L6 := HLq.out.below B6
              have c6 : w6.cell? ⟨gb, 3 + k, none⟩ = some (.int .i64 y) := by rw [HX.out]; exact L6.gp.r k hkl
              have hg6 := L6.gp.lt
              have HB6 : Hid (Below w.heap.size w w6) := HBq.out.trans (B6.mono HBq.out.size)
              clear CS B6 L6 HBq HLq
              go_wp2
              exact ⟨⟨k + 1, by omega, rfl, HB6.out⟩, by simp [intOf]; omega⟩
            · rw [decide_eq_false hxy] at CS
              have hxe : (x == y) = false := by simp; exact fun e => hxy e.symm
              clear hx Lq hxy
              go_wp2_with fail
              refine CS.mono ?_
              rintro e w6 ⟨rfl, B6⟩
              have L6 := HLq.out.below B6
              have c6 : w6.cell? ⟨gb, 3 + k, none⟩ = some (.int .i64 x) := by rw [HX.out]; exact L6.gp.r k hkl
              have hg6 := L6.gp.lt
              have HB6 : Hid (Below w.heap.size w w6) := HBq.out.trans (B6.mono HBq.out.size)
              clear CS B6 L6 HBq HLq
              go_wp2
              exact ⟨⟨k + 1, by omega, rfl, HB6.out⟩, by simp [intOf]; omega⟩
          · obtain rfl : k = 8 := by omega
            go_wp2
            exact ⟨⟨i + 1, by omega, rfl, HBq.out⟩, by simp [intOf]; omega⟩
    · obtain rfl : i = 8 := by omega
      have L1 := HL.out.below HB.out
      have g0 := L1.gp.h
      have hg1 := L1.gp.lt
      have C1 := pwords_any hb sv sz p lo vs csL wr L1.hp L1.cl.cls L1.pw csL_6
      unfold PWPost at C1
      have HL1 : Hid (LK wr P gb lo hi hb sv vs sz nv p G) := L1
      clear L1
      go_wp2_with fail
      refine C1.mono ?_
      rintro e w2 ⟨L, rfl, hd, hm, B2⟩
      have L2 := HL1.out.below B2
      have C2 := gcount_any gb hb (hb + 1) sz nv G w2 L2.gp L2.nd L2.gw HN.out
      unfold CtG at C2
      have HLm : Hid (L.Nodup ∧ ∀ a, a ∈ L ↔ p.in a) := ⟨hd, hm⟩
      obtain ⟨x, hx⟩ : ∃ x, x = wlist csL p.K L := ⟨_, rfl⟩
      have HX : Hid (x = wlist csL p.K L) := hx
      rw [← hx]
      have HB2 : Hid (Below w.heap.size w w2) := HB.out.trans (B2.mono HB.out.size)
      clear C1 hd hm hx L2 B2
      go_wp2_with fail
      refine C2.mono ?_
      rintro e w3 ⟨T, hT, rfl, B3⟩
      have ex : wsum csL (dh G).K T G.n = x := by
        rw [HX.out]; exact (gwlist HL.out.sim (HL.out.gw.wf HN.out) L T HLm.out.1 HLm.out.2 hT).symm
      rw [ex]
      have HB3 : Hid (Below w.heap.size w w3) := HB2.out.trans (B3.mono HB2.out.size)
      clear C2 hT ex B3
      go_wp2
      go_ret
      exact ⟨rfl, HB3.out⟩
end Go.Proofs.Ytbgilndohccicab
namespace Go.Proofs.Ytbgilndohccicab
open Go.RowKit

/-- A root of the graph is set. -/
theorem LK.mkRoot {w w0 : World} {P : Nat → Prop} {gb lo hi hb : Nat} {sv : SV} {vs : List (Int × SV)} {sz : Int} {nv nv0 : Value} {p p0 : PH} {G G0 : GG} (h : LK w0 P gb lo hi hb sv vs sz nv0 p0 G0) (hp : HP w hb sv sz p.R p.K p.N p.F) (cl : ClsIn w lo hi (.slice sv.a sv.n sv.c) vs csL) (gp : GP w gb hb sz nv G.R) (nd : ND w (hb + 1) nv G) (pw : Pw p) (gw : GW G) {i : Nat} (hi' : i < 8) {y : Int} (h1 : -1 ≤ y) (h2 : y < G.n) (hs : Sim csL p { dh G with R := set1 (dh G).R i (y + 1).toNat }) (n2 : ∀ g, nv.ownBlock = some g → ¬ P g) (pl : ∀ k, P k → k < w.heap.size) :
    LK (w.setCell ⟨gb, 3 + i, none⟩ (.int .i64 y)) P gb lo hi hb sv vs sz nv p { G with R := set1 G.R i y } := by
  have q1 := h.b1; have q2 := h.b2; have q3 := h.b3
  refine ⟨hp.kept (heap_setCell_other _ _ _ _ (by show hb ≠ gb; omega)), cl.keep fun b hb1 _ => heap_setCell_other _ _ _ _ (by show b ≠ gb; omega), gp.setR hi' y, nd.kept (gb_set w gb (3 + i) _) (by omega), h.n0, h.n1, n2, pl_set pl _ _, h.b1, h.b2, h.b3, pw, ?_, gw.setR h1 h2, h.s0, h.s1⟩
  have e : dh { G with R := set1 G.R i y } = { dh G with R := set1 (dh G).R i (y + 1).toNat } := by
    unfold dh
    congr 1
    funext j
    show (set1 G.R i y j + 1).toNat = set1 (fun i => (G.R i + 1).toNat) i (y + 1).toNat j
    by_cases e : j = i
    · subst e; rw [set1_self, set1_self]
    · rw [set1_ne _ _ e, set1_ne _ _ e]
  rw [e]; exact hs
/-- Copy and Clear on the heap's side. -/
def CpPost (P : Nat → Prop) (gb lo hi hb : Nat) (sv : SV) (vs : List (Int × SV)) (sz : Int) (nv : Value) (N : Nat → Nat → Int) (G : GG) (i : Nat) (y : Int) (w : World) (e : Ending) (w' : World) : Prop := e = .returned (.int .i64 0) ∧ ∃ p', HP w' hb sv sz p'.R p'.K p'.N p'.F ∧ ClsIn w' lo hi (.slice sv.a sv.n sv.c) vs csL ∧ GP w' gb hb sz nv G.R ∧ ND w' (hb + 1) nv G ∧ Pw p' ∧ Sim csL p' { dh G with R := set1 (dh G).R i (y + 1).toNat } ∧ Prot P w w' ∧ ∀ j, p'.N 201 j = N 201 j
theorem gcopy_any {P : Nat → Prop} {gb lo hi hb : Nat} {sv : SV} {vs : List (Int × SV)} {sz : Int} {nv : Value} {p : PH} {G : GG} {w : World} (h : LK w P gb lo hi hb sv vs sz nv p G) (a b : Nat) (ha : a < 8) (hb' : b < 8) (y : Int) (hy : y = G.R a) :
    Calls Try.prog 50 #[.pointer (some ⟨hb, 0, none⟩), .int .i64 a, .int .i64 b] w (CpPost P gb lo hi hb sv vs sz nv p.N G b y w) := by
  refine (pcopy_any hb sv sz p w h.hp a b).mono ?_
  rintro e w' ⟨he, hp, g⟩
  have e1 : pE2 (a : Int) b = 0 := by unfold pE2; rw [if_pos ⟨rtB_of ha, rtB_of hb'⟩]
  have e2 : pcopyD p a b = { p with R := set1 p.R b (p.R a) } := by unfold pcopyD; rw [if_pos ⟨rtB_of ha, rtB_of hb'⟩, Int.toNat_natCast, Int.toNat_natCast]
  rw [e1] at he
  rw [e2] at hp
  obtain ⟨P1, P2, P3, P4, P5, P6⟩ := h.heap (p' := { p with R := set1 p.R b (p.R a) }) hp g (h.pw.setRoot b _ (h.pw.root a ha))
  refine ⟨he, _, P1, P2, P3, P4, P5, ?_, P6, fun _ => rfl⟩
  rw [hy]
  exact copy_meet h.sim a b ha
theorem gclear_any {P : Nat → Prop} {gb lo hi hb : Nat} {sv : SV} {vs : List (Int × SV)} {sz : Int} {nv : Value} {p : PH} {G : GG} {w : World} (h : LK w P gb lo hi hb sv vs sz nv p G) (a : Nat) (ha : a < 8) :
    Calls Try.prog 51 #[.pointer (some ⟨hb, 0, none⟩), .int .i64 a] w (CpPost P gb lo hi hb sv vs sz nv p.N G a (-1) w) := by
  refine (pclear_any hb sv sz p w h.hp a).mono ?_
  rintro e w' ⟨he, hp, g⟩
  have e1 : pE1 (a : Int) = 0 := by unfold pE1; rw [if_pos (rtB_of ha)]
  have e2 : pclearD p a = { p with R := set1 p.R a 0 } := by unfold pclearD; rw [if_pos (rtB_of ha), Int.toNat_natCast]
  rw [e1] at he
  rw [e2] at hp
  obtain ⟨P1, P2, P3, P4, P5, P6⟩ := h.heap (p' := { p with R := set1 p.R a 0 }) hp g (h.pw.setRoot a _ (by omega))
  exact ⟨he, _, P1, P2, P3, P4, P5, clear_meet h.sim a, P6, fun _ => rfl⟩
end Go.Proofs.Ytbgilndohccicab
