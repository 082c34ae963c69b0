import Derived.Test.YtbgilndohccicabMz23
namespace Go.Proofs.Ytbgilndohccicab
open Go.RowKit

theorem Try.infoNode : (Try.prog.info? 146).map (fun i => (i.zero, i.size, i.bytes)) = some (some (.agg #[.int .u8 0, .int .i64 0, .int .i64 0, .int .i64 0]), 4, 32) := by kernel_rfl
theorem cells_four (w : World) (l : List Value) (T : TypeId) : ∀ (j : Nat) (u : Value), l[j]? = some u → (w.alloc (.cells l.toArray T)).cell? ((⟨w.heap.size, 0, none⟩ : Addr).add j) = some u := by
  intro j u hj
  have e : (⟨w.heap.size, 0, none⟩ : Addr).add j = ⟨w.heap.size, j, none⟩ := by unfold Addr.add; split <;> simp_all
  have h := World.cell?_alloc_mark w l.toArray T (0, 0) j
  rw [e, h]; simpa using hj
theorem GP.drewN {w : World} {gb hb : Nat} {sz : Int} {nv : Value} {R : Nat → Int} (h : GP w gb hb sz nv R) (n : Nat) : GP (w.drewN n) gb hb sz nv R := h.keep rfl
theorem Try.infoNode2 : (Try.prog.info? 146).map (fun i => (i.zero, i.size)) = some (some (.agg #[.int .u8 0, .int .i64 0, .int .i64 0, .int .i64 0]), 4) := by kernel_rfl
theorem ownsRow_drew {w : World} {base : Nat} {t : TypeId} {k : Nat} {v : Value} {n : Nat} {l : List Value} {m : Nat} (h : w.ownsRow base t k v n l) : (w.drewN m).ownsRow base t k v n l := h
theorem gwords_78 {gb hb : Nat} {sz : Int} {nv : Value} {R : Nat → Int} {w : World} (h : GP w gb hb sz nv R) :
    Calls Try.prog 74 #[.pointer (some ⟨gb, 0, none⟩), .int .u8 78] w fun e w' => e = .returned (.int .i64 4) ∧ w' = w := gwords_any gb hb sz nv R 78 w h
theorem gwords_81 {gb hb : Nat} {sz : Int} {nv : Value} {R : Nat → Int} {w : World} (h : GP w gb hb sz nv R) :
    Calls Try.prog 74 #[.pointer (some ⟨gb, 0, none⟩), .int .u8 81] w fun e w' => e = .returned (.int .i64 3) ∧ w' = w := gwords_any gb hb sz nv R 81 w h
set_option maxRecDepth 20000 in
set_option maxHeartbeats 2000000 in
theorem gcreate_78 {P : Nat → Prop} {gb lo hi hb : Nat} {sv : SV} {vs : List (Int × SV)} {sz : Int} {nv : Value} {p : PH} {G : GG} {w : World} (h : LK w P gb lo hi hb sv vs sz nv p G) (root : Nat) (hr : root < 8) (c : Int) (hc1 : -9223372036854775808 ≤ c) (hc2 : c ≤ 9223372036854775807) (hn : G.n + 1 ≤ 7036874417560) (hp : pickI c 2 = 0) :
    Calls Try.prog 46 #[.pointer (some ⟨gb, 0, none⟩), .int .i64 root, .int .i64 c] w (GOk P gb lo hi hb sv vs sz p.N (crG sz G root 78 4) w) := by
  have PK := pick_any c 2 w (by decide) (by decide) hc1 hc2
  rw [hp] at PK
  have C1 := gcount_any gb hb (hb + 1) sz nv G w h.gp h.nd h.gw (by omega)
  unfold CtG at C1
  have HL : Hid (LK w P gb lo hi hb sv vs sz nv p G) := h
  obtain ⟨n, hnn⟩ : ∃ n, n = G.n := ⟨_, rfl⟩
  have HN : Hid (n = G.n) := hnn
  rw [← hnn] at hn
  have hrb : (0 : Int) ≤ (root : Int) ∧ (root : Int) < 8 := by omega
  obtain ⟨iI, hiI, hzI0, hzI1, hzI2⟩ := infoPartsH Try.infoNode
  have hsz0 := h.s0
  have hsz1 := h.s1
  unfold GOk
  clear h hp hc1 hc2 hnn
  go_enter Try.func46, Try.ntmps46
  go_wp2_with fail
  refine PK.mono ?_
  rintro e wp ⟨rfl, rfl⟩
  go_wp2_with fail
  refine C1.mono ?_
  rintro e w1 ⟨T, hT, rfl, B1⟩
  rw [show (((({ data := #[78, 81] } : ByteArray)[0]'(by decide)).toNat : Nat) : Int) = 78 from rfl]
  obtain ⟨W, hW⟩ : ∃ W : Nat, W = wsum csL (dh G).K T G.n := ⟨_, rfl⟩
  have hWb : W ≤ 7 * n := by rw [hW, HN.out]; exact wsum_le csL_6 _ _ _
  rw [← hW]
  have HCN : Hid (W = cntG G) := hW.trans (cntG_is hT)
  have L1 := HL.out.below B1
  have BB1 := HL.out.bB B1
  have C2 := gmake_any L1 root hr 78 4 (by decide) (by rw [← HN.out]; omega) T hT W hW
  unfold GMkPost at C2
  have g0 := L1.gp.h
  have hg1 := L1.gp.lt
  clear PK C1 hT hW B1 L1
  go_wp2_with fail
  refine C2.mono ?_
  rintro e w2 ⟨B2, hcs⟩
  have BB2 := BB1.trans B2
  rcases hcs with ⟨hs, rfl, L2⟩ | ⟨hs, rfl, p', P1, P2, P3, P4, P5, P6, P7⟩
  · have HG : Hid (crG sz G root 78 4 = G) := by show crG sz G root 78 4 = G; unfold crG; rw [← HCN.out, if_pos hs]
    have hgs := L2.gp.s
    have hg2 := L2.gp.lt
    have HGP : Hid (GP w2 gb hb sz nv G.R) := L2.gp
    have HF : Hid (LK w2 P gb lo hi hb sv vs sz nv p G ∧ Prot P _ w2) := ⟨L2, BB2⟩
    clear C2 L2 BB2 B2 BB1 g0 hg1
    go_wp2
    go_quiet ((go_at_call 74; exact (gwords_78 (HGP.out.drewN _)).mono fun _ _ h => ⟨h.1, _, h.2⟩))
    go_wp2
    go_ret
    rw [HG.out]
    exact ⟨rfl, HF.out.2.trans (HF.out.1.bB (gb_below_drewN _ _)), _, _, HF.out.1.below (gb_below_drewN _ _), fun _ => rfl⟩
  · have HG : Hid (crG sz G root 78 4 = appG G 78 root) := by show crG sz G root 78 4 = _; unfold crG; rw [← HCN.out, if_neg (show ¬ sz < (W : Int) + 4 by omega)]
    have HNN : Hid (∀ j, p'.N 201 j = p.N 201 j) := P7
    have hgs := P3.s
    have hgn := P3.n
    have hg2 := P3.lt
    have hfz := P3.frz 2
    have HGP : Hid (GP w2 gb hb sz nv G.R) := P3
    have HQ : Hid (HP w2 hb sv sz p'.R p'.K p'.N p'.F ∧ ClsIn w2 lo hi (.slice sv.a sv.n sv.c) vs csL ∧ GP w2 gb hb sz nv G.R ∧ ND w2 (hb + 1) nv G ∧ Pw p' ∧ Sim csL p' (dh (appG G 78 root)) ∧ Prot P _ w2) := ⟨P1, P2, P3, P4, P5, P6, BB2⟩
    have hhb := P1.lt
    clear C2 B2 BB1 g0 hg1 P1 P2 P3 P4 P5 P6 P7 BB2
    go_wp2
    go_quiet ((go_at_call 74; exact (gwords_78 (HGP.out.drewN _)).mono fun _ _ h => ⟨h.1, _, h.2⟩))
    obtain ⟨na, nc, hnv⟩ := HQ.out.2.2.2.1.shape
    subst hnv
    have hNr := HQ.out.2.2.2.1
    unfold ND at hNr
    rw [← HN.out] at hgn hNr
    obtain ⟨hz, hsz⟩ := zero_of_info Try.infoNode2
    go_wp2_with (at_builtin; refine wpList_append_node rfl _ _ 55 rfl (hb + 1) 146 iI (.agg #[.int .u8 0, .int .i64 0, .int .i64 0, .int .i64 0]) Try.underlying55 hiI hzI0 hzI1 hzI2 rfl _ n (flatN G) rfl (World.ownsRow.alloc (ownsRow_drew hNr) _) ⟨w2.heap.size, 0, none⟩ 1 [.int .u8 78, .int .i64 0, .int .i64 (-1), .int .i64 (-1)] rfl rfl ?c1 ?c2 ?c4 ?c5 ?_)
    case c1 => exact cells_four _ _ _
    case c2 => intro u hu; simp at hu; rcases hu with rfl | rfl | rfl <;> rfl
    case c4 => omega
    case c5 => simp; omega
    intro v' w4 hown hg4 hat
    have hgw : w2.grownBy w4 (Value.ownBlock (.slice na n nc)) := gb_trans (gb_drewN w2 nq _) (gb_trans (World.grownBy_alloc _ _ _) hg4)
    obtain ⟨Q1, Q2, Q3, Q4, Q5, Q6, Q7⟩ := HQ.out
    have L0 := HL.out
    have hown2 : ∀ g, Value.ownBlock (.slice na n nc) = some g → hb + 1 ≤ g := fun g hg => (World.ownsRow.lt hNr g hg).1
    have hq1 := L0.b1; have hq2 := L0.b2; have hq3 := L0.b3
    have ek : ∀ b, b < w2.heap.size → b < hb + 1 → w4.heap[b]? = w2.heap[b]? := fun b h1 h2 => hgw.block b h1 (fun e => by have := hown2 b e.symm; omega)
    have S1 := Q1.kept (ek hb hhb (by omega))
    have S2 : ClsIn w4 lo hi (.slice sv.a sv.n sv.c) vs csL := Q2.keep fun b _ hb' => ek b (by omega) (by omega)
    have S3 := Q3.keep (ek gb hg2 (by omega))
    have hpl2 := Q7.lt L0.pl
    have S7 : Prot P wp w4 := Q7.trans (Prot.gb hpl2 hgw (fun b e => L0.n2 b (by rw [← e, HN.out])))
    obtain ⟨va, vc, hv'⟩ : ∃ a c, v' = .slice a (n + 1) c := by
      rcases hown.2 with ⟨_, e⟩ | ⟨g', cap', cur, e, _⟩
      · omega
      · exact ⟨_, _, e⟩
    subst hv'
    have HN2 : Hid (∀ g, Value.ownBlock (.slice va (n + 1) vc) = some g → ¬ P g) := by
      intro g hg hP
      rcases hat with ha | ha
      · exact L0.n2 g (by rw [← hg, ha, HN.out]) hP
      · rw [hg] at ha
        injection ha with ha
        have := hpl2 g hP
        omega
    have S4 : ND w4 (hb + 1) (.slice va (n + 1) vc) (appN G 78) := by
      unfold ND
      rw [flat_app]
      show w4.ownsRow (hb + 1) 146 4 (.slice va (n + 1) vc) (G.n + 1) _
      rw [← HN.out]; exact hown
    have hgb4 := S3.lt
    have c4n := S3.n
    have f4 := S3.frz 2
    have f5 := S3.frz (3 + root)
    have c4r := S3.r root hr
    have HS : Hid (HP w4 hb sv sz p'.R p'.K p'.N p'.F ∧ ClsIn w4 lo hi (.slice sv.a sv.n sv.c) vs csL ∧ GP w4 gb hb sz (.slice na G.n nc) G.R ∧ ND w4 (hb + 1) (.slice va (n + 1) vc) (appN G 78) ∧ Prot P wp w4 ∧ Pw p' ∧ Sim csL p' (dh (appG G 78 root))) := ⟨S1, S2, S3, S4, S7, Q5, Q6⟩
    clear hat hpl2 S1 S2 S3 S4 S7 Q1 Q2 Q3 Q4 Q5 Q6 Q7 hgw ek hown2 hg4 hown hNr L0 hz hsz hgn hgs hg2 hfz hhb
    go_wp2
    refine stillTail 11 rfl (by kernel_rfl) ?_
    simp only [List.take_succ_cons, List.take_zero, List.drop_succ_cons, List.drop_zero]
    repeat still_step
    refine wpStill_nil ?_
    go_wp2
    go_ret
    have hN := HN.out
    subst hN
    obtain ⟨S1, S2, S3, S4, S7, Q5, Q6⟩ := HS.out
    have L0 := HL.out
    have K : LK ((w4.setCell ⟨gb, 2, none⟩ (.slice va (G.n + 1) vc)).setCell ⟨gb, 3 + root, none⟩ (.int .i64 G.n)) P gb lo hi hb sv vs sz (.slice va (G.n + 1) vc) p' (appG G 78 root) := by
      refine ⟨(S1.kept (heap_setCell_other _ _ _ _ (by show hb ≠ gb; omega))).kept (heap_setCell_other _ _ _ _ (by show hb ≠ gb; omega)), (S2.keep fun b hb1 _ => heap_setCell_other _ _ _ _ (by show b ≠ gb; omega)).keep fun b hb1 _ => heap_setCell_other _ _ _ _ (by show b ≠ gb; omega), (S3.setN _).setR hr _, ?_, L0.n0, L0.n1, HN2.out, pl_set (pl_set (S7.lt L0.pl) _ _) _ _, L0.b1, L0.b2, L0.b3, Q5, Q6, gw_app L0.gw (by decide), L0.s0, L0.s1⟩
      exact (S4.kept (gb_set w4 gb 2 _) (by omega)).kept (gb_set _ gb (3 + root) _) (by omega)
    have B5 := (S7.setCell (p := ⟨gb, 2, none⟩) L0.n0 (.slice va (G.n + 1) vc)).setCell (p := ⟨gb, 3 + root, none⟩) L0.n0 (.int .i64 G.n)
    rw [HG.out]
    exact ⟨rfl, B5.trans (K.bB (gb_below_drewN _ 1)), _, _, K.below (gb_below_drewN _ 1), HNN.out⟩
set_option maxRecDepth 20000 in
set_option maxHeartbeats 2000000 in
theorem gcreate_81 {P : Nat → Prop} {gb lo hi hb : Nat} {sv : SV} {vs : List (Int × SV)} {sz : Int} {nv : Value} {p : PH} {G : GG} {w : World} (h : LK w P gb lo hi hb sv vs sz nv p G) (root : Nat) (hr : root < 8) (c : Int) (hc1 : -9223372036854775808 ≤ c) (hc2 : c ≤ 9223372036854775807) (hn : G.n + 1 ≤ 7036874417560) (hp : pickI c 2 = 1) :
    Calls Try.prog 46 #[.pointer (some ⟨gb, 0, none⟩), .int .i64 root, .int .i64 c] w (GOk P gb lo hi hb sv vs sz p.N (crG sz G root 81 3) w) := by
  have PK := pick_any c 2 w (by decide) (by decide) hc1 hc2
  rw [hp] at PK
  have C1 := gcount_any gb hb (hb + 1) sz nv G w h.gp h.nd h.gw (by omega)
  unfold CtG at C1
  have HL : Hid (LK w P gb lo hi hb sv vs sz nv p G) := h
  obtain ⟨n, hnn⟩ : ∃ n, n = G.n := ⟨_, rfl⟩
  have HN : Hid (n = G.n) := hnn
  rw [← hnn] at hn
  have hrb : (0 : Int) ≤ (root : Int) ∧ (root : Int) < 8 := by omega
  obtain ⟨iI, hiI, hzI0, hzI1, hzI2⟩ := infoPartsH Try.infoNode
  have hsz0 := h.s0
  have hsz1 := h.s1
  unfold GOk
  clear h hp hc1 hc2 hnn
  go_enter Try.func46, Try.ntmps46
  go_wp2_with fail
  refine PK.mono ?_
  rintro e wp ⟨rfl, rfl⟩
  go_wp2_with fail
  refine C1.mono ?_
  rintro e w1 ⟨T, hT, rfl, B1⟩
  rw [show (((({ data := #[78, 81] } : ByteArray)[1]'(by decide)).toNat : Nat) : Int) = 81 from rfl]
  obtain ⟨W, hW⟩ : ∃ W : Nat, W = wsum csL (dh G).K T G.n := ⟨_, rfl⟩
  have hWb : W ≤ 7 * n := by rw [hW, HN.out]; exact wsum_le csL_6 _ _ _
  rw [← hW]
  have HCN : Hid (W = cntG G) := hW.trans (cntG_is hT)
  have L1 := HL.out.below B1
  have BB1 := HL.out.bB B1
  have C2 := gmake_any L1 root hr 81 3 (by decide) (by rw [← HN.out]; omega) T hT W hW
  unfold GMkPost at C2
  have g0 := L1.gp.h
  have hg1 := L1.gp.lt
  clear PK C1 hT hW B1 L1
  go_wp2_with fail
  refine C2.mono ?_
  rintro e w2 ⟨B2, hcs⟩
  have BB2 := BB1.trans B2
  rcases hcs with ⟨hs, rfl, L2⟩ | ⟨hs, rfl, p', P1, P2, P3, P4, P5, P6, P7⟩
  · have HG : Hid (crG sz G root 81 3 = G) := by show crG sz G root 81 3 = G; unfold crG; rw [← HCN.out, if_pos hs]
    have hgs := L2.gp.s
    have hg2 := L2.gp.lt
    have HGP : Hid (GP w2 gb hb sz nv G.R) := L2.gp
    have HF : Hid (LK w2 P gb lo hi hb sv vs sz nv p G ∧ Prot P _ w2) := ⟨L2, BB2⟩
    clear C2 L2 BB2 B2 BB1 g0 hg1
    go_wp2
    go_quiet ((go_at_call 74; exact (gwords_81 (HGP.out.drewN _)).mono fun _ _ h => ⟨h.1, _, h.2⟩))
    go_wp2
    go_ret
    rw [HG.out]
    exact ⟨rfl, HF.out.2.trans (HF.out.1.bB (gb_below_drewN _ _)), _, _, HF.out.1.below (gb_below_drewN _ _), fun _ => rfl⟩
  · have HG : Hid (crG sz G root 81 3 = appG G 81 root) := by show crG sz G root 81 3 = _; unfold crG; rw [← HCN.out, if_neg (show ¬ sz < (W : Int) + 3 by omega)]
    have HNN : Hid (∀ j, p'.N 201 j = p.N 201 j) := P7
    have hgs := P3.s
    have hgn := P3.n
    have hg2 := P3.lt
    have hfz := P3.frz 2
    have HGP : Hid (GP w2 gb hb sz nv G.R) := P3
    have HQ : Hid (HP w2 hb sv sz p'.R p'.K p'.N p'.F ∧ ClsIn w2 lo hi (.slice sv.a sv.n sv.c) vs csL ∧ GP w2 gb hb sz nv G.R ∧ ND w2 (hb + 1) nv G ∧ Pw p' ∧ Sim csL p' (dh (appG G 81 root)) ∧ Prot P _ w2) := ⟨P1, P2, P3, P4, P5, P6, BB2⟩
    have hhb := P1.lt
    clear C2 B2 BB1 g0 hg1 P1 P2 P3 P4 P5 P6 P7 BB2
    go_wp2
    go_quiet ((go_at_call 74; exact (gwords_81 (HGP.out.drewN _)).mono fun _ _ h => ⟨h.1, _, h.2⟩))
    obtain ⟨na, nc, hnv⟩ := HQ.out.2.2.2.1.shape
    subst hnv
    have hNr := HQ.out.2.2.2.1
    unfold ND at hNr
    rw [← HN.out] at hgn hNr
    obtain ⟨hz, hsz⟩ := zero_of_info Try.infoNode2
    go_wp2_with (at_builtin; refine wpList_append_node rfl _ _ 55 rfl (hb + 1) 146 iI (.agg #[.int .u8 0, .int .i64 0, .int .i64 0, .int .i64 0]) Try.underlying55 hiI hzI0 hzI1 hzI2 rfl _ n (flatN G) rfl (World.ownsRow.alloc (ownsRow_drew hNr) _) ⟨w2.heap.size, 0, none⟩ 1 [.int .u8 81, .int .i64 0, .int .i64 (-1), .int .i64 (-1)] rfl rfl ?c1 ?c2 ?c4 ?c5 ?_)
    case c1 => exact cells_four _ _ _
    case c2 => intro u hu; simp at hu; rcases hu with rfl | rfl | rfl <;> rfl
    case c4 => omega
    case c5 => simp; omega
    intro v' w4 hown hg4 hat
    have hgw : w2.grownBy w4 (Value.ownBlock (.slice na n nc)) := gb_trans (gb_drewN w2 nq _) (gb_trans (World.grownBy_alloc _ _ _) hg4)
    obtain ⟨Q1, Q2, Q3, Q4, Q5, Q6, Q7⟩ := HQ.out
    have L0 := HL.out
    have hown2 : ∀ g, Value.ownBlock (.slice na n nc) = some g → hb + 1 ≤ g := fun g hg => (World.ownsRow.lt hNr g hg).1
    have hq1 := L0.b1; have hq2 := L0.b2; have hq3 := L0.b3
    have ek : ∀ b, b < w2.heap.size → b < hb + 1 → w4.heap[b]? = w2.heap[b]? := fun b h1 h2 => hgw.block b h1 (fun e => by have := hown2 b e.symm; omega)
    have S1 := Q1.kept (ek hb hhb (by omega))
    have S2 : ClsIn w4 lo hi (.slice sv.a sv.n sv.c) vs csL := Q2.keep fun b _ hb' => ek b (by omega) (by omega)
    have S3 := Q3.keep (ek gb hg2 (by omega))
    have hpl2 := Q7.lt L0.pl
    have S7 : Prot P wp w4 := Q7.trans (Prot.gb hpl2 hgw (fun b e => L0.n2 b (by rw [← e, HN.out])))
    obtain ⟨va, vc, hv'⟩ : ∃ a c, v' = .slice a (n + 1) c := by
      rcases hown.2 with ⟨_, e⟩ | ⟨g', cap', cur, e, _⟩
      · omega
      · exact ⟨_, _, e⟩
    subst hv'
    have HN2 : Hid (∀ g, Value.ownBlock (.slice va (n + 1) vc) = some g → ¬ P g) := by
      intro g hg hP
      rcases hat with ha | ha
      · exact L0.n2 g (by rw [← hg, ha, HN.out]) hP
      · rw [hg] at ha
        injection ha with ha
        have := hpl2 g hP
        omega
    have S4 : ND w4 (hb + 1) (.slice va (n + 1) vc) (appN G 81) := by
      unfold ND
      rw [flat_app]
      show w4.ownsRow (hb + 1) 146 4 (.slice va (n + 1) vc) (G.n + 1) _
      rw [← HN.out]; exact hown
    have hgb4 := S3.lt
    have c4n := S3.n
    have f4 := S3.frz 2
    have f5 := S3.frz (3 + root)
    have c4r := S3.r root hr
    have HS : Hid (HP w4 hb sv sz p'.R p'.K p'.N p'.F ∧ ClsIn w4 lo hi (.slice sv.a sv.n sv.c) vs csL ∧ GP w4 gb hb sz (.slice na G.n nc) G.R ∧ ND w4 (hb + 1) (.slice va (n + 1) vc) (appN G 81) ∧ Prot P wp w4 ∧ Pw p' ∧ Sim csL p' (dh (appG G 81 root))) := ⟨S1, S2, S3, S4, S7, Q5, Q6⟩
    clear hat hpl2 S1 S2 S3 S4 S7 Q1 Q2 Q3 Q4 Q5 Q6 Q7 hgw ek hown2 hg4 hown hNr L0 hz hsz hgn hgs hg2 hfz hhb
    go_wp2
    refine stillTail 11 rfl (by kernel_rfl) ?_
    simp only [List.take_succ_cons, List.take_zero, List.drop_succ_cons, List.drop_zero]
    repeat still_step
    refine wpStill_nil ?_
    go_wp2
    go_ret
    have hN := HN.out
    subst hN
    obtain ⟨S1, S2, S3, S4, S7, Q5, Q6⟩ := HS.out
    have L0 := HL.out
    have K : LK ((w4.setCell ⟨gb, 2, none⟩ (.slice va (G.n + 1) vc)).setCell ⟨gb, 3 + root, none⟩ (.int .i64 G.n)) P gb lo hi hb sv vs sz (.slice va (G.n + 1) vc) p' (appG G 81 root) := by
      refine ⟨(S1.kept (heap_setCell_other _ _ _ _ (by show hb ≠ gb; omega))).kept (heap_setCell_other _ _ _ _ (by show hb ≠ gb; omega)), (S2.keep fun b hb1 _ => heap_setCell_other _ _ _ _ (by show b ≠ gb; omega)).keep fun b hb1 _ => heap_setCell_other _ _ _ _ (by show b ≠ gb; omega), (S3.setN _).setR hr _, ?_, L0.n0, L0.n1, HN2.out, pl_set (pl_set (S7.lt L0.pl) _ _) _ _, L0.b1, L0.b2, L0.b3, Q5, Q6, gw_app L0.gw (by decide), L0.s0, L0.s1⟩
      exact (S4.kept (gb_set w4 gb 2 _) (by omega)).kept (gb_set _ gb (3 + root) _) (by omega)
    have B5 := (S7.setCell (p := ⟨gb, 2, none⟩) L0.n0 (.slice va (G.n + 1) vc)).setCell (p := ⟨gb, 3 + root, none⟩) L0.n0 (.int .i64 G.n)
    rw [HG.out]
    exact ⟨rfl, B5.trans (K.bB (gb_below_drewN _ 1)), _, _, K.below (gb_below_drewN _ 1), HNN.out⟩
end Go.Proofs.Ytbgilndohccicab
