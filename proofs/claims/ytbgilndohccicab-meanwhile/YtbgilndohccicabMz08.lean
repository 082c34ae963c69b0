import Derived.Test.YtbgilndohccicabMz07
import Derived.Deep.WholeRow
namespace Go.Proofs.Ytbgilndohccicab
open Go.RowKit

set_option maxHeartbeats 400000 in
theorem cwords_any (l : Int) (a : Option Addr) (n c : Nat) (w : World) (hn : n ≤ 1000) :
    Calls Try.prog 37 #[.agg #[.int .u8 l, .slice a n c]] w fun e w' => e = .returned (.int .i64 ((n : Int) + 1)) ∧ Below w.heap.size w w' := by
  go_enter Try.func37, Try.ntmps37
  go_wp2
  go_ret
  exact ⟨rfl, (Below.refl _ _).alloc (Nat.le_refl _) _⟩
/-- The words of some objects. -/
def wlist (cs : Sch) (K : Nat → Int) (L : List Nat) : Nat := (L.map fun a => wof cs (K a)).sum
theorem wlist_snoc (cs : Sch) (K : Nat → Int) (L : List Nat) (x : Nat) : wlist cs K (L ++ [x]) = wlist cs K L + wof cs (K x) := by simp [wlist]
theorem wlist_le {cs : Sch} (h6 : ∀ c ∈ cs, c.2.length ≤ 6) (K : Nat → Int) (L : List Nat) : wlist cs K L ≤ 7 * L.length := by
  induction L with
  | nil => simp [wlist]
  | cons x L ih =>
    unfold wlist at ih ⊢; rw [List.map_cons, List.sum_cons, List.length_cons]; have := fof_le h6 (K x); have : wof cs (K x) ≤ 7 := by unfold wof; omega
    omega
theorem clsV_len {w : World} {base : Nat} {v : Value} {vs : List (Int × SV)} {cs : List (Int × List (Int × Int))} (h : Cls w base v vs cs) (x : Int) : (findC vs x).2.n = (fof cs x).length := by
  obtain ⟨_, f2⟩ := h.find x
  rw [fcs_fof] at f2
  rcases f2.shape with ⟨e1, e2⟩ | ⟨g, cap, e1, _⟩
  · have e1' : Value.slice (findC vs x).2.a (findC vs x).2.n (findC vs x).2.c = .slice none 0 0 := e1
    injection e1' with _ e3 _
    rw [e2]; simpa using e3
  · have e1' : Value.slice (findC vs x).2.a (findC vs x).2.n (findC vs x).2.c = .slice (some ⟨g, 0, none⟩) (fof cs x).length cap := e1
    injection e1'
set_option maxRecDepth 20000 in
set_option maxHeartbeats 1000000 in
theorem wordsOf_any (hb : Nat) (sv : SV) (sz : Int) (p : PH) (base : Nat) (vs : List (Int × SV)) (cs : List (Int × List (Int × Int))) (w : World) (h : HP w hb sv sz p.R p.K p.N p.F) (hv : Cls w base (.slice sv.a sv.n sv.c) vs cs) (h6 : ∀ c ∈ cs, c.2.length ≤ 6)
    (L : List Nat) (lb : Nat) (v : Value) (hl : w.ownsRow lb 3 1 v L.length (L.map fun (x : Nat) => Value.int .i64 (x : Int))) (hL : ∀ x ∈ L, x < 201) (hlen : L.length ≤ 200) :
    Calls Try.prog 36 #[.pointer (some ⟨hb, 0, none⟩), v] w fun e w' => e = .returned (.int .i64 (wlist cs p.K L)) ∧ Below w.heap.size w w' := by
  have hbl := h.lt
  have HH : Hid (HP w hb sv sz p.R p.K p.N p.F) := h
  have HV : Hid (Cls w base (.slice sv.a sv.n sv.c) vs cs) := hv
  have H6 : Hid (∀ c ∈ cs, c.2.length ≤ 6) := h6
  obtain ⟨va, vc, hvs⟩ : ∃ a c, v = .slice a L.length c := by
    rcases hl.2 with ⟨rfl, hn⟩ | ⟨g, cap, cur, rfl, _⟩
    · exact ⟨none, 0, by rw [hn]⟩
    · exact ⟨_, _, rfl⟩
  subst hvs
  have HLC : Hid (∀ i, i < L.length → ∃ g, va = some ⟨g, 0, none⟩ ∧ g < w.heap.size ∧ w.cell? ⟨g, i, none⟩ = some (.int .i64 ((L[i]?.getD 0 : Nat) : Int)) ∧ L[i]?.getD 0 < 201) := by
    intro i hi
    rcases hl.2 with ⟨e, hn⟩ | ⟨g, cap, cur, e, _, hg, _⟩
    · omega
    · have ea : va = some ⟨g, 0, none⟩ := by injection e
      refine ⟨g, ea, (Array.getElem?_eq_some_iff.1 hg).1, ?_, ?_⟩
      · have c := World.ownsRow.cells hl (g := g) (by rw [ea]; rfl) i _ (by rw [List.getElem?_map, List.getElem?_eq_getElem hi]; rfl)
        have e2 : (⟨g, 0, none⟩ : Addr).add i = ⟨g, i, none⟩ := by unfold Addr.add; split <;> simp_all
        rw [e2] at c
        rw [c, List.getElem?_eq_getElem hi]; rfl
      · rw [List.getElem?_eq_getElem hi]; exact hL _ (List.getElem_mem hi)
  obtain ⟨n, hn⟩ : ∃ n, n = L.length := ⟨_, rfl⟩
  have HN : Hid (n = L.length) := hn
  rw [← hn] at hlen ⊢
  clear h hv h6 hl hL hn
  go_enter Try.func36, Try.ntmps36
  go_wp2
  go_loopw [5, 11] (fun sv' iv wr => ∃ i : Nat, i ≤ n ∧ iv = .int .i64 i ∧ sv' = .int .i64 (wlist cs p.K (L.take i)) ∧ Below w.heap.size w wr) (fun _ iv _ => n - (intOf iv).toNat)
  case atStart => exact ⟨0, by omega, rfl, by simp [wlist], Below.refl _ _⟩
  case round =>
    obtain ⟨i, hi, rfl, rfl, hb'⟩ := hrel
    by_cases hlt : i < n
    · obtain ⟨g, ea, hg, hc, hx⟩ := HLC.out i (by rw [← HN.out]; exact hlt)
      obtain ⟨x, hxx⟩ : ∃ x, x = L[i]?.getD 0 := ⟨_, rfl⟩
      rw [← hxx] at hc hx
      have hc1 : wr.cell? ⟨g, i, none⟩ = some (.int .i64 (x : Int)) := (hb'.cell (by exact hg)).trans hc
      have HP1 := HH.out.below hb'
      have HV1 := HV.out.below hb'
      have CC := classOf_any hb x sv sz p.R p.K p.N p.F vs wr HP1 HV1.cv hx
      have hfl := clsV_len HV1 (p.K x)
      have hf6 := fof_le H6.out (p.K x)
      obtain ⟨l, sa, sn, sc, hf⟩ : ∃ l sa sn sc, findC vs (p.K x) = (l, ⟨sa, sn, sc⟩) := ⟨_, _, _, _, rfl⟩
      rw [hf] at CC hfl
      simp only [clsV] at CC hfl
      have hsl := wlist_le H6.out p.K (L.take i)
      have htk : (L.take i).length ≤ i := by simp; omega
      obtain ⟨s0, hs0⟩ : ∃ s0, s0 = wlist cs p.K (L.take i) := ⟨_, rfl⟩
      have HS : Hid (wlist cs p.K (L.take (i + 1)) = s0 + sn + 1) := by
        show _ = _
        have hil : i < L.length := by rw [← HN.out]; exact hlt
        rw [List.take_add_one, List.getElem?_eq_getElem hil, Option.toList_some, wlist_snoc, ← hs0, wof]
        have : L[i] = x := by rw [hxx, List.getElem?_eq_getElem hil]; rfl
        rw [this, hfl]; omega
      rw [← hs0] at hsl ⊢
      have hs7 : s0 ≤ 1400 := by omega
      have hsn : sn ≤ 6 := by omega
      rw [ea]
      have hib : (0 : Int) ≤ (i : Int) ∧ (i : Int) < (n : Int) := by omega
      have HBR : Hid (Below w.heap.size w wr) := hb'
      have hszr := hb'.size
      clear HP1 HV1 hf hfl hf6 hs0 hsl htk hxx hc ea
      rename World => wo
      go_wp2_with fail
      refine CC.mono ?_
      rintro e w1 ⟨rfl, B1⟩
      have HB1 : Hid (Below w.heap.size w (w1.alloc (.cells #[.int .u8 l, .slice sa sn sc] 88))) := (HBR.out.trans (B1.mono HBR.out.size)).alloc (Nat.le_trans hszr B1.size) _
      have hs1 := B1.size
      clear CC B1
      go_wp2_with fail
      refine (cwords_any l sa sn sc _ (by omega)).mono ?_
      rintro e w2 ⟨rfl, B2⟩
      have HB2 : Hid (Below w.heap.size w w2) := HB1.out.trans (B2.mono HB1.out.size)
      clear B2
      go_wp2
      go_roundw
      case rel => exact ⟨i + 1, by omega, by go_num, by rw [HS.out]; go_num, HB2.out⟩
      case measure => simp [intOf]; omega
    · have ei : i = n := by omega
      have hge : n ≤ i := by omega
      have HE : Hid (L.take i = L) := by
        show _ = _
        rw [ei, HN.out]; exact List.take_length
      clear hlt ei
      go_wp2
      go_ret
      exact ⟨by rw [HE.out]; rfl, hb'⟩
end Go.Proofs.Ytbgilndohccicab
namespace Go.Proofs.Ytbgilndohccicab
open Go.RowKit

theorem Try.infoReach : (Try.prog.info? 93).map (fun i => (i.zero, i.size)) = some (some (.agg (rarr (fun _ => false) (.slice none 0 0))), 202) := by kernel_rfl
theorem idx8_0 (R : Nat → Nat) (W : World) : (Instr.index 56 (.agg #[.int .i64 (R 0), .int .i64 (R 1), .int .i64 (R 2), .int .i64 (R 3), .int .i64 (R 4), .int .i64 (R 5), .int .i64 (R 6), .int .i64 (R 7)]) (.int .i64 ((0 : Nat) : Int))).run Try.prog W = .ok (.int .i64 (R 0)) W := by kernel_rfl
theorem idx8_1 (R : Nat → Nat) (W : World) : (Instr.index 56 (.agg #[.int .i64 (R 0), .int .i64 (R 1), .int .i64 (R 2), .int .i64 (R 3), .int .i64 (R 4), .int .i64 (R 5), .int .i64 (R 6), .int .i64 (R 7)]) (.int .i64 ((1 : Nat) : Int))).run Try.prog W = .ok (.int .i64 (R 1)) W := by kernel_rfl
theorem idx8_2 (R : Nat → Nat) (W : World) : (Instr.index 56 (.agg #[.int .i64 (R 0), .int .i64 (R 1), .int .i64 (R 2), .int .i64 (R 3), .int .i64 (R 4), .int .i64 (R 5), .int .i64 (R 6), .int .i64 (R 7)]) (.int .i64 ((2 : Nat) : Int))).run Try.prog W = .ok (.int .i64 (R 2)) W := by kernel_rfl
theorem idx8_3 (R : Nat → Nat) (W : World) : (Instr.index 56 (.agg #[.int .i64 (R 0), .int .i64 (R 1), .int .i64 (R 2), .int .i64 (R 3), .int .i64 (R 4), .int .i64 (R 5), .int .i64 (R 6), .int .i64 (R 7)]) (.int .i64 ((3 : Nat) : Int))).run Try.prog W = .ok (.int .i64 (R 3)) W := by kernel_rfl
theorem idx8_4 (R : Nat → Nat) (W : World) : (Instr.index 56 (.agg #[.int .i64 (R 0), .int .i64 (R 1), .int .i64 (R 2), .int .i64 (R 3), .int .i64 (R 4), .int .i64 (R 5), .int .i64 (R 6), .int .i64 (R 7)]) (.int .i64 ((4 : Nat) : Int))).run Try.prog W = .ok (.int .i64 (R 4)) W := by kernel_rfl
theorem idx8_5 (R : Nat → Nat) (W : World) : (Instr.index 56 (.agg #[.int .i64 (R 0), .int .i64 (R 1), .int .i64 (R 2), .int .i64 (R 3), .int .i64 (R 4), .int .i64 (R 5), .int .i64 (R 6), .int .i64 (R 7)]) (.int .i64 ((5 : Nat) : Int))).run Try.prog W = .ok (.int .i64 (R 5)) W := by kernel_rfl
theorem idx8_6 (R : Nat → Nat) (W : World) : (Instr.index 56 (.agg #[.int .i64 (R 0), .int .i64 (R 1), .int .i64 (R 2), .int .i64 (R 3), .int .i64 (R 4), .int .i64 (R 5), .int .i64 (R 6), .int .i64 (R 7)]) (.int .i64 ((6 : Nat) : Int))).run Try.prog W = .ok (.int .i64 (R 6)) W := by kernel_rfl
theorem idx8_7 (R : Nat → Nat) (W : World) : (Instr.index 56 (.agg #[.int .i64 (R 0), .int .i64 (R 1), .int .i64 (R 2), .int .i64 (R 3), .int .i64 (R 4), .int .i64 (R 5), .int .i64 (R 6), .int .i64 (R 7)]) (.int .i64 ((7 : Nat) : Int))).run Try.prog W = .ok (.int .i64 (R 7)) W := by kernel_rfl
set_option maxRecDepth 20000 in
theorem idx8_run (R : Nat → Nat) (i : Nat) (hi : i < 8) (W : World) : (Instr.index 56 (.agg #[.int .i64 (R 0), .int .i64 (R 1), .int .i64 (R 2), .int .i64 (R 3), .int .i64 (R 4), .int .i64 (R 5), .int .i64 (R 6), .int .i64 (R 7)]) (.int .i64 (i : Int))).run Try.prog W = .ok (.int .i64 (R i)) W := by
  have h : i = 0 ∨ i = 1 ∨ i = 2 ∨ i = 3 ∨ i = 4 ∨ i = 5 ∨ i = 6 ∨ i = 7 := by omega
  clear hi
  rcases h with rfl | rfl | rfl | rfl | rfl | rfl | rfl | rfl
  · exact idx8_0 R W
  · exact idx8_1 R W
  · exact idx8_2 R W
  · exact idx8_3 R W
  · exact idx8_4 R W
  · exact idx8_5 R W
  · exact idx8_6 R W
  · exact idx8_7 R W
theorem idx6_0 (R : Nat → Nat) (W : World) : (Instr.index 76 (.agg #[.int .i64 (R 0), .int .i64 (R 1), .int .i64 (R 2), .int .i64 (R 3), .int .i64 (R 4), .int .i64 (R 5)]) (.int .i64 ((0 : Nat) : Int))).run Try.prog W = .ok (.int .i64 (R 0)) W := by kernel_rfl
theorem idx6_1 (R : Nat → Nat) (W : World) : (Instr.index 76 (.agg #[.int .i64 (R 0), .int .i64 (R 1), .int .i64 (R 2), .int .i64 (R 3), .int .i64 (R 4), .int .i64 (R 5)]) (.int .i64 ((1 : Nat) : Int))).run Try.prog W = .ok (.int .i64 (R 1)) W := by kernel_rfl
theorem idx6_2 (R : Nat → Nat) (W : World) : (Instr.index 76 (.agg #[.int .i64 (R 0), .int .i64 (R 1), .int .i64 (R 2), .int .i64 (R 3), .int .i64 (R 4), .int .i64 (R 5)]) (.int .i64 ((2 : Nat) : Int))).run Try.prog W = .ok (.int .i64 (R 2)) W := by kernel_rfl
theorem idx6_3 (R : Nat → Nat) (W : World) : (Instr.index 76 (.agg #[.int .i64 (R 0), .int .i64 (R 1), .int .i64 (R 2), .int .i64 (R 3), .int .i64 (R 4), .int .i64 (R 5)]) (.int .i64 ((3 : Nat) : Int))).run Try.prog W = .ok (.int .i64 (R 3)) W := by kernel_rfl
theorem idx6_4 (R : Nat → Nat) (W : World) : (Instr.index 76 (.agg #[.int .i64 (R 0), .int .i64 (R 1), .int .i64 (R 2), .int .i64 (R 3), .int .i64 (R 4), .int .i64 (R 5)]) (.int .i64 ((4 : Nat) : Int))).run Try.prog W = .ok (.int .i64 (R 4)) W := by kernel_rfl
theorem idx6_5 (R : Nat → Nat) (W : World) : (Instr.index 76 (.agg #[.int .i64 (R 0), .int .i64 (R 1), .int .i64 (R 2), .int .i64 (R 3), .int .i64 (R 4), .int .i64 (R 5)]) (.int .i64 ((5 : Nat) : Int))).run Try.prog W = .ok (.int .i64 (R 5)) W := by kernel_rfl
set_option maxRecDepth 20000 in
theorem idx6_run (R : Nat → Nat) (i : Nat) (hi : i < 6) (W : World) : (Instr.index 76 (.agg #[.int .i64 (R 0), .int .i64 (R 1), .int .i64 (R 2), .int .i64 (R 3), .int .i64 (R 4), .int .i64 (R 5)]) (.int .i64 (i : Int))).run Try.prog W = .ok (.int .i64 (R i)) W := by
  have h : i = 0 ∨ i = 1 ∨ i = 2 ∨ i = 3 ∨ i = 4 ∨ i = 5 := by omega
  clear hi
  rcases h with rfl | rfl | rfl | rfl | rfl | rfl
  · exact idx6_0 R W
  · exact idx6_1 R W
  · exact idx6_2 R W
  · exact idx6_3 R W
  · exact idx6_4 R W
  · exact idx6_5 R W
theorem rarr_one (S : Nat → Bool) (a : Option Addr) (n c : Nat) : (rarr S (.slice a n c)).all (·.oneCell') = true := by
  unfold rarr
  rw [List.all_toArray]
  simp [Value.oneCell']
theorem row_keepH {w w' : World} {base : Nat} {e : TypeId} {size : Nat} {v : Value} {n : Nat} {xs : List Value} (h : w.ownsRow base e size v n xs) (hk : ∀ g, v.ownBlock = some g → w'.heap[g]? = w.heap[g]?) : w'.ownsRow base e size v n xs := by
  obtain ⟨h1, h2⟩ := h
  refine ⟨h1, h2.imp id ?_⟩
  rintro ⟨g, cap, cur, rfl, h0, hg, r⟩
  exact ⟨g, cap, cur, rfl, h0, by rw [hk g rfl]; exact hg, r⟩
theorem RB.below {w w' : World} {b : Nat} {S : Nat → Bool} {v : Value} {L : List Nat} {base : Nat} (h : RB w b S v L base) (hb : Below w.heap.size w w') : RB w' b S v L base :=
  ⟨(hb.block b h.lt).trans h.blk, row_keepH h.own fun g hg => hb.block g (World.ownsRow.lt h.own g hg).2⟩
def RePost (p : PH) (w : World) (e : Ending) (w' : World) : Prop := ∃ S v L, e = .returned (.agg (rarr S v)) ∧ w'.ownsRow w.heap.size 3 1 v L.length (L.map fun (x : Nat) => Value.int .i64 (x : Int)) ∧ PI p L S ∧ (∀ a, a ∈ L ↔ p.in a) ∧ Below w.heap.size w w'

set_option maxRecDepth 20000 in
set_option maxHeartbeats 1000000 in
theorem reached_any (hb : Nat) (sv : SV) (sz : Int) (p : PH) (w : World) (h : HP w hb sv sz p.R p.K p.N p.F) (hP : Pw p) :
    Calls Try.prog 35 #[.pointer (some ⟨hb, 0, none⟩)] w (RePost p w) := by
  have hbl := h.lt
  have HH : Hid (HP w hb sv sz p.R p.K p.N p.F) := h
  have HPw : Hid (Pw p) := hP
  obtain ⟨hz, hsz⟩ := zero_of_info Try.infoReach
  have c0 := h.root 0 (by omega)
  have c1 := h.root 1 (by omega)
  have c2 := h.root 2 (by omega)
  have c3 := h.root 3 (by omega)
  have c4 := h.root 4 (by omega)
  have c5 := h.root 5 (by omega)
  have c6 := h.root 6 (by omega)
  have c7 := h.root 7 (by omega)
  obtain ⟨Z, hZ⟩ : ∃ Z, Z = rarr (fun _ => false) (.slice none 0 0) := ⟨_, rfl⟩
  rw [← hZ] at hz
  have HZ : Hid (Z = rarr (fun _ => false) (.slice none 0 0)) := hZ
  clear h hP hZ
  go_enter Try.func35, Try.ntmps35
  go_wp2
  have B0 : Below w.heap.size w ((w.alloc (.cells Z 93)).alloc (.cells Z 93)) := ((Below.refl _ _).alloc (Nat.le_refl _) _).alloc (by simp) _
  have R0 : RB ((w.alloc (.cells Z 93)).alloc (.cells Z 93)) (w.heap.size + 1) (fun _ => false) (.slice none 0 0) [] (w.heap.size + 2) := by
    refine ⟨?_, World.ownsRow_nil _ _ _ _⟩
    have := heap_alloc2_new w (.cells Z 93) (.cells Z 93)
    rw [this, HZ.out]
  have Q0 : ((w.alloc (.cells Z 93)).alloc (.cells Z 93)).heap[w.heap.size]? = some (.cells Z 93 (0, 0)) := heap_alloc2_old w _ _
  go_loopw [14] (fun iv wr => ∃ (i : Nat) (S : Nat → Bool) (v : Value) (L : List Nat), i ≤ 8 ∧ iv = .int .i64 i ∧ RB wr (w.heap.size + 1) S v L (w.heap.size + 2) ∧ Hid (P1 p L S i) ∧ wr.heap[w.heap.size]? = some (.cells Z 93 (0, 0)) ∧ w.heap.size + 2 ≤ wr.heap.size ∧ Below w.heap.size w wr) (fun iv _ => 8 - (intOf iv).toNat)
  case atStart => exact ⟨0, _, _, _, by omega, rfl, R0, ⟨PI.nil p, fun i h => by omega⟩, Q0, by simp, B0⟩
  case round =>
    clear B0 R0 Q0
    obtain ⟨i, S, v, L, hi, rfl, rb, HP1, hq, hsz2, hb'⟩ := hrel
    by_cases hlt : i < 8
    · have HP2 : Hid (P1 p (addL L S (p.R i)) (addS S (p.R i)) (i + 1)) := HP1.out.add HPw.out hlt
      have hll := HP1.out.pi.len
      have hRi := HPw.out.root i hlt
      have AC := add_any (w.heap.size + 1) S v L (w.heap.size + 2) (p.R i) wr rb (by omega) hsz2 hRi hll
      have hib : (0 : Int) ≤ (i : Int) ∧ (i : Int) < 8 := by omega
      have hix := idx8_run p.R i hlt
      have HBR : Hid (Below w.heap.size w wr) := hb'
      clear rb
      rename World => wo
      go_wp2_with fail
      refine AC.mono ?_
      rintro e w1 ⟨rfl, B1, v1, rb1⟩
      have hs1 := B1.size
      have hq1 : w1.heap[w.heap.size]? = some (.cells Z 93 (0, 0)) := (B1.block _ (by omega)).trans hq
      have HB1 : Hid (Below w.heap.size w w1) := HBR.out.trans (B1.mono (by omega))
      clear AC B1 hix
      go_wp2
      go_roundw
      case rel => exact ⟨i + 1, _, _, _, by omega, by go_num, rb1, HP2, hq1, by omega, HB1.out⟩
      case measure => simp [intOf]; omega
    · have HP2 : Hid (P2 p L S 0 0) := by
        show P2 p L S 0 0
        have e8 : i = 8 := by omega
        have := HP1.out
        rw [e8] at this
        exact this.p2
      have hge8 : 8 ≤ i := by omega
      clear HP1 hlt
      go_wp2
      go_loopw [6] (fun iv wr => ∃ (j : Nat) (S : Nat → Bool) (v : Value) (L : List Nat), iv = .int .i64 j ∧ RB wr (w.heap.size + 1) S v L (w.heap.size + 2) ∧ Hid (P2 p L S j 0) ∧ wr.heap[w.heap.size]? = some (.cells Z 93 (0, 0)) ∧ w.heap.size + 2 ≤ wr.heap.size ∧ Below w.heap.size w wr) (fun iv _ => 200 - (intOf iv).toNat)
      case atStart => exact ⟨0, S, v, L, rfl, rb, HP2, hq, hsz2, hb'⟩
      case round =>
        clear rb HP2 hq hsz2 hb' S v L
        obtain ⟨j, S, v, L, rfl, rb, HP2, hq, hsz2, hb'⟩ := hrel
        have hll := HP2.out.pi.len
        have hjl := HP2.out.il
        have rl := rb.l
        have rlt := rb.lt
        obtain ⟨va, vc, hvs⟩ : ∃ a c, v = .slice a L.length c := by
          rcases rb.own.2 with ⟨e, hn⟩ | ⟨g, cap, cur, e, _⟩
          · exact ⟨none, 0, by rw [hn]; exact e⟩
          · exact ⟨_, _, e⟩
        subst hvs
        by_cases hlt : j < L.length
        · have hmem : L[j]?.getD 0 ∈ L := by rw [List.getElem?_eq_getElem hlt]; exact List.getElem_mem hlt
          have hxb := HP2.out.pi.bd _ hmem
          obtain ⟨x, hx⟩ : ∃ x, x = L[j]?.getD 0 := ⟨_, rfl⟩
          have HX : Hid (x = L[j]?.getD 0) := hx
          rw [← hx] at hxb
          obtain ⟨g, ea, hg, hc⟩ : ∃ g, va = some ⟨g, 0, none⟩ ∧ g < wr.heap.size ∧ wr.cell? ⟨g, j, none⟩ = some (.int .i64 (x : Int)) := by
            rcases rb.own.2 with ⟨e, hn⟩ | ⟨g, cap, cur, e, _, hg, _⟩
            · omega
            · have ea : va = some ⟨g, 0, none⟩ := by injection e
              refine ⟨g, ea, (Array.getElem?_eq_some_iff.1 hg).1, ?_⟩
              have c := World.ownsRow.cells rb.own (g := g) (by rw [ea]; rfl) j _ (by rw [List.getElem?_map, List.getElem?_eq_getElem hlt]; rfl)
              have e2 : (⟨g, 0, none⟩ : Addr).add j = ⟨g, j, none⟩ := by unfold Addr.add; split <;> simp_all
              rw [e2] at c
              rw [c, hx, List.getElem?_eq_getElem hlt]; rfl
          have HP3 := HH.out.below hb'
          have hbl1 := HP3.lt
          have f0 := HP3.ref x 0 hxb.2 (by omega)
          have f1 := HP3.ref x 1 hxb.2 (by omega)
          have f2 := HP3.ref x 2 hxb.2 (by omega)
          have f3 := HP3.ref x 3 hxb.2 (by omega)
          have f4 := HP3.ref x 4 hxb.2 (by omega)
          have f5 := HP3.ref x 5 hxb.2 (by omega)
          have hxi : (0 : Int) ≤ (x : Int) ∧ (x : Int) < 201 := by omega
          have hjb : (0 : Int) ≤ (j : Int) ∧ (j : Int) < (L.length : Int) := by omega
          have HBR : Hid (Below w.heap.size w wr) := hb'
          have HRB : Hid (RB wr (w.heap.size + 1) S (.slice va L.length vc) L (w.heap.size + 2)) := rb
          have HQ : Hid (wr.heap[w.heap.size]? = some (.cells Z 93 (0, 0))) := hq
          subst ea
          clear hmem hx HP3 rb hq
          rename World => wo
          go_wp2
          go_region
          all_goals
            go_wp2
            go_loopw [39] (fun kv wr => ∃ (k : Nat) (S : Nat → Bool) (v : Value) (L' : List Nat), k ≤ 6 ∧ kv = .int .i64 k ∧ RB wr (w.heap.size + 1) S v L' (w.heap.size + 2) ∧ Hid (P2 p L' S j k ∧ L'[j]?.getD 0 = x ∧ j < L'.length) ∧ wr.heap[w.heap.size]? = some (.cells Z 93 (0, 0)) ∧ w.heap.size + 2 ≤ wr.heap.size ∧ Below w.heap.size w wr) (fun kv _ => 6 - (intOf kv).toNat)
            case atStart =>
              have BB : Below wo.heap.size wo ((wo.alloc (.cells #[.int .i64 (p.F x 0), .int .i64 (p.F x 1), .int .i64 (p.F x 2), .int .i64 (p.F x 3), .int .i64 (p.F x 4), .int .i64 (p.F x 5)] 76)).drew) := ((Below.refl _ _).alloc (Nat.le_refl _) _).drew
              exact ⟨0, S, _, L, by omega, rfl, HRB.out.below BB, ⟨HP2.out, HX.out.symm, hlt⟩, (BB.block _ (by omega)).trans HQ.out, by simp; omega, HBR.out.trans (BB.mono HBR.out.size)⟩
            case round =>
              clear HRB HP2 HQ HBR hb' rl rlt hg hc hbl1 f0 f1 f2 f3 f4 f5 hsz2 hll hjl
              obtain ⟨k, S', v', L', hk, rfl, rb, HP2, hq, hsz2, hb'⟩ := hrel
              by_cases hkl : k < 6
              · obtain ⟨q1, q2, q3⟩ := HP2.out
                have hadd := q1.add HPw.out q3 hkl
                rw [q2] at hadd
                have HP3 : Hid (P2 p (addL L' S' (p.F x k)) (addS S' (p.F x k)) j (k + 1) ∧ (addL L' S' (p.F x k))[j]?.getD 0 = x ∧ j < (addL L' S' (p.F x k)).length) := ⟨hadd.1, by rw [hadd.2.1]; exact q2, hadd.2.2⟩
                have hll := q1.pi.len
                have hFk := HPw.out.ref x k hxb.2 hkl
                have AC := add_any (w.heap.size + 1) S' v' L' (w.heap.size + 2) (p.F x k) wr rb (by omega) hsz2 hFk hll
                have hix := idx6_run (p.F x) k hkl
                have hkb : (0 : Int) ≤ (k : Int) ∧ (k : Int) < 6 := by omega
                have HBR : Hid (Below w.heap.size w wr) := hb'
                clear rb q1 q2 q3 hadd
                rename World => wp
                go_wp2_with fail
                refine AC.mono ?_
                rintro e w1 ⟨rfl, B1, v1, rb1⟩
                have hs1 := B1.size
                have hq1 : w1.heap[w.heap.size]? = some (.cells Z 93 (0, 0)) := (B1.block _ (by omega)).trans hq
                have HB1 : Hid (Below w.heap.size w w1) := HBR.out.trans (B1.mono (by omega))
                clear AC B1 hix
                go_wp2
                go_roundw
                case rel => exact ⟨k + 1, _, _, _, by omega, by go_num, rb1, HP3, hq1, by omega, HB1.out⟩
                case measure => simp [intOf]; omega
              · have HP3 : Hid (P2 p L' S' (j + 1) 0) := by
                  show P2 p L' S' (j + 1) 0
                  have e6 : k = 6 := by omega
                  obtain ⟨q1, q2, q3⟩ := HP2.out
                  rw [e6] at q1
                  exact q1.next q3
                have hge6 : 6 ≤ k := by omega
                have hlen : j < 200 := by have := HP2.out.1.pi.len; have := HP2.out.2.2; omega
                clear hkl
                go_wp2
                go_roundw
                case rel => exact ⟨j + 1, _, _, _, by go_num, rb, HP3, hq, hsz2, hb'⟩
                case measure => simp [intOf]; omega
        · have HM : Hid (∀ a, a ∈ L ↔ p.in a) := by
            show ∀ a, a ∈ L ↔ p.in a
            have ej : j = L.length := by omega
            have := HP2.out
            rw [ej] at this
            exact this.fin
          have hge : L.length ≤ j := by omega
          have HPI : Hid (PI p L S) := HP2.out.pi
          have HRB : Hid (RB wr (w.heap.size + 1) S (.slice va L.length vc) L (w.heap.size + 2)) := rb
          have HBR : Hid (Below w.heap.size w wr) := hb'
          have blk := rb.blk
          obtain ⟨RA, hRA⟩ : ∃ RA, RA = rarr S (.slice va L.length vc) := ⟨_, rfl⟩
          rw [← hRA] at blk
          clear hlt rb
          have HRA : Hid (RA = rarr S (.slice va L.length vc)) := hRA
          have h202 : RA.size = 202 := by rw [hRA]; exact rarr_size _ _
          have hZ202 : Z.size = 202 := by rw [HZ.out]; exact rarr_size _ _
          have hone : RA.all (·.oneCell') = true := by rw [hRA]; exact rarr_one _ _ _ _
          clear hRA
          go_wp2_with (first | (refine wpList_load_row rfl 93 _ rfl (w.heap.size + 1) rfl 93 RA (0, 0) _ blk Try.underlying93 rfl (by rw [hsz, h202]) ?_) | (refine wpList_store_row rfl 93 _ _ rfl w.heap.size RA rfl rfl 93 Z hq (by rw [hsz, h202]) (by rw [hZ202, h202]) hone ?_))
          have hg9 : (wr.setRow w.heap.size RA).heap[w.heap.size]? = some (.cells RA 93 (0, 0)) := setRow_heap wr w.heap.size Z RA _ _ hq
          have hbo : ∀ k, k ≠ w.heap.size → (wr.setRow w.heap.size RA).heap[k]? = wr.heap[k]? := fun k hk => by
            simp only [World.setRow, Array.getElem?_modify]
            rw [if_neg (fun e => hk e.symm)]
          refine bodyPost_ret (v := .agg RA) (results_cell_row Try.results35 _ _ w.heap.size 93 RA (0, 0) _ (by rfl) hg9 Try.underlying93 rfl (by rw [hsz, h202])) rfl ⟨S, .slice va L.length vc, L, by rw [HRA.out], ?_, HPI.out, HM.out, ?_⟩
          · refine row_mono (row_keepH HRB.out.own fun g hg => hbo g ?_) (by omega)
            have := (World.ownsRow.lt HRB.out.own g hg).1; omega
          · exact ⟨HBR.out.os, HBR.out.tape, HBR.out.output, by simpa using HBR.out.size, fun k hk => (hbo k (by omega)).trans (HBR.out.block k hk)⟩
end Go.Proofs.Ytbgilndohccicab
