import Derived.Test.YtbgilndohccicabMz38
namespace Go.Proofs.Ytbgilndohccicab
open Go.RowKit

/-- An old object's numbers. -/
def numAt (N : Nat → Int) (i : Int) : Int := if 0 ≤ i ∧ i < 6 then N i.toNat else 0
def numV (N : Nat → Int) : Value := .agg #[.int .i64 (N 0), .int .i64 (N 1), .int .i64 (N 2), .int .i64 (N 3), .int .i64 (N 4), .int .i64 (N 5)]
set_option maxHeartbeats 1000000 in
theorem numberAt_any (N : Nat → Int) (i : Int) (w : World) :
    Calls Try.prog 89 #[numV N, .int .i64 i] w fun e w' => e = .returned (.int .i64 (numAt N i)) ∧ Below w.heap.size w w' := by
  unfold numV
  by_cases h : 0 ≤ i ∧ i < 6
  · have e : numAt N i = N i.toNat := by unfold numAt; rw [if_pos h]
    rw [e]
    have : i = 0 ∨ i = 1 ∨ i = 2 ∨ i = 3 ∨ i = 4 ∨ i = 5 := by omega
    clear h e
    rcases this with rfl | rfl | rfl | rfl | rfl | rfl
    all_goals
      go_enter Try.func89, Try.ntmps89
      go_wp2
      go_ret
      exact ⟨rfl, (Below.refl _ _).alloc (Nat.le_refl _) _⟩
  · have e : numAt N i = 0 := by unfold numAt; rw [if_neg h]
    rw [e]
    by_cases h1 : i < 0
    · clear h e
      go_enter Try.func89, Try.ntmps89
      go_wp2
      go_ret
      exact ⟨rfl, (Below.refl _ _).alloc (Nat.le_refl _) _⟩
    · have h2 : 6 ≤ i := by omega
      clear h e
      go_enter Try.func89, Try.ntmps89
      go_wp2
      go_ret
      exact ⟨rfl, (Below.refl _ _).alloc (Nat.le_refl _) _⟩
def zPT : PT := ⟨0, 0, 0⟩
def pV (t : PT) : List Value := [.int .u8 t.w, .int .i64 t.v, .int .i64 t.i]
theorem flatP_map (ts : List PT) : flatP ts = ts.flatMap pV := by
  induction ts with
  | nil => rfl
  | cons t r ih => simp only [flatP, ih, List.flatMap_cons, pV, List.cons_append, List.nil_append]
structure PCell (w : World) (g i : Nat) (t : PT) : Prop where
  c0 : w.cell? ⟨g, i * 3, none⟩ = some (.int .u8 t.w)
  c1 : w.cell? ⟨g, i * 3 + 1, none⟩ = some (.int .i64 t.v)
  c2 : w.cell? ⟨g, i * 3 + 2, none⟩ = some (.int .i64 t.i)
theorem PCell.below {w w' : World} {B g i : Nat} {t : PT} (h : PCell w g i t) (hb : Below B w w') (hg : g < B) : PCell w' g i t :=
  ⟨(hb.cell (p := ⟨g, _, none⟩) hg).trans h.c0, (hb.cell (p := ⟨g, _, none⟩) hg).trans h.c1, (hb.cell (p := ⟨g, _, none⟩) hg).trans h.c2⟩
theorem TPb.cells {w : World} {base : Nat} {v : Value} {ts : List PT} (h : TPb w base v ts) : (v = .slice none 0 0 ∧ ts = []) ∨ ∃ g cap, v = .slice (some ⟨g, 0, none⟩) ts.length cap ∧ g < w.heap.size ∧ ts.length ≤ maxLen ∧ ∀ i, i < ts.length → PCell w g i (ts[i]?.getD zPT) := by
  have h' := h
  unfold TPb at h'
  rw [flatP_map] at h'
  rcases h.2 with ⟨rfl, hn⟩ | ⟨g, cap, cur, rfl, _, hg, h1, h2, _⟩
  · exact .inl ⟨rfl, List.length_eq_zero_iff.1 hn⟩
  · refine .inr ⟨g, cap, rfl, ?_, by omega, fun i hi => ?_⟩
    · exact (World.ownsRow.lt h' g rfl).2
    · have hx := getD_of hi zPT
      exact ⟨by simpa using row_cell h' (fun _ => rfl) (j := 0) hx rfl, row_cell h' (fun _ => rfl) (j := 1) hx rfl, row_cell h' (fun _ => rfl) (j := 2) hx rfl⟩
/-- A rule reckoned on a pile. -/
def evP1 (N : Nat → Int) (t : PT) (l : List Int) : List Int := if isOpB t.w = true then l.dropLast.dropLast ++ [joinI (top l.dropLast) t.w (top l)] else if t.w = 48 then l ++ [t.v] else l ++ [numAt N t.i]
def evP (N : Nat → Int) : List PT → List Int → List Int
  | [], l => l
  | t :: r, l => evP N r (evP1 N t l)
theorem evP_ev (N : Nat → Int) (fs : List (Int × Int)) : ∀ (ps : List GT) (l : List Int), evP N (ps.map (ptOf fs)) l = ev (fun c => numAt N (idxF fs c)) ps l := by
  intro ps
  induction ps with
  | nil => intro l; rfl
  | cons t r ih => intro l; exact ih _
theorem evP_app (N : Nat → Int) : ∀ (a b : List PT) (l : List Int), evP N (a ++ b) l = evP N b (evP N a l) := by
  intro a
  induction a with
  | nil => intro b l; rfl
  | cons t r ih => intro b l; exact ih b _
theorem evP1_len (N : Nat → Int) (t : PT) (l : List Int) : (evP1 N t l).length ≤ l.length + 1 := by
  unfold evP1; split
  · simp; omega
  · split <;> simp
theorem evP_take {N : Nat → Int} {ts : List PT} {k : Nat} {t : PT} (h : ts[k]? = some t) : evP N (ts.take (k + 1)) [] = evP1 N t (evP N (ts.take k) []) := by
  rw [List.take_add_one, h, evP_app]; rfl
theorem PL.new (w : World) : PL (w.alloc (.cells #[.slice none 0 0] 170)) w.heap.size (w.heap.size + 1) (.slice none 0 0) [] :=
  ⟨by go_simp, by go_simp, World.ownsRow_nil _ _ _ _, Nat.lt_succ_self _, by simp⟩
theorem below_gbB {B b : Nat} {w0 w w' : World} (h : Below B w0 w) (g : w.grownBy w' (some b)) (hs : B ≤ w.heap.size) (hb : B ≤ b) : Below B w0 w' :=
  h.grown g hs (fun x hx => by injection hx with hx; omega)
set_option maxHeartbeats 2000000 in
set_option maxRecDepth 20000 in
theorem reckon_row (g cap m : Nat) (ts : List PT) (ex : Bool) (N : Nat → Int) (w : World) (hm : m = ts.length) (hmx : m ≤ 900) (hg : g < w.heap.size) (hc : ∀ i, i < m → PCell w g i (ts[i]?.getD zPT)) :
    Calls Try.prog 72 #[.agg #[.slice (some ⟨g, 0, none⟩) m cap, .bool ex], numV N] w fun e w' => e = .returned (.int .i64 (top (evP N ts []))) ∧ Below w.heap.size w w' := by
  obtain ⟨R, hR⟩ : ∃ R, R = top (evP N ts []) := ⟨_, rfl⟩
  rw [← hR]
  have HR : Hid (R = top (evP N ts [])) := hR
  have HM : Hid (m = ts.length) := hm
  have HC : Hid (∀ i, i < m → PCell w g i (ts[i]?.getD zPT)) := hc
  have CN := fun i W => numberAt_any N i W
  unfold numV at CN ⊢
  obtain ⟨W, hW⟩ : ∃ W, W = (w.alloc (.cells #[.slice (some ⟨g, 0, none⟩) m cap, .bool ex] 143)).alloc (.cells #[.int .i64 (N 0), .int .i64 (N 1), .int .i64 (N 2), .int .i64 (N 3), .int .i64 (N 4), .int .i64 (N 5)] 75) := ⟨_, rfl⟩
  have B0 : Below w.heap.size w W := by rw [hW]; exact ((Below.refl _ _).alloc (Nat.le_refl _) _).alloc (by simp) _
  have z0 : W.heap.size = w.heap.size + 1 + 1 := by rw [hW]; simp
  have y0 : W.cell? ⟨w.heap.size, 0, none⟩ = some (.slice (some ⟨g, 0, none⟩) m cap) := by rw [hW]; go_simp
  have n0 : W.cell? ⟨w.heap.size + 1, 0, none⟩ = some (.int .i64 (N 0)) := by rw [hW]; go_simp
  have n1 : W.cell? ⟨w.heap.size + 1, 1, none⟩ = some (.int .i64 (N 1)) := by rw [hW]; go_simp
  have n2 : W.cell? ⟨w.heap.size + 1, 2, none⟩ = some (.int .i64 (N 2)) := by rw [hW]; go_simp
  have n3 : W.cell? ⟨w.heap.size + 1, 3, none⟩ = some (.int .i64 (N 3)) := by rw [hW]; go_simp
  have n4 : W.cell? ⟨w.heap.size + 1, 4, none⟩ = some (.int .i64 (N 4)) := by rw [hW]; go_simp
  have n5 : W.cell? ⟨w.heap.size + 1, 5, none⟩ = some (.int .i64 (N 5)) := by rw [hW]; go_simp
  have P0 : PL (W.alloc (.cells #[.slice none 0 0] 170)) (w.heap.size + 1 + 1) (w.heap.size + 1 + 1 + 1) (.slice none 0 0) [] := by
    have := PL.new W; rw [z0] at this; exact this
  have HB0 : Hid (Below w.heap.size w W) := B0
  have HP0 : Hid (PL (W.alloc (.cells #[.slice none 0 0] 170)) (w.heap.size + 1 + 1) (w.heap.size + 1 + 1 + 1) (.slice none 0 0) []) := P0
  clear hR hm hc B0 P0
  go_enter Try.func72, Try.ntmps72
  go_wp2_with fail
  rw [← hW]
  clear hW
  have u0 : w.heap.size < W.heap.size := by omega
  have u1 : w.heap.size + 1 < W.heap.size := by omega
  go_wp2
  go_loopw [15] (fun i wr => ∃ (k : Nat) (v : Value), k ≤ m ∧ i = .int .i64 k ∧ (evP N (ts.take k) []).length ≤ k ∧ PL wr (w.heap.size + 1 + 1) (w.heap.size + 1 + 1 + 1) v (evP N (ts.take k) []) ∧ Below (w.heap.size + 1 + 1) W wr) (fun i _ => m - (intOf i).toNat)
  case atStart => exact ⟨0, _, Nat.zero_le _, rfl, Nat.le_refl _, HP0.out, (Below.refl _ _).alloc (by omega) _⟩
  case round =>
    obtain ⟨k, v, hk, rfl, hl, P, hb⟩ := hrel
    have HP : Hid (PL wr (w.heap.size + 1 + 1) (w.heap.size + 1 + 1 + 1) v (evP N (ts.take k) [])) := P
    have hsz := P.le
    have hBW : Below w.heap.size w wr := HB0.out.trans (hb.mono (by omega))
    have hgr : g < wr.heap.size := by omega
    have hz2 : w.heap.size + 1 + 1 < wr.heap.size := by omega
    obtain ⟨l, hl0⟩ : ∃ l, l = evP N (ts.take k) [] := ⟨_, rfl⟩
    have HL : Hid (l = evP N (ts.take k) []) := hl0
    rw [← hl0] at HP hl
    clear P hl0
    by_cases hlt : k < m
    · obtain ⟨t, ht⟩ : ∃ t, t = ts[k]?.getD zPT := ⟨_, rfl⟩
      have htk : ts[k]? = some t := by rw [ht]; exact getD_of (by rw [← HM.out]; exact hlt) zPT
      have HN : Hid (evP N (ts.take (k + 1)) [] = evP1 N t l) := by show _ = _; rw [HL.out]; exact evP_take htk
      have HN1 : Hid ((evP1 N t l).length ≤ k + 1) := Nat.le_trans (evP1_len N t l) (by omega)
      obtain ⟨x0, x1, x2⟩ := (HC.out k hlt).below hBW hg
      rw [← ht] at x0 x1 x2
      obtain ⟨tw, tv, ti⟩ := t
      simp only [] at x0 x1 x2
      obtain ⟨wa, hwa⟩ : ∃ wa, wa = wr.alloc (.cells #[.int .u8 tw, .int .i64 tv, .int .i64 ti] 172) := ⟨_, rfl⟩
      have Pa : PL wa (w.heap.size + 1 + 1) (w.heap.size + 1 + 1 + 1) v l := by rw [hwa]; exact HP.out.below ((Below.refl _ _).alloc (Nat.le_refl _) _)
      have Ba : Below (w.heap.size + 1 + 1) W wa := by rw [hwa]; exact hb.alloc (by omega) _
      have za : wr.heap.size < wa.heap.size := by rw [hwa]; simp
      have q0 : wa.cell? ⟨wr.heap.size, 0, none⟩ = some (.int .u8 tw) := by rw [hwa]; go_simp
      have q1 : wa.cell? ⟨wr.heap.size, 1, none⟩ = some (.int .i64 tv) := by rw [hwa]; go_simp
      have q2 : wa.cell? ⟨wr.heap.size, 2, none⟩ = some (.int .i64 ti) := by rw [hwa]; go_simp
      clear ht htk HL
      by_cases hs : tw = 43 ∨ tw = 45 ∨ tw = 42
      · have HE : Hid (evP1 N ⟨tw, tv, ti⟩ l = l.dropLast.dropLast ++ [joinI (top l.dropLast) tw (top l)]) := by
          show _ = _; unfold evP1; rw [if_pos (by rcases hs with rfl | rfl | rfl <;> rfl)]
        obtain ⟨jv, hjv⟩ : ∃ jv, jv = joinI (top l.dropLast) tw (top l) := ⟨_, rfl⟩
        rw [← hjv] at HE
        have CJ := fun W => join_any (top l.dropLast) tw (top l) W
        rw [← hjv] at CJ
        obtain ⟨d1, hd1⟩ : ∃ d1, d1 = top l := ⟨_, rfl⟩
        obtain ⟨d2, hd2⟩ : ∃ d2, d2 = top l.dropLast := ⟨_, rfl⟩
        have C1 := ppop_any Pa (by omega)
        rw [← hd1] at CJ C1
        rw [← hd2] at CJ
        have C2 := fun W v (h : PL W (w.heap.size + 1 + 1) (w.heap.size + 1 + 1 + 1) v l.dropLast) => ppop_any h (by simp; omega)
        rw [← hd2] at C2
        have C3 := fun W v (h : PL W (w.heap.size + 1 + 1) (w.heap.size + 1 + 1 + 1) v l.dropLast.dropLast) => ppush_any h (by simp; omega) jv
        clear hjv hd1 hd2 Pa
        rcases hs with rfl | rfl | rfl
        all_goals
          go_wp2_with fail
          rw [← hwa]
          clear hwa
          refine C1.mono ?_
          rintro e w1 ⟨rfl, ⟨v1, P1⟩, G1⟩
          have r0 := (World.cell?_of_block (a := ⟨wr.heap.size, 0, none⟩) (G1.block wr.heap.size za (by simp; omega))).trans q0
          have s1 := G1.size
          have B1 := below_gbB Ba G1 (by omega) (Nat.le_refl _)
          have z1 : wr.heap.size < w1.heap.size := by omega
          have D2 := C2 w1 v1 P1
          clear C1 C2 q0 q1 q2
          go_wp2_with fail
          refine D2.mono ?_
          rintro e w2 ⟨rfl, ⟨v2, P2⟩, G2⟩
          have r1 := (World.cell?_of_block (a := ⟨wr.heap.size, 0, none⟩) (G2.block wr.heap.size z1 (by simp; omega))).trans r0
          have s2 := G2.size
          have B2 := below_gbB B1 G2 (by omega) (Nat.le_refl _)
          have z2 : wr.heap.size < w2.heap.size := by omega
          have D3 := C3 w2 v2 P2
          clear D2 C3 r0 G1 G2
          go_wp2_with fail
          refine (CJ _).mono ?_
          rintro e w2' ⟨rfl, rfl⟩
          go_wp2_with fail
          refine D3.mono ?_
          rintro e w3 ⟨rfl, v3, P3, F3⟩
          have B3 := F3.below P2 (Nat.le_refl _) B2
          clear D3 CJ
          go_wp2
          go_roundw
          case rel => exact ⟨k + 1, v3, by omega, by go_num, by rw [HN.out]; exact HN1.out, by rw [HN.out, HE.out]; exact P3, B3⟩
          case measure => simp [intOf]; omega
      · have t1 : (tw == 43) = false := by simp; omega
        have t2 : (tw == 45) = false := by simp; omega
        have t3 : (tw == 42) = false := by simp; omega
        have hsg : isOpB tw = false := by unfold isOpB; rw [t1, t2, t3]; rfl
        by_cases h48 : tw = 48
        · have HE : Hid (evP1 N ⟨tw, tv, ti⟩ l = l ++ [tv]) := by show _ = _; unfold evP1; simp only []; rw [hsg, if_neg (by decide), if_pos h48]
          subst h48
          have C3 := ppush_any Pa (by omega) tv
          clear hsg hs t1 t2 t3
          go_wp2_with fail
          rw [← hwa]
          clear hwa
          go_wp2_with fail
          refine C3.mono ?_
          rintro e w3 ⟨rfl, v3, P3, F3⟩
          have B3 := F3.below Pa (Nat.le_refl _) Ba
          clear C3
          go_wp2
          go_roundw
          case rel => exact ⟨k + 1, v3, by omega, by go_num, by rw [HN.out]; exact HN1.out, by rw [HN.out, HE.out]; exact P3, B3⟩
          case measure => simp [intOf]; omega
        · have HE : Hid (evP1 N ⟨tw, tv, ti⟩ l = l ++ [numAt N ti]) := by show _ = _; unfold evP1; simp only []; rw [hsg, if_neg (by decide), if_neg h48]
          have t4 : (tw == 48) = false := by simp [h48]
          obtain ⟨x, hx⟩ : ∃ x, x = numAt N ti := ⟨_, rfl⟩
          have C1 := CN ti wa
          rw [← hx] at C1 HE
          have C3 := fun W (h : PL W (w.heap.size + 1 + 1) (w.heap.size + 1 + 1 + 1) v l) => ppush_any h (by omega) x
          have m0 := (hb.cell (p := ⟨w.heap.size + 1, 0, none⟩) (by show w.heap.size + 1 < _; omega)).trans n0
          have m1 := (hb.cell (p := ⟨w.heap.size + 1, 1, none⟩) (by show w.heap.size + 1 < _; omega)).trans n1
          have m2 := (hb.cell (p := ⟨w.heap.size + 1, 2, none⟩) (by show w.heap.size + 1 < _; omega)).trans n2
          have m3 := (hb.cell (p := ⟨w.heap.size + 1, 3, none⟩) (by show w.heap.size + 1 < _; omega)).trans n3
          have m4 := (hb.cell (p := ⟨w.heap.size + 1, 4, none⟩) (by show w.heap.size + 1 < _; omega)).trans n4
          have m5 := (hb.cell (p := ⟨w.heap.size + 1, 5, none⟩) (by show w.heap.size + 1 < _; omega)).trans n5
          have hz3 : w.heap.size + 1 < wr.heap.size := by omega
          clear hsg hs h48 hx
          go_wp2_with fail
          rw [← hwa]
          clear hwa
          refine C1.mono ?_
          rintro e w1 ⟨rfl, B1⟩
          have P1 := Pa.below B1
          have B2 : Below (w.heap.size + 1 + 1) W w1 := Ba.trans (B1.mono (by omega))
          have D3 := C3 w1 P1
          clear C1 C3
          go_wp2_with fail
          refine D3.mono ?_
          rintro e w3 ⟨rfl, v3, P3, F3⟩
          have B3 := F3.below P1 (Nat.le_refl _) B2
          clear D3
          go_wp2
          go_roundw
          case rel => exact ⟨k + 1, v3, by omega, by go_num, by rw [HN.out]; exact HN1.out, by rw [HN.out, HE.out]; exact P3, B3⟩
          case measure => simp [intOf]; omega
    · obtain rfl : k = m := by omega
      have HR2 : Hid (top l = R) := by
        show _ = _
        rw [HR.out, HL.out, List.take_of_length_le (by rw [← HM.out]; omega)]
      have C1 := ppop_any HP.out (by omega)
      rw [HR2.out] at C1
      go_wp2_with fail
      refine C1.mono ?_
      rintro e w1 ⟨rfl, _, G1⟩
      have B1 := below_gbB hb G1 (by omega) (Nat.le_refl _)
      clear C1
      go_wp2
      go_ret
      exact ⟨rfl, HB0.out.trans (B1.mono (by omega))⟩
set_option maxHeartbeats 400000 in
theorem reckon_nil (ex : Bool) (N : Nat → Int) (w : World) :
    Calls Try.prog 72 #[.agg #[.slice none 0 0, .bool ex], numV N] w fun e w' => e = .returned (.int .i64 0) ∧ Below w.heap.size w w' := by
  unfold numV
  obtain ⟨W, hW⟩ : ∃ W, W = (w.alloc (.cells #[.slice none 0 0, .bool ex] 143)).alloc (.cells #[.int .i64 (N 0), .int .i64 (N 1), .int .i64 (N 2), .int .i64 (N 3), .int .i64 (N 4), .int .i64 (N 5)] 75) := ⟨_, rfl⟩
  have B0 : Below w.heap.size w W := by rw [hW]; exact ((Below.refl _ _).alloc (Nat.le_refl _) _).alloc (by simp) _
  have z0 : W.heap.size = w.heap.size + 1 + 1 := by rw [hW]; simp
  have y0 : W.cell? ⟨w.heap.size, 0, none⟩ = some (.slice none 0 0) := by rw [hW]; go_simp
  have P0 : PL (W.alloc (.cells #[.slice none 0 0] 170)) (w.heap.size + 1 + 1) (w.heap.size + 1 + 1 + 1) (.slice none 0 0) [] := by
    have := PL.new W; rw [z0] at this; exact this
  have C1 := ppop_any P0 (by simp)
  rw [show top [] = 0 from rfl] at C1
  go_enter Try.func72, Try.ntmps72
  go_wp2_with fail
  rw [← hW]
  clear hW
  have u0 : w.heap.size < W.heap.size := by omega
  go_wp2_with fail
  refine wp_loop_rounds 1 ?_; rw [rounds_succ]
  go_wp2_with fail
  refine C1.mono ?_
  rintro e w1 ⟨rfl, _, G1⟩
  have B1 : Below (w.heap.size + 1 + 1) W w1 := below_gbB ((Below.refl _ _).alloc (by omega) _) G1 (by simp; omega) (Nat.le_refl _)
  clear C1
  go_wp2
  go_ret
  exact ⟨rfl, B0.trans (B1.mono (by omega))⟩
theorem reckon_any {a : Option Addr} {n c base : Nat} {ts : List PT} (ex : Bool) (N : Nat → Int) {w : World} (h : TPb w base (.slice a n c) ts) (hm : ts.length ≤ 900) :
    Calls Try.prog 72 #[.agg #[.slice a n c, .bool ex], numV N] w fun e w' => e = .returned (.int .i64 (top (evP N ts []))) ∧ Below w.heap.size w w' := by
  rcases h.cells with ⟨e, rfl⟩ | ⟨g, cap, e, hg, _, hc⟩
  · cases e; exact reckon_nil ex N w
  · cases e; exact reckon_row g _ _ ts ex N w rfl hm hg hc
end Go.Proofs.Ytbgilndohccicab
