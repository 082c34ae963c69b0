import Derived.Test.YthckelcjncnalabKz04
import Derived.Test.YthckelcjncnalabKz06
import Derived.Test.YthckelcjncnalabKz12
namespace Go.Proofs.Ythckelcjncnalab
open Go.RowKit

theorem below_gbN {w w' : World} (g : w.grownBy w' none) : Below w.heap.size w w' := ⟨g.os, g.tape, g.output, g.size, fun k hk => g.block k hk (by simp)⟩
set_option maxHeartbeats 600000 in
theorem here_any (s : ByteArray) (b k : Nat) (u : Bool) (w : World) (h : RS w b s k u) :
    Calls Try.prog 85 #[.pointer (some ⟨b, 0, none⟩)] w fun e w' =>
      e = .returned (.agg #[.int .u8 (nextB s k), .int .i64 0, .int .i64 k]) ∧ Below w.heap.size w w' := by
  have hb := h.blt
  have R0 : RS (w.alloc (.cells #[.int .u8 0, .int .i64 0, .int .i64 0] 154)) b s k u := h.alloc _
  obtain ⟨c0, c1, c2, _, f1, f3, le, lt⟩ := id h
  go_enter Try.func85, Try.ntmps85
  go_wp2
  go_region_with (go_at_call 79; refine (next_rs (s := s) (b := b) (k := k) (u := u) (by with_reducible repeat first | exact R0 | apply RS.drew | apply RS.alloc | apply RS.drewN)).mono ?_; rintro e w' ⟨rfl, n, rfl⟩)
  all_goals
    go_wp2_with fail
    refine bodyPost_ret (v := .agg #[.int .u8 (nextB s k), .int .i64 0, .int .i64 k]) (by simp [results, Try.results85, go_sem]) rfl ⟨rfl, below_gbN ?_⟩
    with_reducible repeat first | exact World.grownBy.refl _ _ | apply gb_drew | apply gb_drew1 | apply gb_alloc | (refine gb_setNew ?_ (by omega) _)
set_option maxHeartbeats 400000 in
theorem isLetter_any (x y z : Int) (w : World) :
    Calls Try.prog 70 #[.agg #[.int .u8 x, .int .i64 y, .int .i64 z]] w fun e w' => e = .returned (.bool (decide (97 ≤ x) && decide (x ≤ 122))) ∧ Below w.heap.size w w' := by
  go_enter Try.func70, Try.ntmps70
  go_wp2_with fail
  refine (isIn_any x 97 122 _).mono ?_
  rintro e w' ⟨rfl, rfl⟩
  go_wp2
  go_ret
  exact ⟨rfl, (Below.refl _ _).alloc (Nat.le_refl _) _⟩
end Go.Proofs.Ythckelcjncnalab
namespace Go.Proofs.Ythckelcjncnalab
open Go.RowKit

/-- A field's kind, by its letter. -/
def kdF (fs : List (Int × Int)) (x : Int) : Int × Bool := if idxF fs x < 0 then (0, false) else ((fs[(idxF fs x).toNat]?.getD (0, 0)).2, true)
theorem idxF_ltU (fs : List (Int × Int)) (x : Int) : idxF fs x < fs.length := by
  unfold idxF
  cases h : fs.findIdx? (fun p => p.1 == x) with
  | none => simp only []; omega
  | some i =>
    rw [List.findIdx?_eq_some_iff_getElem] at h
    obtain ⟨hi, _⟩ := h
    simp only []; omega
set_option maxHeartbeats 400000 in
theorem kindOf_any (L x : Int) (a : Option Addr) (n c : Nat) (fs : List (Int × Int)) (w : World) (h : FV w (.slice a n c) fs) :
    Calls Try.prog 69 #[.agg #[.int .u8 L, .slice a n c], .int .u8 x] w fun e w' => e = .returned (.tuple #[.int .u8 (kdF fs x).1, .bool (kdF fs x).2]) ∧ Below w.heap.size w w' := by
  have hlt := idxF_ltU fs x
  have C := index_any L x (.slice a n c) fs (w.alloc (.cells #[.int .u8 L, .slice a n c] 69)) (h.alloc _)
  unfold kdF
  by_cases h0 : idxF fs x < 0
  · rw [if_pos h0]
    obtain ⟨i, hi⟩ : ∃ i, i = idxF fs x := ⟨_, rfl⟩
    rw [← hi] at C h0
    clear hi hlt
    go_enter Try.func69, Try.ntmps69
    go_wp2_with fail
    refine C.mono ?_
    rintro e w1 ⟨rfl, B1⟩
    have m1 : w1.cell? ⟨w.heap.size, 1, none⟩ = some (.slice a n c) := (B1.cell (p := ⟨w.heap.size, 1, none⟩) (by simp)).trans (by go_simp)
    go_wp2
    go_ret2
    exact ⟨rfl, ((Below.refl _ _).alloc (Nat.le_refl _) _).trans (B1.mono (by simp))⟩
  · rw [if_neg h0]
    obtain ⟨i, hi⟩ : ∃ i : Nat, (i : Int) = idxF fs x := ⟨(idxF fs x).toNat, by omega⟩
    rw [← hi] at C hlt ⊢
    have hin : i < fs.length := by omega
    rw [Int.toNat_natCast]
    rcases h.shape with ⟨e, rfl⟩ | ⟨g, cap, e, hg, hm, hc⟩
    · simp at hin
    cases e
    have hc1 := (hc i hin).2
    have hm' : fs.length ≤ 9223372036854775807 := by unfold maxLen at hm; omega
    generalize (fs[i]?.getD (0, 0)).2 = kd at hc1 ⊢
    generalize fs.length = m at *
    clear hi h0 hc h
    go_enter Try.func69, Try.ntmps69
    go_wp2_with fail
    refine C.mono ?_
    rintro e w1 ⟨rfl, B1⟩
    have m1 : w1.cell? ⟨w.heap.size, 1, none⟩ = some (.slice (some ⟨g, 0, none⟩) m c) := (B1.cell (p := ⟨w.heap.size, 1, none⟩) (by simp)).trans (by go_simp)
    have m2 : w1.cell? ⟨g, i * 2 + 1, none⟩ = some (.int .u8 kd) := (B1.cell (p := ⟨g, i * 2 + 1, none⟩) (by simp; omega)).trans (by go_simp)
    go_wp2
    go_ret2
    exact ⟨rfl, ((Below.refl _ _).alloc (Nat.le_refl _) _).trans (B1.mono (by simp))⟩
theorem kindOf_rs {L x : Int} {a : Option Addr} {n c : Nat} {fs : List (Int × Int)} {w : World} (h : FV w (.slice a n c) fs) (y : Int) (z : Bool) (hy : kdF fs x = (y, z)) :
    Calls Try.prog 69 #[.agg #[.int .u8 L, .slice a n c], .int .u8 x] w fun e w' => e = .returned (.tuple #[.int .u8 y, .bool z]) ∧ Below w.heap.size w w' := by
  have := kindOf_any L x a n c fs w h
  rw [hy] at this; exact this
set_option maxHeartbeats 400000 in
theorem isZero_any (x y z : Int) (w : World) :
    Calls Try.prog 71 #[.agg #[.int .u8 x, .int .i64 y, .int .i64 z]] w fun e w' => e = .returned (.bool (decide (x = 48) && decide (y = 0))) ∧ Below w.heap.size w w' := by
  by_cases h : x = 48
  · have h1 : (x == 48) = true := by simpa using h
    by_cases h2 : y = 0
    · have h3 : (y == 0) = true := by simpa using h2
      rw [decide_eq_true h, decide_eq_true h2]
      clear h h2
      go_enter Try.func71, Try.ntmps71
      go_wp2
      go_ret
      exact ⟨rfl, (Below.refl _ _).alloc (Nat.le_refl _) _⟩
    · have h3 : (y == 0) = false := by simpa using h2
      rw [decide_eq_true h, decide_eq_false h2]
      clear h h2
      go_enter Try.func71, Try.ntmps71
      go_wp2
      go_ret
      exact ⟨rfl, (Below.refl _ _).alloc (Nat.le_refl _) _⟩
  · have h1 : (x == 48) = false := by simpa using h
    rw [decide_eq_false h]
    clear h
    go_enter Try.func71, Try.ntmps71
    go_wp2
    go_ret
    exact ⟨rfl, (Below.refl _ _).alloc (Nat.le_refl _) _⟩
def tV (t : GT) : List Value := [.int .u8 t.w, .int .i64 t.v, .int .i64 t.p]
theorem flatT_map (ts : List GT) : flatT ts = ts.flatMap tV := by
  induction ts with
  | nil => rfl
  | cons t r ih => simp only [flatT, ih, List.flatMap_cons, tV, List.cons_append, List.nil_append]
def zT : GT := ⟨0, 0, 0⟩
structure TCell (w : World) (g i : Nat) (t : GT) : Prop where
  c0 : w.cell? ⟨g, i * 3, none⟩ = some (.int .u8 t.w)
  c1 : w.cell? ⟨g, i * 3 + 1, none⟩ = some (.int .i64 t.v)
  c2 : w.cell? ⟨g, i * 3 + 2, none⟩ = some (.int .i64 t.p)
theorem TCell.below {w w' : World} {B g i : Nat} {t : GT} (h : TCell w g i t) (hb : Below B w w') (hg : g < B) : TCell w' g i t :=
  ⟨(hb.cell (p := ⟨g, _, none⟩) hg).trans h.c0, (hb.cell (p := ⟨g, _, none⟩) hg).trans h.c1, (hb.cell (p := ⟨g, _, none⟩) hg).trans h.c2⟩
theorem TVb.cells {w : World} {base : Nat} {v : Value} {ts : List GT} (h : TVb w base v ts) : (v = .slice none 0 0 ∧ ts = []) ∨ ∃ g cap, v = .slice (some ⟨g, 0, none⟩) ts.length cap ∧ g < w.heap.size ∧ ts.length ≤ maxLen ∧ ∀ i, i < ts.length → TCell w g i (ts[i]?.getD zT) := by
  have h' := h
  unfold TVb at h'
  rw [flatT_map] at h'
  rcases h.2 with ⟨rfl, hn⟩ | ⟨g, cap, cur, rfl, _, hg, h1, h2, _⟩
  · exact .inl ⟨rfl, List.length_eq_zero_iff.1 hn⟩
  · refine .inr ⟨g, cap, rfl, ?_, by omega, fun i hi => ?_⟩
    · exact (World.ownsRow.lt h' g rfl).2
    · have hx := getD_of hi zT
      exact ⟨by simpa using row_cell h' (fun _ => rfl) (j := 0) hx rfl, row_cell h' (fun _ => rfl) (j := 1) hx rfl, row_cell h' (fun _ => rfl) (j := 2) hx rfl⟩
end Go.Proofs.Ythckelcjncnalab
namespace Go.Proofs.Ythckelcjncnalab
open Go.RowKit

def isLw (x : Int) : Bool := decide (97 ≤ x) && decide (x ≤ 122)
/-- faultOfNumber: the error and its place. -/
def fNum (fs : List (Int × Int)) : List GT → Int × Int
  | [] => (0, 0)
  | t :: r => if isLw t.w = true then (if (kdF fs t.w).2 = false then (5, t.p) else if (kdF fs t.w).1 = 114 then (6, t.p) else fNum fs r) else fNum fs r
def FN2 (R : Int × Int) (w : World) (e : Ending) (w' : World) : Prop := e = .returned (.tuple #[.int .i64 R.1, .int .i64 R.2]) ∧ Below w.heap.size w w'
theorem isLetter_rs {x y z : Int} {w : World} (q : Bool) (hq : isLw x = q) :
    Calls Try.prog 70 #[.agg #[.int .u8 x, .int .i64 y, .int .i64 z]] w fun e w' => e = .returned (.bool q) ∧ Below w.heap.size w w' := by
  subst hq; exact isLetter_any x y z w
set_option maxHeartbeats 400000 in
theorem fNum_nil (L : Int) (a : Option Addr) (n c : Nat) (fs : List (Int × Int)) (sp : Int) (ex : Bool) (w : World) :
    Calls Try.prog 66 #[.agg #[.int .u8 L, .slice a n c], .agg #[.slice none 0 0, .int .i64 sp, .bool ex]] w (FN2 (fNum fs []) w) := by
  go_enter Try.func66, Try.ntmps66
  go_wp2
  refine wp_loop_rounds 1 ?_; rw [rounds_succ]
  go_wp2
  go_ret2
  exact ⟨rfl, ((Below.refl _ _).alloc (Nat.le_refl _) _).alloc (by simp) _⟩
set_option maxHeartbeats 1000000 in
set_option maxRecDepth 20000 in
theorem fNum_row (L : Int) (a : Option Addr) (n c : Nat) (fs : List (Int × Int)) (g cap m : Nat) (ts : List GT) (sp : Int) (ex : Bool) (w : World) (hV : FV w (.slice a n c) fs) (hm : m = ts.length) (hmx : m ≤ 9223372036854775807) (hg : g < w.heap.size)
    (hc : ∀ i, i < m → TCell w g i (ts[i]?.getD zT)) :
    Calls Try.prog 66 #[.agg #[.int .u8 L, .slice a n c], .agg #[.slice (some ⟨g, 0, none⟩) m cap, .int .i64 sp, .bool ex]] w (FN2 (fNum fs ts) w) := by
  obtain ⟨R, hR⟩ : ∃ R, R = fNum fs ts := ⟨_, rfl⟩
  rw [← hR]
  have HR : Hid (R = fNum fs ts) := hR
  have HM : Hid (m = ts.length) := hm
  have HV : Hid (FV w (.slice a n c) fs) := hV
  have HC : Hid (∀ i, i < m → TCell w g i (ts[i]?.getD zT)) := hc
  obtain ⟨W, hW⟩ : ∃ W, W = (w.alloc (.cells #[.int .u8 L, .slice a n c] 69)).alloc (.cells #[.slice (some ⟨g, 0, none⟩) m cap, .int .i64 sp, .bool ex] 124) := ⟨_, rfl⟩
  have B0 : Below w.heap.size w W := by rw [hW]; exact ((Below.refl _ _).alloc (Nat.le_refl _) _).alloc (by simp) _
  have z0 : W.heap.size = w.heap.size + 2 := by rw [hW]; simp
  have y0 : W.cell? ⟨w.heap.size, 0, none⟩ = some (.int .u8 L) := by rw [hW]; go_simp
  have y1 : W.cell? ⟨w.heap.size, 1, none⟩ = some (.slice a n c) := by rw [hW]; go_simp
  have HB0 : Hid (Below w.heap.size w W) := B0
  clear hR hm hV hc B0
  go_enter Try.func66, Try.ntmps66
  go_wp2
  rw [← hW]
  clear hW
  go_loopw [13] (fun i wr => ∃ k : Nat, k ≤ m ∧ i = .int .i64 k ∧ R = fNum fs (ts.drop k) ∧ Below W.heap.size W wr) (fun i _ => m - (intOf i).toNat)
  case atStart => exact ⟨0, Nat.zero_le _, rfl, HR.out, Below.refl _ _⟩
  case round =>
    obtain ⟨k, hk, rfl, hr, hb⟩ := hrel
    have hsz := hb.size
    have Y0 : wr.cell? ⟨w.heap.size, 0, none⟩ = some (.int .u8 L) := (hb.cell (p := ⟨w.heap.size, 0, none⟩) (by show w.heap.size < _; omega)).trans y0
    have Y1 : wr.cell? ⟨w.heap.size, 1, none⟩ = some (.slice a n c) := (hb.cell (p := ⟨w.heap.size, 1, none⟩) (by show w.heap.size < _; omega)).trans y1
    have BW : Below w.heap.size w wr := HB0.out.trans (hb.mono (by omega))
    have hwr : w.heap.size < wr.heap.size := by omega
    by_cases hlt : k < m
    · obtain ⟨t, ht⟩ : ∃ t, t = ts[k]?.getD zT := ⟨_, rfl⟩
      have htk : ts[k]? = some t := by rw [ht]; exact getD_of (by rw [← HM.out]; exact hlt) zT
      obtain ⟨x0, x1, x2⟩ := (HC.out k hlt).below BW hg
      rw [← ht] at x0 x1 x2
      have hgr : g < wr.heap.size := by omega
      rw [drop_cons htk, fNum] at hr
      have HR1 : Hid (R = (if isLw t.w = true then (if (kdF fs t.w).2 = false then (5, t.p) else if (kdF fs t.w).1 = 114 then (6, t.p) else fNum fs (ts.drop (k + 1))) else fNum fs (ts.drop (k + 1)))) := hr
      clear ht htk hr
      cases hl : isLw t.w with
      | false =>
        have HR2 : Hid (R = fNum fs (ts.drop (k + 1))) := by show R = _; rw [HR1.out, if_neg (by rw [hl]; decide)]
        go_wp2_with fail
        refine (isLetter_rs false hl).mono ?_
        rintro e w1 ⟨rfl, B1⟩
        go_wp2
        go_roundw
        case rel => exact ⟨k + 1, by omega, by go_num, HR2.out, (hb.alloc hsz _).trans (B1.mono (by simp; omega))⟩
        case measure => simp [intOf]; omega
      | true =>
        obtain ⟨kd, kn, hkd⟩ : ∃ kd kn, kdF fs t.w = (kd, kn) := ⟨_, _, rfl⟩
        go_wp2_with fail
        refine (isLetter_rs true hl).mono ?_
        rintro e w1 ⟨rfl, B1⟩
        have B2 : Below W.heap.size W w1 := (hb.alloc hsz _).trans (B1.mono (by simp; omega))
        have B3 : Below w.heap.size w w1 := HB0.out.trans (B2.mono (by omega))
        have s1 : wr.heap.size < w1.heap.size := by have := B1.size; simp at this; omega
        have Y2 : w1.cell? ⟨w.heap.size, 0, none⟩ = some (.int .u8 L) := (B2.cell (p := ⟨w.heap.size, 0, none⟩) (by show w.heap.size < _; omega)).trans y0
        have Y3 : w1.cell? ⟨w.heap.size, 1, none⟩ = some (.slice a n c) := (B2.cell (p := ⟨w.heap.size, 1, none⟩) (by show w.heap.size < _; omega)).trans y1
        have q0 : w1.cell? ⟨wr.heap.size, 0, none⟩ = some (.int .u8 t.w) := (B1.cell (p := ⟨wr.heap.size, 0, none⟩) (by simp)).trans (by go_simp)
        have q2 : w1.cell? ⟨wr.heap.size, 2, none⟩ = some (.int .i64 t.p) := (B1.cell (p := ⟨wr.heap.size, 2, none⟩) (by simp)).trans (by go_simp)
        have KK := kindOf_rs (L := L) (x := t.w) (HV.out.below B3) kd kn hkd
        clear Y0 Y1 x0 x1 x2 B1
        go_wp2_with fail
        refine KK.mono ?_
        rintro e w2 ⟨rfl, B4⟩
        have B5 : Below W.heap.size W w2 := B2.trans (B4.mono B2.size)
        have B6 : Below w.heap.size w w2 := B3.trans (B4.mono B3.size)
        have r2 : w2.cell? ⟨wr.heap.size, 2, none⟩ = some (.int .i64 t.p) := (B4.cell (p := ⟨wr.heap.size, 2, none⟩) s1).trans q2
        clear Y2 Y3 q0 q2 KK B4
        cases kn with
        | false =>
          have HR2 : Hid (R = (5, t.p)) := by show R = _; rw [HR1.out, if_pos hl, if_pos (by rw [hkd])]
          go_wp2
          go_quiet (fail)
          go_wp2
          go_ret2
          rw [HR2.out]
          exact ⟨rfl, B6.trans ((gb_below_drew _ _).mono B6.size)⟩
        | true =>
          by_cases h114 : kd = 114
          · have HR2 : Hid (R = (6, t.p)) := by show R = _; rw [HR1.out, if_pos hl, if_neg (by rw [hkd]; simp), if_pos (by rw [hkd]; exact h114)]
            have e1 : (kd == 114) = true := by simpa using h114
            clear h114
            go_wp2
            go_quiet (fail)
            go_wp2
            go_ret2
            rw [HR2.out]
            exact ⟨rfl, B6.trans ((gb_below_drew _ _).mono B6.size)⟩
          · have HR2 : Hid (R = fNum fs (ts.drop (k + 1))) := by show R = _; rw [HR1.out, if_pos hl, if_neg (by rw [hkd]; simp), if_neg (by rw [hkd]; exact h114)]
            have e1 : (kd == 114) = false := by simpa using h114
            clear h114
            go_wp2
            go_roundw
            case rel => exact ⟨k + 1, by omega, by go_num, HR2.out, B5⟩
            case measure => simp [intOf]; omega
    · have HR2 : Hid (R = (0, 0)) := by
        show R = _
        rw [hr, List.drop_eq_nil_of_le (by rw [← HM.out]; omega)]; rfl
      go_wp2
      go_ret2
      rw [HR2.out]
      exact ⟨rfl, BW⟩
theorem faultOfNumber_any (L : Int) (a : Option Addr) (n c : Nat) (fs : List (Int × Int)) (ta : Option Addr) (tn tc : Nat) (base : Nat) (ts : List GT) (sp : Int) (ex : Bool) (w : World) (hV : FV w (.slice a n c) fs) (hT : TVb w base (.slice ta tn tc) ts) :
    Calls Try.prog 66 #[.agg #[.int .u8 L, .slice a n c], .agg #[.slice ta tn tc, .int .i64 sp, .bool ex]] w (FN2 (fNum fs ts) w) := by
  rcases hT.cells with ⟨e, rfl⟩ | ⟨g, cap, e, hg, hm, hc⟩
  · cases e; exact fNum_nil L a n c fs sp ex w
  · cases e; exact fNum_row L a n c fs g _ _ ts sp ex w hV rfl (by unfold maxLen at hm; omega) hg hc
end Go.Proofs.Ythckelcjncnalab
