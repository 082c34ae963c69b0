import Derived.Test.YtbgilndohccicabMz28
namespace Go.Proofs.Ytbgilndohccicab
open Go.RowKit

def aloneB (ts : List GT) (sp : Int) (ex : Bool) : Bool := decide (ts.length = 1) && decide ((ts[0]?.getD zT).p = sp) && !ex
set_option maxHeartbeats 1000000 in
set_option maxRecDepth 20000 in
theorem isAlone_row (ta : Option Addr) (m tc : Nat) (ts : List GT) (sp : Int) (ex : Bool) (w : World) (hm : m = ts.length) (h1 : m = 1 → ∃ g, ta = some ⟨g, 0, none⟩ ∧ g < w.heap.size ∧ TCell w g 0 (ts[0]?.getD zT)) :
    Calls Try.prog 100 #[.agg #[.slice ta m tc, .int .i64 sp, .bool ex]] w fun e w' => e = .returned (.bool (aloneB ts sp ex)) ∧ Below w.heap.size w w' := by
  unfold aloneB
  by_cases hl : m = 1
  · obtain ⟨g, rfl, hg, tc0⟩ := h1 hl
    subst hl
    rw [decide_eq_true hm.symm]
    obtain ⟨x0, x1, x2⟩ := tc0
    rw [Nat.zero_mul, Nat.zero_add] at x2
    generalize (ts[0]?.getD zT).p = pp at x2 ⊢
    clear hm h1
    by_cases hp : pp = sp
    · rw [decide_eq_true hp]
      have e1 : (pp == sp) = true := by simpa using hp
      clear hp
      cases ex with
      | true =>
        go_enter Try.func100, Try.ntmps100
        go_wp2
        go_quiet (fail)
        go_wp2
        go_ret
        exact ⟨rfl, ((Below.refl _ _).alloc (Nat.le_refl _) _).trans ((gb_below_drew _ _).mono (by simp))⟩
      | false =>
        go_enter Try.func100, Try.ntmps100
        go_wp2
        go_quiet (fail)
        go_wp2
        go_ret
        exact ⟨rfl, ((Below.refl _ _).alloc (Nat.le_refl _) _).trans ((gb_below_drew _ _).mono (by simp))⟩
    · rw [decide_eq_false hp]
      have e1 : (pp == sp) = false := by simpa using hp
      clear hp
      go_enter Try.func100, Try.ntmps100
      go_wp2
      go_quiet (fail)
      go_wp2
      go_ret
      exact ⟨rfl, ((Below.refl _ _).alloc (Nat.le_refl _) _).trans ((gb_below_drew _ _).mono (by simp))⟩
  · rw [decide_eq_false (by rw [← hm]; exact hl)]
    have e1 : ((m : Int) == 1) = false := by simp; omega
    clear hm h1
    go_enter Try.func100, Try.ntmps100
    go_wp2
    go_quiet (fail)
    go_wp2
    go_ret
    exact ⟨rfl, ((Below.refl _ _).alloc (Nat.le_refl _) _).trans ((gb_below_drew _ _).mono (by simp))⟩
theorem isAlone_any {ta : Option Addr} {m tc base : Nat} {ts : List GT} {sp : Int} {ex : Bool} {w : World} (h : TVb w base (.slice ta m tc) ts) (y : Bool) (hy : aloneB ts sp ex = y) :
    Calls Try.prog 100 #[.agg #[.slice ta m tc, .int .i64 sp, .bool ex]] w fun e w' => e = .returned (.bool y) ∧ Below w.heap.size w w' := by
  subst hy
  rcases h.cells with ⟨e, rfl⟩ | ⟨g, cap, e, hg, hm, hc⟩
  · cases e; exact isAlone_row none 0 0 [] sp ex w rfl (fun h => by cases h)
  · cases e; exact isAlone_row _ _ _ ts sp ex w rfl (fun h => ⟨g, rfl, hg, hc 0 (by omega)⟩)
/-- faultOfRef: the error and its place. -/
def fRef (fs : List (Int × Int)) (ts : List GT) (sp : Int) (ex : Bool) : Int × Int :=
  if ts.length = 0 then (0, 0)
  else if isLw (ts[0]?.getD zT).w = true ∧ (kdF fs (ts[0]?.getD zT).w).2 = false ∧ (ts[0]?.getD zT).p = sp then (5, sp)
  else if ((kdF fs (ts[0]?.getD zT).w).1 = 114 ∨ ((ts[0]?.getD zT).w = 48 ∧ (ts[0]?.getD zT).v = 0)) ∧ aloneB ts sp ex = true then (0, 0)
  else (6, sp)
theorem TVb.below' {w w' : World} {base : Nat} {v : Value} {ts : List GT} (h : TVb w base v ts) (hb : Below w.heap.size w w') : TVb w' base v ts := World.ownsRow.kept h (gb_below hb none) (by cases hv : v.ownBlock <;> simp)
set_option maxHeartbeats 4000000 in
set_option maxRecDepth 20000 in
theorem faultOfRef_any (L : Int) (a : Option Addr) (n c : Nat) (fs : List (Int × Int)) (ta : Option Addr) (tn tc : Nat) (base : Nat) (ts : List GT) (sp : Int) (ex : Bool) (w : World) (hV : FV w (.slice a n c) fs) (hT : TVb w base (.slice ta tn tc) ts) :
    Calls Try.prog 93 #[.agg #[.int .u8 L, .slice a n c], .agg #[.slice ta tn tc, .int .i64 sp, .bool ex]] w (FN2 (fRef fs ts sp ex) w) := by
  obtain ⟨R, hR⟩ : ∃ R, R = fRef fs ts sp ex := ⟨_, rfl⟩
  rw [← hR]
  unfold fRef at hR
  rcases hT.cells with ⟨e, rfl⟩ | ⟨g, cap, e, hg, hm, hc⟩
  · cases e
    have HR : Hid (R = (0, 0)) := hR
    clear hR
    go_enter Try.func93, Try.ntmps93
    go_wp2
    go_ret2
    rw [HR.out]
    exact ⟨rfl, ((Below.refl _ _).alloc (Nat.le_refl _) _).alloc (by simp) _⟩
  cases e
  have HTV : Hid (TVb w base (.slice (some ⟨g, 0, none⟩) ts.length tc) ts) := hT
  have HV : Hid (FV w (.slice a n c) fs) := hV
  have hmx : ts.length ≤ 9223372036854775807 := by unfold maxLen at hm; omega
  by_cases h0 : ts.length = 0
  · have HR : Hid (R = (0, 0)) := by show R = _; rw [hR, if_pos h0]
    rw [h0]
    clear hR hc hm hmx hT hV
    go_enter Try.func93, Try.ntmps93
    go_wp2
    go_ret2
    rw [HR.out]
    exact ⟨rfl, ((Below.refl _ _).alloc (Nat.le_refl _) _).alloc (by simp) _⟩
  obtain ⟨x0, x1, x2⟩ := hc 0 (by omega)
  rw [Nat.zero_mul] at x0 x1 x2
  rw [Nat.zero_add] at x1 x2
  rw [if_neg h0] at hR
  obtain ⟨t, ht⟩ : ∃ t, t = ts[0]?.getD zT := ⟨_, rfl⟩
  rw [← ht] at x0 x1 x2 hR
  obtain ⟨q, hq⟩ : ∃ q, isLw t.w = q := ⟨_, rfl⟩
  obtain ⟨kd, kn, hkd⟩ : ∃ kd kn, kdF fs t.w = (kd, kn) := ⟨_, _, rfl⟩
  obtain ⟨al, hal⟩ : ∃ al, aloneB ts sp ex = al := ⟨_, rfl⟩
  rw [hkd, hq, hal] at hR
  have HAL : Hid (aloneB ts sp ex = al) := hal
  have HR : Hid (R = if q = true ∧ kn = false ∧ t.p = sp then (5, sp) else if (kd = 114 ∨ (t.w = 48 ∧ t.v = 0)) ∧ al = true then (0, 0) else (6, sp)) := hR
  have e0 : ((ts.length : Int) == 0) = false := by rw [beq_eq_false_iff_ne]; omega
  have hpos : (0 : Int) < (ts.length : Int) := by omega
  generalize ts.length = m at *
  obtain ⟨W3, hW⟩ : ∃ W3, W3 = ((w.alloc (.cells #[.int .u8 L, .slice a n c] 88)).alloc (.cells #[.slice (some ⟨g, 0, none⟩) m tc, .int .i64 sp, .bool ex] 160)).alloc (.cells #[.int .u8 t.w, .int .i64 t.v, .int .i64 t.p] 191) := ⟨_, rfl⟩
  have HBB : Hid (Below w.heap.size w W3) := by show Below _ _ _; rw [hW]; exact (((Below.refl _ _).alloc (Nat.le_refl _) _).alloc (by simp) _).alloc (by simp; omega) _
  have z0 : W3.heap.size = w.heap.size + 1 + 1 + 1 := by rw [hW]; simp
  have u0 : W3.cell? ⟨w.heap.size + 1, 0, none⟩ = some (.slice (some ⟨g, 0, none⟩) m tc) := by rw [hW]; go_simp
  have u1 : W3.cell? ⟨w.heap.size + 1, 1, none⟩ = some (.int .i64 sp) := by rw [hW]; go_simp
  have u2 : W3.cell? ⟨w.heap.size + 1, 2, none⟩ = some (.bool ex) := by rw [hW]; go_simp
  have u3 : W3.cell? ⟨w.heap.size + 1 + 1, 0, none⟩ = some (.int .u8 t.w) := by rw [hW]; go_simp
  have u4 : W3.cell? ⟨w.heap.size + 1 + 1, 1, none⟩ = some (.int .i64 t.v) := by rw [hW]; go_simp
  have u5 : W3.cell? ⟨w.heap.size + 1 + 1, 2, none⟩ = some (.int .i64 t.p) := by rw [hW]; go_simp
  have HQ : Hid (isLw t.w = q) := hq
  have HKD : Hid (kdF fs t.w = (kd, kn)) := hkd
  clear hR hc hT hV hm ht h0 hq hkd hal
  go_enter Try.func93, Try.ntmps93
  go_wp2_with fail
  rw [← hW]
  refine (kindOf_rs (HV.out.below HBB.out) kd kn HKD.out).mono ?_
  rintro e w1 ⟨rfl, B1⟩
  have s0w1 : w1.cell? ⟨w.heap.size + 1, 0, none⟩ = some (.slice (some ⟨g, 0, none⟩) m tc) := (B1.cell (p := ⟨w.heap.size + 1, 0, none⟩) (by show w.heap.size + 1 < _; omega)).trans u0
  have s1w1 : w1.cell? ⟨w.heap.size + 1, 1, none⟩ = some (.int .i64 sp) := (B1.cell (p := ⟨w.heap.size + 1, 1, none⟩) (by show w.heap.size + 1 < _; omega)).trans u1
  have s2w1 : w1.cell? ⟨w.heap.size + 1, 2, none⟩ = some (.bool ex) := (B1.cell (p := ⟨w.heap.size + 1, 2, none⟩) (by show w.heap.size + 1 < _; omega)).trans u2
  have t0w1 : w1.cell? ⟨w.heap.size + 1 + 1, 0, none⟩ = some (.int .u8 t.w) := (B1.cell (p := ⟨w.heap.size + 1 + 1, 0, none⟩) (by show w.heap.size + 1 + 1 < _; omega)).trans u3
  have t1w1 : w1.cell? ⟨w.heap.size + 1 + 1, 1, none⟩ = some (.int .i64 t.v) := (B1.cell (p := ⟨w.heap.size + 1 + 1, 1, none⟩) (by show w.heap.size + 1 + 1 < _; omega)).trans u4
  have t2w1 : w1.cell? ⟨w.heap.size + 1 + 1, 2, none⟩ = some (.int .i64 t.p) := (B1.cell (p := ⟨w.heap.size + 1 + 1, 2, none⟩) (by show w.heap.size + 1 + 1 < _; omega)).trans u5
  clear hW x0 x1 x2
  go_wp2_with fail
  refine (isLetter_rs q HQ.out).mono ?_
  rintro e w2 ⟨rfl, B2'⟩
  have B2 : Below W3.heap.size W3 w2 := B1.trans (B2'.mono B1.size)
  have s0w2 : w2.cell? ⟨w.heap.size + 1, 0, none⟩ = some (.slice (some ⟨g, 0, none⟩) m tc) := (B2.cell (p := ⟨w.heap.size + 1, 0, none⟩) (by show w.heap.size + 1 < _; omega)).trans u0
  have s1w2 : w2.cell? ⟨w.heap.size + 1, 1, none⟩ = some (.int .i64 sp) := (B2.cell (p := ⟨w.heap.size + 1, 1, none⟩) (by show w.heap.size + 1 < _; omega)).trans u1
  have s2w2 : w2.cell? ⟨w.heap.size + 1, 2, none⟩ = some (.bool ex) := (B2.cell (p := ⟨w.heap.size + 1, 2, none⟩) (by show w.heap.size + 1 < _; omega)).trans u2
  have t0w2 : w2.cell? ⟨w.heap.size + 1 + 1, 0, none⟩ = some (.int .u8 t.w) := (B2.cell (p := ⟨w.heap.size + 1 + 1, 0, none⟩) (by show w.heap.size + 1 + 1 < _; omega)).trans u3
  have t1w2 : w2.cell? ⟨w.heap.size + 1 + 1, 1, none⟩ = some (.int .i64 t.v) := (B2.cell (p := ⟨w.heap.size + 1 + 1, 1, none⟩) (by show w.heap.size + 1 + 1 < _; omega)).trans u4
  have t2w2 : w2.cell? ⟨w.heap.size + 1 + 1, 2, none⟩ = some (.int .i64 t.p) := (B2.cell (p := ⟨w.heap.size + 1 + 1, 2, none⟩) (by show w.heap.size + 1 + 1 < _; omega)).trans u5
  clear s0w1 s1w1 s2w1 t0w1 t1w1 t2w1
  clear B1 B2'
  cases q with
  | false =>
    have HN : Hid (R = if (kd = 114 ∨ (t.w = 48 ∧ t.v = 0)) ∧ al = true then (0, 0) else (6, sp)) := by show R = _; rw [HR.out, if_neg (by simp)]
    by_cases h114 : kd = 114
    · have e114 : (kd == 114) = true := by simpa using h114
      go_wp2_with fail
      refine (isAlone_any (HTV.out.below' (HBB.out.trans (B2.mono (by omega)))) al HAL.out).mono ?_
      rintro e wa ⟨rfl, BA⟩
      have BXA : Below W3.heap.size W3 wa := B2.trans (BA.mono B2.size)
      have BWX : Below w.heap.size w wa := HBB.out.trans (BXA.mono (by omega))
      have s0wa : wa.cell? ⟨w.heap.size + 1, 0, none⟩ = some (.slice (some ⟨g, 0, none⟩) m tc) := (BXA.cell (p := ⟨w.heap.size + 1, 0, none⟩) (by show w.heap.size + 1 < _; omega)).trans u0
      have s1wa : wa.cell? ⟨w.heap.size + 1, 1, none⟩ = some (.int .i64 sp) := (BXA.cell (p := ⟨w.heap.size + 1, 1, none⟩) (by show w.heap.size + 1 < _; omega)).trans u1
      have s2wa : wa.cell? ⟨w.heap.size + 1, 2, none⟩ = some (.bool ex) := (BXA.cell (p := ⟨w.heap.size + 1, 2, none⟩) (by show w.heap.size + 1 < _; omega)).trans u2
      have t0wa : wa.cell? ⟨w.heap.size + 1 + 1, 0, none⟩ = some (.int .u8 t.w) := (BXA.cell (p := ⟨w.heap.size + 1 + 1, 0, none⟩) (by show w.heap.size + 1 + 1 < _; omega)).trans u3
      have t1wa : wa.cell? ⟨w.heap.size + 1 + 1, 1, none⟩ = some (.int .i64 t.v) := (BXA.cell (p := ⟨w.heap.size + 1 + 1, 1, none⟩) (by show w.heap.size + 1 + 1 < _; omega)).trans u4
      have t2wa : wa.cell? ⟨w.heap.size + 1 + 1, 2, none⟩ = some (.int .i64 t.p) := (BXA.cell (p := ⟨w.heap.size + 1 + 1, 2, none⟩) (by show w.heap.size + 1 + 1 < _; omega)).trans u5
      cases al with
      | true =>
        have HE : Hid (R = (0, 0)) := by show R = _; rw [HN.out, if_pos ⟨.inl h114, rfl⟩]
        go_wp2
        go_ret2
        rw [HE.out]
        exact ⟨rfl, BWX⟩
      | false =>
        have HE : Hid (R = (6, sp)) := by show R = _; rw [HN.out, if_neg (by simp)]
        go_wp2
        go_quiet (fail)
        go_wp2
        go_ret2
        rw [HE.out]
        exact ⟨rfl, BWX.trans ((gb_below_drew _ _).mono BWX.size)⟩
    · have e114 : (kd == 114) = false := by simpa using h114
      obtain ⟨zr, hzr⟩ : ∃ zr, (decide (t.w = 48) && decide (t.v = 0)) = zr := ⟨_, rfl⟩
      have ZZ := isZero_any t.w t.v t.p w2
      rw [hzr] at ZZ
      go_wp2_with fail
      refine ZZ.mono ?_
      rintro e w3 ⟨rfl, B3'⟩
      have B3 : Below W3.heap.size W3 w3 := B2.trans (B3'.mono B2.size)
      have s0w3 : w3.cell? ⟨w.heap.size + 1, 0, none⟩ = some (.slice (some ⟨g, 0, none⟩) m tc) := (B3.cell (p := ⟨w.heap.size + 1, 0, none⟩) (by show w.heap.size + 1 < _; omega)).trans u0
      have s1w3 : w3.cell? ⟨w.heap.size + 1, 1, none⟩ = some (.int .i64 sp) := (B3.cell (p := ⟨w.heap.size + 1, 1, none⟩) (by show w.heap.size + 1 < _; omega)).trans u1
      have s2w3 : w3.cell? ⟨w.heap.size + 1, 2, none⟩ = some (.bool ex) := (B3.cell (p := ⟨w.heap.size + 1, 2, none⟩) (by show w.heap.size + 1 < _; omega)).trans u2
      have t0w3 : w3.cell? ⟨w.heap.size + 1 + 1, 0, none⟩ = some (.int .u8 t.w) := (B3.cell (p := ⟨w.heap.size + 1 + 1, 0, none⟩) (by show w.heap.size + 1 + 1 < _; omega)).trans u3
      have t1w3 : w3.cell? ⟨w.heap.size + 1 + 1, 1, none⟩ = some (.int .i64 t.v) := (B3.cell (p := ⟨w.heap.size + 1 + 1, 1, none⟩) (by show w.heap.size + 1 + 1 < _; omega)).trans u4
      have t2w3 : w3.cell? ⟨w.heap.size + 1 + 1, 2, none⟩ = some (.int .i64 t.p) := (B3.cell (p := ⟨w.heap.size + 1 + 1, 2, none⟩) (by show w.heap.size + 1 + 1 < _; omega)).trans u5
      clear s0w2 s1w2 s2w2 t0w2 t1w2 t2w2 
      clear ZZ B3'
      cases zr with
      | true =>
        have hz2 : t.w = 48 ∧ t.v = 0 := by simpa using hzr
        have HZ2 : Hid (t.w = 48 ∧ t.v = 0) := hz2
        clear hz2 hzr
        go_wp2_with fail
        refine (isAlone_any (HTV.out.below' (HBB.out.trans (B3.mono (by omega)))) al HAL.out).mono ?_
        rintro e wa ⟨rfl, BA⟩
        have BXA : Below W3.heap.size W3 wa := B3.trans (BA.mono B3.size)
        have BWX : Below w.heap.size w wa := HBB.out.trans (BXA.mono (by omega))
        have s0wa : wa.cell? ⟨w.heap.size + 1, 0, none⟩ = some (.slice (some ⟨g, 0, none⟩) m tc) := (BXA.cell (p := ⟨w.heap.size + 1, 0, none⟩) (by show w.heap.size + 1 < _; omega)).trans u0
        have s1wa : wa.cell? ⟨w.heap.size + 1, 1, none⟩ = some (.int .i64 sp) := (BXA.cell (p := ⟨w.heap.size + 1, 1, none⟩) (by show w.heap.size + 1 < _; omega)).trans u1
        have s2wa : wa.cell? ⟨w.heap.size + 1, 2, none⟩ = some (.bool ex) := (BXA.cell (p := ⟨w.heap.size + 1, 2, none⟩) (by show w.heap.size + 1 < _; omega)).trans u2
        have t0wa : wa.cell? ⟨w.heap.size + 1 + 1, 0, none⟩ = some (.int .u8 t.w) := (BXA.cell (p := ⟨w.heap.size + 1 + 1, 0, none⟩) (by show w.heap.size + 1 + 1 < _; omega)).trans u3
        have t1wa : wa.cell? ⟨w.heap.size + 1 + 1, 1, none⟩ = some (.int .i64 t.v) := (BXA.cell (p := ⟨w.heap.size + 1 + 1, 1, none⟩) (by show w.heap.size + 1 + 1 < _; omega)).trans u4
        have t2wa : wa.cell? ⟨w.heap.size + 1 + 1, 2, none⟩ = some (.int .i64 t.p) := (BXA.cell (p := ⟨w.heap.size + 1 + 1, 2, none⟩) (by show w.heap.size + 1 + 1 < _; omega)).trans u5
        cases al with
        | true =>
          have HE : Hid (R = (0, 0)) := by show R = _; rw [HN.out, if_pos ⟨.inr HZ2.out, rfl⟩]
          go_wp2
          go_ret2
          rw [HE.out]
          exact ⟨rfl, BWX⟩
        | false =>
          have HE : Hid (R = (6, sp)) := by show R = _; rw [HN.out, if_neg (by simp)]
          go_wp2
          go_quiet (fail)
          go_wp2
          go_ret2
          rw [HE.out]
          exact ⟨rfl, BWX.trans ((gb_below_drew _ _).mono BWX.size)⟩
      | false =>
        have hz2 : ¬ (t.w = 48 ∧ t.v = 0) := by
          intro hh
          rw [decide_eq_true hh.1, decide_eq_true hh.2] at hzr
          cases hzr
        have HE : Hid (R = (6, sp)) := by show R = _; rw [HN.out, if_neg (by rintro ⟨hh | hh, _⟩; exact h114 hh; exact hz2 hh)]
        have BWX : Below w.heap.size w w3 := HBB.out.trans (B3.mono (by omega))
        clear hz2 hzr
        go_wp2
        go_quiet (fail)
        go_wp2
        go_ret2
        rw [HE.out]
        exact ⟨rfl, BWX.trans ((gb_below_drew _ _).mono BWX.size)⟩
  | true =>
    cases kn with
    | true =>
      have HN : Hid (R = if (kd = 114 ∨ (t.w = 48 ∧ t.v = 0)) ∧ al = true then (0, 0) else (6, sp)) := by show R = _; rw [HR.out, if_neg (by simp)]
      by_cases h114 : kd = 114
      · have e114 : (kd == 114) = true := by simpa using h114
        go_wp2_with fail
        refine (isAlone_any (HTV.out.below' (HBB.out.trans (B2.mono (by omega)))) al HAL.out).mono ?_
        rintro e wa ⟨rfl, BA⟩
        have BXA : Below W3.heap.size W3 wa := B2.trans (BA.mono B2.size)
        have BWX : Below w.heap.size w wa := HBB.out.trans (BXA.mono (by omega))
        have s0wa : wa.cell? ⟨w.heap.size + 1, 0, none⟩ = some (.slice (some ⟨g, 0, none⟩) m tc) := (BXA.cell (p := ⟨w.heap.size + 1, 0, none⟩) (by show w.heap.size + 1 < _; omega)).trans u0
        have s1wa : wa.cell? ⟨w.heap.size + 1, 1, none⟩ = some (.int .i64 sp) := (BXA.cell (p := ⟨w.heap.size + 1, 1, none⟩) (by show w.heap.size + 1 < _; omega)).trans u1
        have s2wa : wa.cell? ⟨w.heap.size + 1, 2, none⟩ = some (.bool ex) := (BXA.cell (p := ⟨w.heap.size + 1, 2, none⟩) (by show w.heap.size + 1 < _; omega)).trans u2
        have t0wa : wa.cell? ⟨w.heap.size + 1 + 1, 0, none⟩ = some (.int .u8 t.w) := (BXA.cell (p := ⟨w.heap.size + 1 + 1, 0, none⟩) (by show w.heap.size + 1 + 1 < _; omega)).trans u3
        have t1wa : wa.cell? ⟨w.heap.size + 1 + 1, 1, none⟩ = some (.int .i64 t.v) := (BXA.cell (p := ⟨w.heap.size + 1 + 1, 1, none⟩) (by show w.heap.size + 1 + 1 < _; omega)).trans u4
        have t2wa : wa.cell? ⟨w.heap.size + 1 + 1, 2, none⟩ = some (.int .i64 t.p) := (BXA.cell (p := ⟨w.heap.size + 1 + 1, 2, none⟩) (by show w.heap.size + 1 + 1 < _; omega)).trans u5
        cases al with
        | true =>
          have HE : Hid (R = (0, 0)) := by show R = _; rw [HN.out, if_pos ⟨.inl h114, rfl⟩]
          go_wp2
          go_ret2
          rw [HE.out]
          exact ⟨rfl, BWX⟩
        | false =>
          have HE : Hid (R = (6, sp)) := by show R = _; rw [HN.out, if_neg (by simp)]
          go_wp2
          go_quiet (fail)
          go_wp2
          go_ret2
          rw [HE.out]
          exact ⟨rfl, BWX.trans ((gb_below_drew _ _).mono BWX.size)⟩
      · have e114 : (kd == 114) = false := by simpa using h114
        obtain ⟨zr, hzr⟩ : ∃ zr, (decide (t.w = 48) && decide (t.v = 0)) = zr := ⟨_, rfl⟩
        have ZZ := isZero_any t.w t.v t.p w2
        rw [hzr] at ZZ
        go_wp2_with fail
        refine ZZ.mono ?_
        rintro e w3 ⟨rfl, B3'⟩
        have B3 : Below W3.heap.size W3 w3 := B2.trans (B3'.mono B2.size)
        have s0w3 : w3.cell? ⟨w.heap.size + 1, 0, none⟩ = some (.slice (some ⟨g, 0, none⟩) m tc) := (B3.cell (p := ⟨w.heap.size + 1, 0, none⟩) (by show w.heap.size + 1 < _; omega)).trans u0
        have s1w3 : w3.cell? ⟨w.heap.size + 1, 1, none⟩ = some (.int .i64 sp) := (B3.cell (p := ⟨w.heap.size + 1, 1, none⟩) (by show w.heap.size + 1 < _; omega)).trans u1
        have s2w3 : w3.cell? ⟨w.heap.size + 1, 2, none⟩ = some (.bool ex) := (B3.cell (p := ⟨w.heap.size + 1, 2, none⟩) (by show w.heap.size + 1 < _; omega)).trans u2
        have t0w3 : w3.cell? ⟨w.heap.size + 1 + 1, 0, none⟩ = some (.int .u8 t.w) := (B3.cell (p := ⟨w.heap.size + 1 + 1, 0, none⟩) (by show w.heap.size + 1 + 1 < _; omega)).trans u3
        have t1w3 : w3.cell? ⟨w.heap.size + 1 + 1, 1, none⟩ = some (.int .i64 t.v) := (B3.cell (p := ⟨w.heap.size + 1 + 1, 1, none⟩) (by show w.heap.size + 1 + 1 < _; omega)).trans u4
        have t2w3 : w3.cell? ⟨w.heap.size + 1 + 1, 2, none⟩ = some (.int .i64 t.p) := (B3.cell (p := ⟨w.heap.size + 1 + 1, 2, none⟩) (by show w.heap.size + 1 + 1 < _; omega)).trans u5
        clear s0w2 s1w2 s2w2 t0w2 t1w2 t2w2 
        clear ZZ B3'
        cases zr with
        | true =>
          have hz2 : t.w = 48 ∧ t.v = 0 := by simpa using hzr
          have HZ2 : Hid (t.w = 48 ∧ t.v = 0) := hz2
          clear hz2 hzr
          go_wp2_with fail
          refine (isAlone_any (HTV.out.below' (HBB.out.trans (B3.mono (by omega)))) al HAL.out).mono ?_
          rintro e wa ⟨rfl, BA⟩
          have BXA : Below W3.heap.size W3 wa := B3.trans (BA.mono B3.size)
          have BWX : Below w.heap.size w wa := HBB.out.trans (BXA.mono (by omega))
          have s0wa : wa.cell? ⟨w.heap.size + 1, 0, none⟩ = some (.slice (some ⟨g, 0, none⟩) m tc) := (BXA.cell (p := ⟨w.heap.size + 1, 0, none⟩) (by show w.heap.size + 1 < _; omega)).trans u0
          have s1wa : wa.cell? ⟨w.heap.size + 1, 1, none⟩ = some (.int .i64 sp) := (BXA.cell (p := ⟨w.heap.size + 1, 1, none⟩) (by show w.heap.size + 1 < _; omega)).trans u1
          have s2wa : wa.cell? ⟨w.heap.size + 1, 2, none⟩ = some (.bool ex) := (BXA.cell (p := ⟨w.heap.size + 1, 2, none⟩) (by show w.heap.size + 1 < _; omega)).trans u2
          have t0wa : wa.cell? ⟨w.heap.size + 1 + 1, 0, none⟩ = some (.int .u8 t.w) := (BXA.cell (p := ⟨w.heap.size + 1 + 1, 0, none⟩) (by show w.heap.size + 1 + 1 < _; omega)).trans u3
          have t1wa : wa.cell? ⟨w.heap.size + 1 + 1, 1, none⟩ = some (.int .i64 t.v) := (BXA.cell (p := ⟨w.heap.size + 1 + 1, 1, none⟩) (by show w.heap.size + 1 + 1 < _; omega)).trans u4
          have t2wa : wa.cell? ⟨w.heap.size + 1 + 1, 2, none⟩ = some (.int .i64 t.p) := (BXA.cell (p := ⟨w.heap.size + 1 + 1, 2, none⟩) (by show w.heap.size + 1 + 1 < _; omega)).trans u5
          cases al with
          | true =>
            have HE : Hid (R = (0, 0)) := by show R = _; rw [HN.out, if_pos ⟨.inr HZ2.out, rfl⟩]
            go_wp2
            go_ret2
            rw [HE.out]
            exact ⟨rfl, BWX⟩
          | false =>
            have HE : Hid (R = (6, sp)) := by show R = _; rw [HN.out, if_neg (by simp)]
            go_wp2
            go_quiet (fail)
            go_wp2
            go_ret2
            rw [HE.out]
            exact ⟨rfl, BWX.trans ((gb_below_drew _ _).mono BWX.size)⟩
        | false =>
          have hz2 : ¬ (t.w = 48 ∧ t.v = 0) := by
            intro hh
            rw [decide_eq_true hh.1, decide_eq_true hh.2] at hzr
            cases hzr
          have HE : Hid (R = (6, sp)) := by show R = _; rw [HN.out, if_neg (by rintro ⟨hh | hh, _⟩; exact h114 hh; exact hz2 hh)]
          have BWX : Below w.heap.size w w3 := HBB.out.trans (B3.mono (by omega))
          clear hz2 hzr
          go_wp2
          go_quiet (fail)
          go_wp2
          go_ret2
          rw [HE.out]
          exact ⟨rfl, BWX.trans ((gb_below_drew _ _).mono BWX.size)⟩
    | false =>
      by_cases hp : t.p = sp
      · have e5 : (t.p == sp) = true := by simpa using hp
        have HE : Hid (R = (5, sp)) := by show R = _; rw [HR.out, if_pos ⟨rfl, rfl, hp⟩]
        have BWX : Below w.heap.size w w2 := HBB.out.trans (B2.mono (by omega))
        clear hp
        go_wp2
        go_quiet (fail)
        go_wp2
        go_ret2
        rw [HE.out]
        exact ⟨rfl, BWX.trans ((gb_below_drew _ _).mono BWX.size)⟩
      · have e5 : (t.p == sp) = false := by simpa using hp
        have HN : Hid (R = if (kd = 114 ∨ (t.w = 48 ∧ t.v = 0)) ∧ al = true then (0, 0) else (6, sp)) := by show R = _; rw [HR.out, if_neg (by simp [hp])]
        clear hp
        by_cases h114 : kd = 114
        · have e114 : (kd == 114) = true := by simpa using h114
          go_wp2_with fail
          refine (isAlone_any (HTV.out.below' (HBB.out.trans (B2.mono (by omega)))) al HAL.out).mono ?_
          rintro e wa ⟨rfl, BA⟩
          have BXA : Below W3.heap.size W3 wa := B2.trans (BA.mono B2.size)
          have BWX : Below w.heap.size w wa := HBB.out.trans (BXA.mono (by omega))
          have s0wa : wa.cell? ⟨w.heap.size + 1, 0, none⟩ = some (.slice (some ⟨g, 0, none⟩) m tc) := (BXA.cell (p := ⟨w.heap.size + 1, 0, none⟩) (by show w.heap.size + 1 < _; omega)).trans u0
          have s1wa : wa.cell? ⟨w.heap.size + 1, 1, none⟩ = some (.int .i64 sp) := (BXA.cell (p := ⟨w.heap.size + 1, 1, none⟩) (by show w.heap.size + 1 < _; omega)).trans u1
          have s2wa : wa.cell? ⟨w.heap.size + 1, 2, none⟩ = some (.bool ex) := (BXA.cell (p := ⟨w.heap.size + 1, 2, none⟩) (by show w.heap.size + 1 < _; omega)).trans u2
          have t0wa : wa.cell? ⟨w.heap.size + 1 + 1, 0, none⟩ = some (.int .u8 t.w) := (BXA.cell (p := ⟨w.heap.size + 1 + 1, 0, none⟩) (by show w.heap.size + 1 + 1 < _; omega)).trans u3
          have t1wa : wa.cell? ⟨w.heap.size + 1 + 1, 1, none⟩ = some (.int .i64 t.v) := (BXA.cell (p := ⟨w.heap.size + 1 + 1, 1, none⟩) (by show w.heap.size + 1 + 1 < _; omega)).trans u4
          have t2wa : wa.cell? ⟨w.heap.size + 1 + 1, 2, none⟩ = some (.int .i64 t.p) := (BXA.cell (p := ⟨w.heap.size + 1 + 1, 2, none⟩) (by show w.heap.size + 1 + 1 < _; omega)).trans u5
          cases al with
          | true =>
            have HE : Hid (R = (0, 0)) := by show R = _; rw [HN.out, if_pos ⟨.inl h114, rfl⟩]
            go_wp2
            go_ret2
            rw [HE.out]
            exact ⟨rfl, BWX⟩
          | false =>
            have HE : Hid (R = (6, sp)) := by show R = _; rw [HN.out, if_neg (by simp)]
            go_wp2
            go_quiet (fail)
            go_wp2
            go_ret2
            rw [HE.out]
            exact ⟨rfl, BWX.trans ((gb_below_drew _ _).mono BWX.size)⟩
        · have e114 : (kd == 114) = false := by simpa using h114
          obtain ⟨zr, hzr⟩ : ∃ zr, (decide (t.w = 48) && decide (t.v = 0)) = zr := ⟨_, rfl⟩
          have ZZ := isZero_any t.w t.v t.p w2
          rw [hzr] at ZZ
          go_wp2_with fail
          refine ZZ.mono ?_
          rintro e w3 ⟨rfl, B3'⟩
          have B3 : Below W3.heap.size W3 w3 := B2.trans (B3'.mono B2.size)
          have s0w3 : w3.cell? ⟨w.heap.size + 1, 0, none⟩ = some (.slice (some ⟨g, 0, none⟩) m tc) := (B3.cell (p := ⟨w.heap.size + 1, 0, none⟩) (by show w.heap.size + 1 < _; omega)).trans u0
          have s1w3 : w3.cell? ⟨w.heap.size + 1, 1, none⟩ = some (.int .i64 sp) := (B3.cell (p := ⟨w.heap.size + 1, 1, none⟩) (by show w.heap.size + 1 < _; omega)).trans u1
          have s2w3 : w3.cell? ⟨w.heap.size + 1, 2, none⟩ = some (.bool ex) := (B3.cell (p := ⟨w.heap.size + 1, 2, none⟩) (by show w.heap.size + 1 < _; omega)).trans u2
          have t0w3 : w3.cell? ⟨w.heap.size + 1 + 1, 0, none⟩ = some (.int .u8 t.w) := (B3.cell (p := ⟨w.heap.size + 1 + 1, 0, none⟩) (by show w.heap.size + 1 + 1 < _; omega)).trans u3
          have t1w3 : w3.cell? ⟨w.heap.size + 1 + 1, 1, none⟩ = some (.int .i64 t.v) := (B3.cell (p := ⟨w.heap.size + 1 + 1, 1, none⟩) (by show w.heap.size + 1 + 1 < _; omega)).trans u4
          have t2w3 : w3.cell? ⟨w.heap.size + 1 + 1, 2, none⟩ = some (.int .i64 t.p) := (B3.cell (p := ⟨w.heap.size + 1 + 1, 2, none⟩) (by show w.heap.size + 1 + 1 < _; omega)).trans u5
          clear s0w2 s1w2 s2w2 t0w2 t1w2 t2w2 
          clear ZZ B3'
          cases zr with
          | true =>
            have hz2 : t.w = 48 ∧ t.v = 0 := by simpa using hzr
            have HZ2 : Hid (t.w = 48 ∧ t.v = 0) := hz2
            clear hz2 hzr
            go_wp2_with fail
            refine (isAlone_any (HTV.out.below' (HBB.out.trans (B3.mono (by omega)))) al HAL.out).mono ?_
            rintro e wa ⟨rfl, BA⟩
            have BXA : Below W3.heap.size W3 wa := B3.trans (BA.mono B3.size)
            have BWX : Below w.heap.size w wa := HBB.out.trans (BXA.mono (by omega))
            have s0wa : wa.cell? ⟨w.heap.size + 1, 0, none⟩ = some (.slice (some ⟨g, 0, none⟩) m tc) := (BXA.cell (p := ⟨w.heap.size + 1, 0, none⟩) (by show w.heap.size + 1 < _; omega)).trans u0
            have s1wa : wa.cell? ⟨w.heap.size + 1, 1, none⟩ = some (.int .i64 sp) := (BXA.cell (p := ⟨w.heap.size + 1, 1, none⟩) (by show w.heap.size + 1 < _; omega)).trans u1
            have s2wa : wa.cell? ⟨w.heap.size + 1, 2, none⟩ = some (.bool ex) := (BXA.cell (p := ⟨w.heap.size + 1, 2, none⟩) (by show w.heap.size + 1 < _; omega)).trans u2
            have t0wa : wa.cell? ⟨w.heap.size + 1 + 1, 0, none⟩ = some (.int .u8 t.w) := (BXA.cell (p := ⟨w.heap.size + 1 + 1, 0, none⟩) (by show w.heap.size + 1 + 1 < _; omega)).trans u3
            have t1wa : wa.cell? ⟨w.heap.size + 1 + 1, 1, none⟩ = some (.int .i64 t.v) := (BXA.cell (p := ⟨w.heap.size + 1 + 1, 1, none⟩) (by show w.heap.size + 1 + 1 < _; omega)).trans u4
            have t2wa : wa.cell? ⟨w.heap.size + 1 + 1, 2, none⟩ = some (.int .i64 t.p) := (BXA.cell (p := ⟨w.heap.size + 1 + 1, 2, none⟩) (by show w.heap.size + 1 + 1 < _; omega)).trans u5
            cases al with
            | true =>
              have HE : Hid (R = (0, 0)) := by show R = _; rw [HN.out, if_pos ⟨.inr HZ2.out, rfl⟩]
              go_wp2
              go_ret2
              rw [HE.out]
              exact ⟨rfl, BWX⟩
            | false =>
              have HE : Hid (R = (6, sp)) := by show R = _; rw [HN.out, if_neg (by simp)]
              go_wp2
              go_quiet (fail)
              go_wp2
              go_ret2
              rw [HE.out]
              exact ⟨rfl, BWX.trans ((gb_below_drew _ _).mono BWX.size)⟩
          | false =>
            have hz2 : ¬ (t.w = 48 ∧ t.v = 0) := by
              intro hh
              rw [decide_eq_true hh.1, decide_eq_true hh.2] at hzr
              cases hzr
            have HE : Hid (R = (6, sp)) := by show R = _; rw [HN.out, if_neg (by rintro ⟨hh | hh, _⟩; exact h114 hh; exact hz2 hh)]
            have BWX : Below w.heap.size w w3 := HBB.out.trans (B3.mono (by omega))
            clear hz2 hzr
            go_wp2
            go_quiet (fail)
            go_wp2
            go_ret2
            rw [HE.out]
            exact ⟨rfl, BWX.trans ((gb_below_drew _ _).mono BWX.size)⟩
/-- faultOfField: the error and its place. -/
def fFld (fs : List (Int × Int)) (f : GFd) : Int × Int := if f.k = 114 then fRef fs f.ts f.sp f.ex else fNum fs f.ts
set_option maxHeartbeats 400000 in
theorem faultOfField_any (L : Int) (a : Option Addr) (n c : Nat) (fs : List (Int × Int)) (r : RFd) (f : GFd) (base : Nat) (w : World) (hV : FV w (.slice a n c) fs) (hF : FRel w base r f) :
    Calls Try.prog 84 #[.agg #[.int .u8 L, .slice a n c], .agg #[.int .u8 r.l, .int .i64 r.p, .int .u8 r.k, .slice r.t.a r.t.n r.t.c, .int .i64 r.sp, .bool r.ex]] w (FN2 (fFld fs f) w) := by
  obtain ⟨W, hW⟩ : ∃ W, W = (w.alloc (.cells #[.int .u8 L, .slice a n c] 88)).alloc (.cells #[.int .u8 r.l, .int .i64 r.p, .int .u8 r.k, .slice r.t.a r.t.n r.t.c, .int .i64 r.sp, .bool r.ex] 162) := ⟨_, rfl⟩
  have B0 : Below w.heap.size w W := by rw [hW]; exact ((Below.refl _ _).alloc (Nat.le_refl _) _).alloc (by simp) _
  have C1 := faultOfRef_any L a n c fs r.t.a r.t.n r.t.c base f.ts r.sp r.ex W (hV.below B0) (hF.ts.below' B0)
  have C2 := faultOfNumber_any L a n c fs r.t.a r.t.n r.t.c base f.ts r.sp r.ex W (hV.below B0) (hF.ts.below' B0)
  unfold fFld
  rw [← hF.k, ← hF.sp, ← hF.ex]
  generalize fRef fs f.ts r.sp r.ex = R1 at C1 ⊢
  generalize fNum fs f.ts = R2 at C2 ⊢
  unfold FN2 at C1 C2
  rw [hW] at C1 C2
  have HB : Hid (Below w.heap.size w ((w.alloc (.cells #[.int .u8 L, .slice a n c] 88)).alloc (.cells #[.int .u8 r.l, .int .i64 r.p, .int .u8 r.k, .slice r.t.a r.t.n r.t.c, .int .i64 r.sp, .bool r.ex] 162))) := by rw [← hW]; exact B0
  clear hW B0 hV hF
  by_cases hk : r.k = 114
  · rw [if_pos hk]
    have e1 : (r.k == 114) = true := by simpa using hk
    clear hk C2
    go_enter Try.func84, Try.ntmps84
    go_wp2_with fail
    refine C1.mono ?_
    rintro e w1 ⟨rfl, B1⟩
    go_wp2
    go_ret2
    exact ⟨rfl, HB.out.trans (B1.mono HB.out.size)⟩
  · rw [if_neg hk]
    have e1 : (r.k == 114) = false := by simpa using hk
    clear C1
    go_enter Try.func84, Try.ntmps84
    go_wp2_with fail
    refine C2.mono ?_
    rintro e w1 ⟨rfl, B1⟩
    go_wp2
    go_ret2
    exact ⟨rfl, HB.out.trans (B1.mono HB.out.size)⟩
end Go.Proofs.Ytbgilndohccicab
