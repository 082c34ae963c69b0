import Derived.Test.YtbgilndohccicabMz04
namespace Go.Proofs.Ytbgilndohccicab
open Go.RowKit

theorem Below.setN {B : Nat} {a w : World} (h : Below B a w) {b o : Nat} (hp : B ≤ b) (u : Value) : Below B a (w.setCell ⟨b, o, none⟩ u) := h.setCell hp u
/-- The class of that Letter among the classes; where there is none: the zero class. -/
def fcs (cs : List (Int × List (Int × Int))) (x : Int) : Int × List (Int × Int) := (cs.find? (fun c => c.1 == x)).getD (0, [])
theorem find_pair {α β : Type} (za : Int × α) (zb : Int × β) (x : Int) (P : α → β → Prop) (hz : P za.2 zb.2) (hz1 : za.1 = zb.1) : ∀ (vs : List (Int × α)) (cs : List (Int × β)), vs.map (·.1) = cs.map (·.1) →
    (∀ (i : Nat) p c, vs[i]? = some p → cs[i]? = some c → P p.2 c.2) → ((vs.find? (fun p => p.1 == x)).getD za).1 = ((cs.find? (fun p => p.1 == x)).getD zb).1 ∧ P ((vs.find? (fun p => p.1 == x)).getD za).2 ((cs.find? (fun p => p.1 == x)).getD zb).2 := by
  intro vs
  induction vs with
  | nil => intro cs h _; cases cs with
    | nil => exact ⟨hz1, hz⟩
    | cons c cs => simp at h
  | cons p vs ih => intro cs h hP; cases cs with
    | nil => simp at h
    | cons c cs =>
      simp only [List.map_cons, List.cons.injEq] at h
      rw [List.find?_cons, List.find?_cons, ← h.1]
      cases p.1 == x with
      | true => exact ⟨h.1, hP 0 p c rfl rfl⟩
      | false => exact ih cs h.2 fun i p' c' h1 h2 => hP (i + 1) p' c' (by simpa using h1) (by simpa using h2)
theorem fcs_fof (cs : List (Int × List (Int × Int))) (x : Int) : (fcs cs x).2 = fof cs x := rfl
theorem Cls.find {w : World} {base : Nat} {v : Value} {vs : List (Int × SV)} {cs : List (Int × List (Int × Int))} (h : Cls w base v vs cs) (x : Int) : (findC vs x).1 = (fcs cs x).1 ∧ FV w (findC vs x).2.val (fcs cs x).2 :=
  find_pair noC (0, []) x (fun a b => FV w a.val b) (FV.nil w) rfl vs cs h.ls (fun i p c h1 h2 => (h.fld i p c h1 h2).fv)
theorem HP.kept {w w' : World} {hb : Nat} {sv : SV} {sz : Int} {R : Nat → Nat} {K : Nat → Int} {N : Nat → Nat → Int} {F : Nat → Nat → Nat} (h : HP w hb sv sz R K N F) (e : w'.heap[hb]? = w.heap[hb]?) : HP w' hb sv sz R K N F := by
  have ec : ∀ o, w'.cell? ⟨hb, o, none⟩ = w.cell? ⟨hb, o, none⟩ := fun o => World.cell?_of_block (a := ⟨hb, o, none⟩) e
  have ef : ∀ o, w'.frozen? ⟨hb, o, none⟩ = w.frozen? ⟨hb, o, none⟩ := fun o => World.frozen?_of_block (a := ⟨hb, o, none⟩) e
  exact ⟨by rw [ec]; exact h.sch, by rw [ec]; exact h.size, fun i hi => by rw [ec]; exact h.root i hi, fun i hi => by rw [ec]; exact h.cls i hi, fun i j hi hj => by rw [ec]; exact h.num i j hi hj, fun i j hi hj => by rw [ec]; exact h.ref i j hi hj, fun o => by rw [ef]; exact h.frz o, by rw [ec]; exact h.pend, by rw [ec]; exact h.upd⟩
theorem HP.below {w w' : World} {hb : Nat} {sv : SV} {sz : Int} {R : Nat → Nat} {K : Nat → Int} {N : Nat → Nat → Int} {F : Nat → Nat → Nat} (h : HP w hb sv sz R K N F) (b : Below w.heap.size w w') : HP w' hb sv sz R K N F := h.kept (b.block hb h.lt)
theorem HP.alloc {w : World} {hb : Nat} {sv : SV} {sz : Int} {R : Nat → Nat} {K : Nat → Int} {N : Nat → Nat → Int} {F : Nat → Nat → Nat} (h : HP w hb sv sz R K N F) (o : Obj) : HP (w.alloc o) hb sv sz R K N F := h.kept (Below.heap_alloc w o hb h.lt)

def FFPost (f : FF) (w : World) (e : Ending) (w' : World) : Prop := e = .returned (.tuple #[.agg #[.int .i64 f.n, .int .i64 f.i], .int .u8 f.k, .int .i64 f.e]) ∧ Below w.heap.size w w'
set_option maxHeartbeats 1000000 in
theorem findField_any (hb : Nat) (sv : SV) (sz : Int) (R : Nat → Nat) (K : Nat → Int) (N : Nat → Nat → Int) (F : Nat → Nat → Nat) (base : Nat) (vs : List (Int × SV)) (cs : List (Int × List (Int × Int))) (w : World) (h : HP w hb sv sz R K N F) (hv : Cls w base (.slice sv.a sv.n sv.c) vs cs)
    (hR : ∀ i, i < 8 → R i < 201) (root letter : Int) :
    Calls Try.prog 66 #[.pointer (some ⟨hb, 0, none⟩), .int .i64 root, .int .u8 letter] w (FFPost (ffind cs R K root letter) w) := by
  have hbl := h.lt
  have HD := held_any hb sv sz R K N F _ (h.alloc (.cells #[.int .i64 0, .int .i64 0] 98)) root
  by_cases h0 : (heldI R root).2 = 0
  case neg =>
    obtain ⟨x1, x2, hx⟩ : ∃ x1 x2, heldI R root = (x1, x2) := ⟨_, _, rfl⟩
    have e : ffind cs R K root letter = ⟨0, 0, 0, x2⟩ := by
      unfold heldI at hx h0; unfold ffind
      split at hx
      · rename_i h1; rw [if_pos h1]; cases hx; rfl
      · rename_i h1; rw [if_neg h1]; split at hx
        · rename_i h2; rw [if_pos h2]; cases hx; rfl
        · rename_i h2; rw [if_neg h1, if_neg h2] at h0; exact absurd rfl h0
    rw [e]; clear e
    rw [hx] at HD h0
    simp only [] at h0
    have hx' : (x2 == 0) = false := by simpa using h0
    have hx'' : (x2 != 0) = true := by simpa using h0
    clear hx
    go_enter Try.func66, Try.ntmps66
    go_wp2_with fail
    refine HD.mono ?_
    rintro e w' ⟨rfl, rfl⟩
    clear HD
    simp only []
    go_wp2
    refine bodyPost_ret (v := .tuple #[.agg #[.int .i64 0, .int .i64 0], .int .u8 0, .int .i64 x2]) (by simp [results, Try.results66, go_sem]) rfl ⟨rfl, ?_⟩
    with_reducible repeat first | exact Below.refl _ _ | (refine Below.setN ?_ (by omega) _) | (refine Below.alloc ?_ (by simp) _)
  case pos =>
    obtain ⟨r, rfl, hr8, h2⟩ : ∃ r : Nat, root = r ∧ r < 8 ∧ R r ≠ 0 := by
      unfold heldI at h0
      split at h0
      · simp at h0
      · rename_i h1
        obtain ⟨r, rfl, h8⟩ := rtB_nat (x := root) (by simpa using h1)
        rw [Int.toNat_natCast] at h0
        split at h0
        · simp at h0
        · rename_i h2; exact ⟨r, rfl, h8, h2⟩
    have h1 : rtB (r : Int) = true := by unfold rtB; simp; omega
    have ehd : heldI R r = (R r, 0) := by unfold heldI; rw [if_neg (by rw [h1]; decide), Int.toNat_natCast, if_neg h2]
    rw [ehd] at HD
    clear h0 ehd
    have hRr := hR r hr8
    have hi : (0 : Int) ≤ (r : Int) ∧ (r : Int) < 8 := by omega
    · have hne : ((R r : Int) == 0) = false := by simp; omega
      have C := classOf_any hb (R r) sv sz R K N F vs _ (h.alloc (.cells #[.int .i64 0, .int .i64 0] 98)) (hv.cv.alloc _) hRr
      obtain ⟨f1, f2⟩ := hv.find (K (R r))
      obtain ⟨l, sa, sn, sc, hf⟩ : ∃ l sa sn sc, findC vs (K (R r)) = (l, ⟨sa, sn, sc⟩) := ⟨_, _, _, _, rfl⟩
      obtain ⟨fs, hfs⟩ : ∃ fs, fs = fof cs (K (R r)) := ⟨_, rfl⟩
      rw [hf] at C f2
      simp only [clsV] at C
      rw [fcs_fof, ← hfs] at f2
      have f2' : FV w (.slice sa sn sc) fs := f2
      have sn' : sn = fs.length := by
        rcases f2'.shape with ⟨e1, e2⟩ | ⟨g, cap, e1, _⟩
        · cases e1; rw [e2]; rfl
        · cases e1; rfl
      subst sn'
      clear f1 f2 hf
      by_cases h3 : idxF fs letter < 0
      · have e : ffind cs R K r letter = ⟨0, 0, 0, 5⟩ := by unfold ffind; rw [if_neg (by rw [h1]; decide), Int.toNat_natCast, if_neg h2, ← hfs, if_pos h3]
        rw [e]; clear e hfs
        go_enter Try.func66, Try.ntmps66
        go_wp2_with fail
        refine HD.mono ?_
        rintro e w' ⟨rfl, rfl⟩
        clear HD
        simp only []
        go_wp2_with fail
        refine C.mono ?_
        rintro e w1 ⟨rfl, hb1⟩
        have F1 : FV (w1.alloc (.cells #[.int .u8 l, .slice sa fs.length sc] 88)) (.slice sa fs.length sc) fs := ((f2'.alloc _).below hb1).alloc _
        have r0 : w1.cell? ⟨w.heap.size, 0, none⟩ = some (.int .i64 0) := (hb1.cell (by show w.heap.size < _; simp)).trans (by go_simp)
        have r1 : w1.cell? ⟨w.heap.size, 1, none⟩ = some (.int .i64 0) := (hb1.cell (by show w.heap.size < _; simp)).trans (by go_simp)
        have rf0 : w1.frozen? ⟨w.heap.size, 0, none⟩ = false := (hb1.frozen (by show w.heap.size < _; simp)).trans (by go_simp)
        have rf1 : w1.frozen? ⟨w.heap.size, 1, none⟩ = false := (hb1.frozen (by show w.heap.size < _; simp)).trans (by go_simp)
        have hz1 : w.heap.size < w1.heap.size := by have := hb1.size; simp at this; omega
        have B1 : Below w.heap.size w w1 := ((Below.refl _ w).alloc (Nat.le_refl _) _).trans (hb1.mono (by simp))
        clear C hb1
        obtain ⟨ix, hix⟩ : ∃ ix, ix = idxF fs letter := ⟨_, rfl⟩
        go_wp2_with fail
        refine (index_any l letter _ fs _ F1).mono ?_
        rintro e w2 ⟨rfl, hb2⟩
        rw [← hix] at h3 ⊢
        have hz2 : w1.heap.size < w2.heap.size := by have := hb2.size; simp at this; omega
        have hz20 : w.heap.size < w2.heap.size := by omega
        have k0 : w2.cell? ⟨w1.heap.size, 0, none⟩ = some (.int .u8 l) := (hb2.cell (by show w1.heap.size < _; simp)).trans (by go_simp)
        have k1 : w2.cell? ⟨w1.heap.size, 1, none⟩ = some (.slice sa fs.length sc) := (hb2.cell (by show w1.heap.size < _; simp)).trans (by go_simp)
        have s0 : w2.cell? ⟨w.heap.size, 0, none⟩ = some (.int .i64 0) := (hb2.cell (by show w.heap.size < _; simp; omega)).trans (by go_simp)
        have s1 : w2.cell? ⟨w.heap.size, 1, none⟩ = some (.int .i64 0) := (hb2.cell (by show w.heap.size < _; simp; omega)).trans (by go_simp)
        have sf0 : w2.frozen? ⟨w.heap.size, 0, none⟩ = false := (hb2.frozen (by show w.heap.size < _; simp; omega)).trans (by go_simp)
        have sf1 : w2.frozen? ⟨w.heap.size, 1, none⟩ = false := (hb2.frozen (by show w.heap.size < _; simp; omega)).trans (by go_simp)
        have B2 : Below w.heap.size w w2 := (B1.alloc B1.size _).trans (hb2.mono (by simp; omega))
        clear F1 hb2 hix r0 r1 rf0 rf1
        have hd : decide (ix < 0) = true := by simpa using h3
        go_wp2
        refine bodyPost_ret (v := .tuple #[.agg #[.int .i64 0, .int .i64 0], .int .u8 0, .int .i64 5]) (by simp [results, Try.results66, go_sem, s0, s1]) rfl ⟨rfl, ?_⟩
        exact (B2.setCell (Nat.le_refl _) _).setCell (Nat.le_refl _) _
      · obtain ⟨i, hi1, hi2⟩ := idxF_lt h3
        have e : ffind cs R K r letter = ⟨R r, i, (fs[i]?.getD (0, 0)).2, 0⟩ := by unfold ffind; rw [if_neg (by rw [h1]; decide), Int.toNat_natCast, if_neg h2, ← hfs, if_neg h3, hi1]; rfl
        rw [e]; clear e hfs
        go_enter Try.func66, Try.ntmps66
        go_wp2_with fail
        refine HD.mono ?_
        rintro e w' ⟨rfl, rfl⟩
        clear HD
        simp only []
        go_wp2_with fail
        refine C.mono ?_
        rintro e w1 ⟨rfl, hb1⟩
        have F1 : FV (w1.alloc (.cells #[.int .u8 l, .slice sa fs.length sc] 88)) (.slice sa fs.length sc) fs := ((f2'.alloc _).below hb1).alloc _
        have r0 : w1.cell? ⟨w.heap.size, 0, none⟩ = some (.int .i64 0) := (hb1.cell (by show w.heap.size < _; simp)).trans (by go_simp)
        have r1 : w1.cell? ⟨w.heap.size, 1, none⟩ = some (.int .i64 0) := (hb1.cell (by show w.heap.size < _; simp)).trans (by go_simp)
        have rf0 : w1.frozen? ⟨w.heap.size, 0, none⟩ = false := (hb1.frozen (by show w.heap.size < _; simp)).trans (by go_simp)
        have rf1 : w1.frozen? ⟨w.heap.size, 1, none⟩ = false := (hb1.frozen (by show w.heap.size < _; simp)).trans (by go_simp)
        have hz1 : w.heap.size < w1.heap.size := by have := hb1.size; simp at this; omega
        have B1 : Below w.heap.size w w1 := ((Below.refl _ w).alloc (Nat.le_refl _) _).trans (hb1.mono (by simp))
        clear C hb1
        go_wp2_with fail
        refine (index_any l letter _ fs _ F1).mono ?_
        rintro e w2 ⟨rfl, hb2⟩
        rw [hi1]
        have hz2 : w1.heap.size < w2.heap.size := by have := hb2.size; simp at this; omega
        have hz20 : w.heap.size < w2.heap.size := by omega
        have k0 : w2.cell? ⟨w1.heap.size, 0, none⟩ = some (.int .u8 l) := (hb2.cell (by show w1.heap.size < _; simp)).trans (by go_simp)
        have k1 : w2.cell? ⟨w1.heap.size, 1, none⟩ = some (.slice sa fs.length sc) := (hb2.cell (by show w1.heap.size < _; simp)).trans (by go_simp)
        have s0 : w2.cell? ⟨w.heap.size, 0, none⟩ = some (.int .i64 0) := (hb2.cell (by show w.heap.size < _; simp; omega)).trans (by go_simp)
        have s1 : w2.cell? ⟨w.heap.size, 1, none⟩ = some (.int .i64 0) := (hb2.cell (by show w.heap.size < _; simp; omega)).trans (by go_simp)
        have sf0 : w2.frozen? ⟨w.heap.size, 0, none⟩ = false := (hb2.frozen (by show w.heap.size < _; simp; omega)).trans (by go_simp)
        have sf1 : w2.frozen? ⟨w.heap.size, 1, none⟩ = false := (hb2.frozen (by show w.heap.size < _; simp; omega)).trans (by go_simp)
        have B2 : Below w.heap.size w w2 := (B1.alloc B1.size _).trans (hb2.mono (by simp; omega))
        rcases f2'.shape with ⟨_, e2⟩ | ⟨g, cap, e1, hg, _, hgc⟩
        · rw [e2] at hi2; simp at hi2
        obtain ⟨rfl, rfl⟩ : sa = some ⟨g, 0, none⟩ ∧ sc = cap := by cases e1; exact ⟨rfl, rfl⟩
        have g1 : w2.cell? ⟨g, i * 2 + 1, none⟩ = some (.int .u8 (fs[i]?.getD (0, 0)).2) := (B2.cell (by exact hg)).trans (hgc i hi2).2
        obtain ⟨kd, hkd⟩ : ∃ kd, kd = (fs[i]?.getD (0, 0)).2 := ⟨_, rfl⟩
        rw [← hkd] at g1
        have HKD : Hid (kd = (fs[i]?.getD (0, 0)).2) := hkd
        have hib : (0 : Int) ≤ (i : Int) ∧ (i : Int) < (fs.length : Int) := by omega
        have hil : ¬ (fs.length : Int) ≤ (i : Int) := by omega
        have hlm : fs.length ≤ 9223372036854775807 := by
          have := f2'.2; rcases this with ⟨_, h⟩ | ⟨_, _, _, _, _, _, h1, h2, _⟩
          · omega
          · unfold maxLen at h2; omega
        clear F1 hb2 r0 r1 rf0 rf1 hkd hgc e1 hi1 h3
        go_wp2
        go_region
        all_goals
          go_wp2
          refine bodyPost_ret (v := .tuple #[.agg #[.int .i64 (R r), .int .i64 i], .int .u8 kd, .int .i64 0]) (by simp [results, Try.results66, go_sem, s0, s1]) rfl ⟨by rw [HKD.out], ?_⟩
          with_reducible repeat first | exact B2 | apply Below.drew | (refine Below.setN ?_ (by omega) _)
end Go.Proofs.Ytbgilndohccicab
namespace Go.Proofs.Ytbgilndohccicab
open Go.RowKit

set_option maxHeartbeats 1000000 in
theorem findNumber_any (hb : Nat) (sv : SV) (sz : Int) (R : Nat → Nat) (K : Nat → Int) (N : Nat → Nat → Int) (F : Nat → Nat → Nat) (base : Nat) (vs : List (Int × SV)) (cs : List (Int × List (Int × Int))) (w : World) (h : HP w hb sv sz R K N F) (hv : Cls w base (.slice sv.a sv.n sv.c) vs cs)
    (hR : ∀ i, i < 8 → R i < 201) (root letter : Int) :
    Calls Try.prog 39 #[.pointer (some ⟨hb, 0, none⟩), .int .i64 root, .int .u8 letter] w (FFPost (fnum (ffind cs R K root letter)) w) := by
  have hbl := h.lt
  have C := findField_any hb sv sz R K N F base vs cs _ (h.alloc (.cells #[.int .i64 0, .int .i64 0] 98)) (hv.below ((Below.refl _ w).alloc (Nat.le_refl _) _)) hR root letter
  obtain ⟨f, hf⟩ : ∃ f, f = ffind cs R K root letter := ⟨_, rfl⟩
  rw [← hf] at C ⊢
  clear hf
  obtain ⟨n, i, k, x⟩ := f
  by_cases hx : x = 0
  · subst hx
    by_cases hk : k = 114
    · subst hk
      have e : fnum ⟨n, i, 114, 0⟩ = ⟨0, 0, 0, 6⟩ := rfl
      rw [e]
      go_enter Try.func39, Try.ntmps39
      go_wp2_with fail
      refine C.mono ?_
      rintro e w1 ⟨rfl, hb1⟩
      have r0 : w1.cell? ⟨w.heap.size, 0, none⟩ = some (.int .i64 0) := (hb1.cell (by show w.heap.size < _; simp)).trans (by go_simp)
      have r1 : w1.cell? ⟨w.heap.size, 1, none⟩ = some (.int .i64 0) := (hb1.cell (by show w.heap.size < _; simp)).trans (by go_simp)
      have rf0 : w1.frozen? ⟨w.heap.size, 0, none⟩ = false := (hb1.frozen (by show w.heap.size < _; simp)).trans (by go_simp)
      have rf1 : w1.frozen? ⟨w.heap.size, 1, none⟩ = false := (hb1.frozen (by show w.heap.size < _; simp)).trans (by go_simp)
      have hz1 : w.heap.size < w1.heap.size := by have := hb1.size; simp at this; omega
      have B1 : Below w.heap.size w w1 := ((Below.refl _ w).alloc (Nat.le_refl _) _).trans (hb1.mono (by simp))
      have hs1 := B1.size
      clear C hb1
      simp only []
      go_wp2
      refine bodyPost_ret (v := .tuple #[.agg #[.int .i64 0, .int .i64 0], .int .u8 0, .int .i64 6]) (by simp [results, Try.results39, go_sem, r0, r1, hz1]) rfl ⟨rfl, ?_⟩
      with_reducible repeat first | exact B1 | apply Below.drew | (refine Below.setN ?_ (by omega) _) | (refine Below.alloc ?_ (by simp; omega) _)
    · have e : fnum ⟨n, i, k, 0⟩ = ⟨n, i, k, 0⟩ := by unfold fnum; rw [if_pos rfl, if_neg hk]
      have hk' : (k == 114) = false := by simpa using hk
      rw [e]
      go_enter Try.func39, Try.ntmps39
      go_wp2_with fail
      refine C.mono ?_
      rintro e w1 ⟨rfl, hb1⟩
      have r0 : w1.cell? ⟨w.heap.size, 0, none⟩ = some (.int .i64 0) := (hb1.cell (by show w.heap.size < _; simp)).trans (by go_simp)
      have r1 : w1.cell? ⟨w.heap.size, 1, none⟩ = some (.int .i64 0) := (hb1.cell (by show w.heap.size < _; simp)).trans (by go_simp)
      have rf0 : w1.frozen? ⟨w.heap.size, 0, none⟩ = false := (hb1.frozen (by show w.heap.size < _; simp)).trans (by go_simp)
      have rf1 : w1.frozen? ⟨w.heap.size, 1, none⟩ = false := (hb1.frozen (by show w.heap.size < _; simp)).trans (by go_simp)
      have hz1 : w.heap.size < w1.heap.size := by have := hb1.size; simp at this; omega
      have B1 : Below w.heap.size w w1 := ((Below.refl _ w).alloc (Nat.le_refl _) _).trans (hb1.mono (by simp))
      have hs1 := B1.size
      clear C hb1
      simp only []
      go_wp2
      refine bodyPost_ret (v := .tuple #[.agg #[.int .i64 n, .int .i64 i], .int .u8 k, .int .i64 0]) (by simp [results, Try.results39, go_sem, r0, r1, hz1]) rfl ⟨rfl, ?_⟩
      with_reducible repeat first | exact B1 | apply Below.drew | (refine Below.setN ?_ (by omega) _) | (refine Below.alloc ?_ (by simp; omega) _)
  · have e : fnum ⟨n, i, k, x⟩ = ⟨0, 0, 0, x⟩ := by unfold fnum; rw [if_neg hx]
    have hx' : (x == 0) = false := by simpa using hx
    have hx'' : (x != 0) = true := by simpa using hx
    rw [e]
    go_enter Try.func39, Try.ntmps39
    go_wp2_with fail
    refine C.mono ?_
    rintro e w1 ⟨rfl, hb1⟩
    have r0 : w1.cell? ⟨w.heap.size, 0, none⟩ = some (.int .i64 0) := (hb1.cell (by show w.heap.size < _; simp)).trans (by go_simp)
    have r1 : w1.cell? ⟨w.heap.size, 1, none⟩ = some (.int .i64 0) := (hb1.cell (by show w.heap.size < _; simp)).trans (by go_simp)
    have rf0 : w1.frozen? ⟨w.heap.size, 0, none⟩ = false := (hb1.frozen (by show w.heap.size < _; simp)).trans (by go_simp)
    have rf1 : w1.frozen? ⟨w.heap.size, 1, none⟩ = false := (hb1.frozen (by show w.heap.size < _; simp)).trans (by go_simp)
    have hz1 : w.heap.size < w1.heap.size := by have := hb1.size; simp at this; omega
    have B1 : Below w.heap.size w w1 := ((Below.refl _ w).alloc (Nat.le_refl _) _).trans (hb1.mono (by simp))
    have hs1 := B1.size
    clear C hb1
    simp only []
    go_wp2
    refine bodyPost_ret (v := .tuple #[.agg #[.int .i64 0, .int .i64 0], .int .u8 0, .int .i64 x]) (by simp [results, Try.results39, go_sem, r0, r1, hz1]) rfl ⟨rfl, ?_⟩
    with_reducible repeat first | exact B1 | apply Below.drew | (refine Below.setN ?_ (by omega) _) | (refine Below.alloc ?_ (by simp; omega) _)
end Go.Proofs.Ytbgilndohccicab
namespace Go.Proofs.Ytbgilndohccicab
open Go.RowKit

/-- A number wrapped to a kind. -/
def wrK (k v : Int) : Int := if k = 98 then v % 256 else if k = 104 then (v + 32768) % 65536 - 32768 else if k = 119 then (v + 2147483648) % 4294967296 - 2147483648 else v
theorem ret_i64 {a b : Int} (h : a = b) : Ending.returned (.int .i64 a) = .returned (.int .i64 b) := by rw [h]
theorem wrap_i16 (v : Int) : IntKind.i16.wrap v = (v + 32768) % 65536 - 32768 := by
  simp [IntKind.wrap, IntKind.bits, IntKind.signed]; split <;> omega
theorem wrK_bd (k v : Int) (h1 : -9223372036854775808 ≤ v) (h2 : v ≤ 9223372036854775807) : -9223372036854775808 ≤ wrK k v ∧ wrK k v ≤ 9223372036854775807 := by
  unfold wrK; split
  · omega
  · split
    · omega
    · split <;> omega
theorem gb_below_drewN (w : World) (n : Nat) : Below w.heap.size w (w.drewN n) := ⟨rfl, rfl, rfl, Nat.le_refl _, fun _ _ => rfl⟩
end Go.Proofs.Ytbgilndohccicab
