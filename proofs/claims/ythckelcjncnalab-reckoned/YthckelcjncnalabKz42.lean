import Derived.Test.YthckelcjncnalabKz41
namespace Go.Proofs.Ythckelcjncnalab
open Go.RowKit

def zMV : MV := ⟨0, ⟨none, 0, 0⟩, 0, ⟨none, 0, 0⟩⟩
def mvV (p : MV) : Value := .agg #[.int .u8 p.l, .slice p.f.a p.f.n p.f.c, .int .u8 p.s, .slice p.r.a p.r.n p.r.c]
structure MCell (w : World) (g i : Nat) (p : MV) : Prop where
  c0 : w.cell? ⟨g, i * 4, none⟩ = some (.int .u8 p.l)
  c1 : w.cell? ⟨g, i * 4 + 1, none⟩ = some (.slice p.f.a p.f.n p.f.c)
  c2 : w.cell? ⟨g, i * 4 + 2, none⟩ = some (.int .u8 p.s)
  c3 : w.cell? ⟨g, i * 4 + 3, none⟩ = some (.slice p.r.a p.r.n p.r.c)
theorem MCell.below {w w' : World} {B g i : Nat} {t : MV} (h : MCell w g i t) (hb : Below B w w') (hg : g < B) : MCell w' g i t :=
  ⟨(hb.cell (p := ⟨g, _, none⟩) hg).trans h.c0, (hb.cell (p := ⟨g, _, none⟩) hg).trans h.c1, (hb.cell (p := ⟨g, _, none⟩) hg).trans h.c2, (hb.cell (p := ⟨g, _, none⟩) hg).trans h.c3⟩
theorem Mks.cells {w : World} {base : Nat} {v : Value} {vs : List MV} {ms : List PM} (h : Mks w base v vs ms) : (v = .slice none 0 0 ∧ vs = []) ∨ ∃ g cap, v = .slice (some ⟨g, 0, none⟩) vs.length cap ∧ g < w.heap.size ∧ vs.length ≤ maxLen ∧ ∀ i, i < vs.length → MCell w g i (vs[i]?.getD zMV) := by
  have h' := h.row
  unfold flatMk at h'
  rcases h.row.2 with ⟨rfl, hn⟩ | ⟨g, cap, cur, rfl, _, hg, h1, h2, _⟩
  · exact .inl ⟨rfl, List.length_eq_zero_iff.1 hn⟩
  · refine .inr ⟨g, cap, rfl, ?_, by omega, fun i hi => ?_⟩
    · exact (World.ownsRow.lt h' g rfl).2
    · have hx := getD_of hi zMV
      exact ⟨by simpa using row_cell h' (fun _ => rfl) (j := 0) hx rfl, row_cell h' (fun _ => rfl) (j := 1) hx rfl, row_cell h' (fun _ => rfl) (j := 2) hx rfl, row_cell h' (fun _ => rfl) (j := 3) hx rfl⟩
/-- The making that an old class is the source of. -/
def findMV (vs : List MV) (x : Int) : Option MV := if x = 0 then none else vs.find? (fun p => p.s == x)
def findPM (ms : List PM) (x : Int) : Option PM := if x = 0 then none else ms.find? (fun p => p.src == x)
theorem findMV_hit (vs : List MV) (x : Int) (k : Nat) (hx : x ≠ 0) (hk : k < vs.length) (hno : ∀ j, j < k → ¬ (vs[j]?.getD zMV).s = x) (h : ((vs[k]?.getD zMV).s == x) = true) : findMV vs x = some (vs[k]?.getD zMV) := by
  unfold findMV
  rw [if_neg hx]
  have : vs.find? (fun p => p.s == x) = some vs[k] := by
    rw [List.find?_eq_some_iff_getElem]
    refine ⟨by simpa [List.getElem?_eq_getElem hk] using h, k, hk, rfl, fun j hj => ?_⟩
    have := hno j hj
    have hj' : j < vs.length := by omega
    simpa [List.getElem?_eq_getElem hj'] using this
  rw [this, List.getElem?_eq_getElem hk]; rfl
theorem findMV_none (vs : List MV) (x : Int) (hno : ∀ j, j < vs.length → ¬ (vs[j]?.getD zMV).s = x) : findMV vs x = none := by
  unfold findMV
  split
  · rfl
  · rw [List.find?_eq_none]
    intro p hp
    obtain ⟨j, hj, rfl⟩ := List.getElem_of_mem hp
    have := hno j hj
    simpa [List.getElem?_eq_getElem hj] using this
theorem noM_step {vs : List MV} {x : Int} {k : Nat} (hno : ∀ j, j < k → ¬ (vs[j]?.getD zMV).s = x) (h1 : ((vs[k]?.getD zMV).s == x) = false) : ∀ j, j < k + 1 → ¬ (vs[j]?.getD zMV).s = x := by
  intro j hj
  rcases Nat.lt_succ_iff_lt_or_eq.1 hj with h | rfl
  · exact hno j h
  · simpa using h1
theorem find_both {α β : Type} {P : α → β → Prop} (f : α → Bool) (g : β → Bool) : ∀ (vs : List α) (ms : List β), vs.length = ms.length → (∀ (i : Nat) a b, vs[i]? = some a → ms[i]? = some b → f a = g b ∧ P a b) →
    (vs.find? f = none ∧ ms.find? g = none) ∨ ∃ a b, vs.find? f = some a ∧ ms.find? g = some b ∧ P a b := by
  intro vs
  induction vs with
  | nil =>
    intro ms hl _
    cases ms with
    | nil => exact .inl ⟨rfl, rfl⟩
    | cons _ _ => simp at hl
  | cons a r ih =>
    intro ms hl hP
    cases ms with
    | nil => simp at hl
    | cons b q =>
      have h0 := hP 0 a b rfl rfl
      simp only [List.find?_cons]
      rw [h0.1]
      cases g b with
      | true => exact .inr ⟨a, b, rfl, rfl, h0.2⟩
      | false => exact ih q (by simpa using hl) fun i a' b' h1 h2 => hP (i + 1) a' b' (by simpa using h1) (by simpa using h2)
theorem Mks.find {w : World} {base : Nat} {v : Value} {vs : List MV} {ms : List PM} (h : Mks w base v vs ms) (x : Int) :
    (findMV vs x = none ∧ findPM ms x = none) ∨ ∃ p m, findMV vs x = some p ∧ findPM ms x = some m ∧ p.l = m.l ∧ FVb w base p.f.val m.fs ∧ ∃ us, Rls w base p.r.val us m.rs := by
  unfold findMV findPM
  by_cases hx : x = 0
  · rw [if_pos hx, if_pos hx]; exact .inl ⟨rfl, rfl⟩
  · rw [if_neg hx, if_neg hx]
    exact find_both (P := fun p m => p.l = m.l ∧ FVb w base p.f.val m.fs ∧ ∃ us, Rls w base p.r.val us m.rs) (fun p => p.s == x) (fun m => m.src == x) vs ms h.len fun i p m h1 h2 => by
      obtain ⟨a, b, c⟩ := h.el i p m h1 h2
      exact ⟨by rw [b], a, c⟩
set_option maxHeartbeats 400000 in
theorem ufind_nil (x : Int) (w : World) :
    Calls Try.prog 33 #[.agg #[.slice none 0 0], .int .u8 x] w fun e w' => e = .returned (.tuple #[mvV zMV, .bool false]) ∧ Below w.heap.size w w' := by
  go_enter Try.func33, Try.ntmps33
  go_wp2
  refine wp_loop_rounds 1 ?_; rw [rounds_succ]
  go_wp2
  exact bodyPost_ret (v := .tuple #[mvV zMV, .bool false]) (by simp [results, Try.results33, go_sem, mvV, zMV]) rfl ⟨rfl, ((Below.refl _ _).alloc (Nat.le_refl _) _).alloc (by simp) _⟩
set_option maxHeartbeats 1000000 in
set_option maxRecDepth 20000 in
theorem ufind_row (x : Int) (g cap : Nat) (vs : List MV) (w : World) (hg : g < w.heap.size) (hm : vs.length ≤ 9223372036854775807) (hc : ∀ i, i < vs.length → MCell w g i (vs[i]?.getD zMV)) :
    Calls Try.prog 33 #[.agg #[.slice (some ⟨g, 0, none⟩) vs.length cap], .int .u8 x] w fun e w' => e = .returned (.tuple #[mvV ((findMV vs x).getD zMV), .bool (findMV vs x).isSome]) ∧ Below w.heap.size w w' := by
  obtain ⟨n, hn⟩ : ∃ n, n = vs.length := ⟨_, rfl⟩
  rw [← hn] at hm hc ⊢
  have HN : Hid (n = vs.length) := hn
  have HC : Hid (∀ i, i < n → MCell w g i (vs[i]?.getD zMV)) := hc
  obtain ⟨W, hW⟩ : ∃ W, W = (w.alloc (.cells #[.slice (some ⟨g, 0, none⟩) n cap] 63)).alloc (.cells #[.int .u8 0, .slice none 0 0, .int .u8 0, .slice none 0 0] 89) := ⟨_, rfl⟩
  have B0 : Below w.heap.size w W := by rw [hW]; exact ((Below.refl _ _).alloc (Nat.le_refl _) _).alloc (by simp) _
  have z0 : W.heap.size = w.heap.size + 1 + 1 := by rw [hW]; simp
  have y0 : W.cell? ⟨w.heap.size + 1, 0, none⟩ = some (.int .u8 0) := by rw [hW]; go_simp
  have y1 : W.cell? ⟨w.heap.size + 1, 1, none⟩ = some (.slice none 0 0) := by rw [hW]; go_simp
  have y2 : W.cell? ⟨w.heap.size + 1, 2, none⟩ = some (.int .u8 0) := by rw [hW]; go_simp
  have y3 : W.cell? ⟨w.heap.size + 1, 3, none⟩ = some (.slice none 0 0) := by rw [hW]; go_simp
  have yf : ∀ o, W.frozen? ⟨w.heap.size + 1, o, none⟩ = false := by intro o; rw [hW]; go_simp
  have HB0 : Hid (Below w.heap.size w W) := B0
  have HYF : Hid (∀ o, W.frozen? ⟨w.heap.size + 1, o, none⟩ = false) := yf
  clear hn hc B0 yf
  obtain ⟨bx, hbx⟩ : ∃ bx, (x != 0) = bx := ⟨_, rfl⟩
  go_enter Try.func33, Try.ntmps33
  go_wp2
  rw [← hW]
  clear hW
  go_loopw [11] (fun i wr => ∃ k : Nat, k ≤ n ∧ i = .int .i64 k ∧ Hid (x ≠ 0 → ∀ j, j < k → ¬ (vs[j]?.getD zMV).s = x) ∧ Below W.heap.size W wr) (fun i _ => n - (intOf i).toNat)
  case atStart => exact ⟨0, Nat.zero_le _, rfl, fun _ j hj => by omega, Below.refl _ _⟩
  case round =>
    obtain ⟨k, hk, rfl, hno, hb⟩ := hrel
    have u1 : w.heap.size + 1 < W.heap.size := by omega
    have r0 := (hb.cell (p := ⟨w.heap.size + 1, 0, none⟩) u1).trans y0
    have r1 := (hb.cell (p := ⟨w.heap.size + 1, 1, none⟩) u1).trans y1
    have r2 := (hb.cell (p := ⟨w.heap.size + 1, 2, none⟩) u1).trans y2
    have r3 := (hb.cell (p := ⟨w.heap.size + 1, 3, none⟩) u1).trans y3
    have rf0 := (hb.frozen (p := ⟨w.heap.size + 1, 0, none⟩) u1).trans (HYF.out 0)
    have rf1 := (hb.frozen (p := ⟨w.heap.size + 1, 1, none⟩) u1).trans (HYF.out 1)
    have rf2 := (hb.frozen (p := ⟨w.heap.size + 1, 2, none⟩) u1).trans (HYF.out 2)
    have rf3 := (hb.frozen (p := ⟨w.heap.size + 1, 3, none⟩) u1).trans (HYF.out 3)
    have hsz := hb.size
    have hsz1 : w.heap.size + 1 < wr.heap.size := by omega
    have hB : Below w.heap.size w wr := HB0.out.trans (hb.mono HB0.out.size)
    by_cases hlt : k < n
    · obtain ⟨c0, c1, c2, c3⟩ := (HC.out k hlt).below hB hg
      obtain ⟨p, hp⟩ : ∃ p, p = vs[k]?.getD zMV := ⟨_, rfl⟩
      have HPK : Hid (p = vs[k]?.getD zMV) := hp
      rw [← hp] at c0 c1 c2 c3
      clear hp
      have hgr : g < wr.heap.size := by omega
      obtain ⟨pl, ⟨pa, pn, pc⟩, ps, ⟨qa, qn, qc⟩⟩ := p
      simp only [] at c0 c1 c2 c3
      cases hps : ps == x with
      | false =>
        have HNO : Hid (x ≠ 0 → ∀ j, j < k + 1 → ¬ (vs[j]?.getD zMV).s = x) := fun hx => noM_step (hno.out hx) (by rw [← HPK.out]; exact hps)
        go_wp2
        go_roundw
        case rel => exact ⟨k + 1, by omega, by go_num, HNO, hb.alloc hsz _⟩
        case measure => simp [intOf]; omega
      | true =>
        cases bx with
        | false =>
          have HNO : Hid (x ≠ 0 → ∀ j, j < k + 1 → ¬ (vs[j]?.getD zMV).s = x) := fun hx => absurd (by simpa using hbx) hx
          go_wp2
          go_roundw
          case rel => exact ⟨k + 1, by omega, by go_num, HNO, hb.alloc hsz _⟩
          case measure => simp [intOf]; omega
        | true =>
          have HF : Hid (findMV vs x = some ⟨pl, ⟨pa, pn, pc⟩, ps, ⟨qa, qn, qc⟩⟩) := by
            show _ = _
            have := findMV_hit vs x k (by simpa using hbx) (by rw [← HN.out]; exact hlt) (hno.out (by simpa using hbx)) (by rw [← HPK.out]; exact hps)
            rw [← HPK.out] at this; exact this
          go_wp2
          refine bodyPost_ret (v := .tuple #[.agg #[.int .u8 pl, .slice pa pn pc, .int .u8 ps, .slice qa qn qc], .bool true]) (by simp [results, Try.results33, go_sem, r0, r1, r2, r3, hsz1]) rfl ⟨by rw [HF.out]; rfl, ?_⟩
          with_reducible repeat first | exact hB | (refine Below.setN ?_ (by omega) _) | (refine Below.alloc ?_ (by simp; omega) _)
    · have HF : Hid (findMV vs x = none) := by
        show _ = _
        by_cases hx : x = 0
        · unfold findMV; rw [if_pos hx]
        · exact findMV_none vs x fun j hj => hno.out hx j (by rw [← HN.out] at hj; omega)
      go_wp2
      refine bodyPost_ret (v := .tuple #[mvV zMV, .bool false]) (by simp [results, Try.results33, go_sem, r0, r1, r2, r3, mvV, zMV]) rfl ⟨by rw [HF.out]; rfl, ?_⟩
      with_reducible repeat first | exact hB | (refine Below.setN ?_ (by omega) _)
theorem ufind_any {w : World} {base : Nat} {v : Value} {vs : List MV} {ms : List PM} (h : Mks w base v vs ms) (x : Int) :
    Calls Try.prog 33 #[.agg #[v], .int .u8 x] w fun e w' => e = .returned (.tuple #[mvV ((findMV vs x).getD zMV), .bool (findMV vs x).isSome]) ∧ Below w.heap.size w w' := by
  rcases h.cells with ⟨rfl, rfl⟩ | ⟨g, cap, rfl, hg, hm, hc⟩
  · have e : findMV [] x = none := by unfold findMV; split <;> rfl
    rw [e]
    exact ufind_nil x w
  · exact ufind_row x g cap vs w hg (by unfold maxLen at hm; omega) hc
end Go.Proofs.Ythckelcjncnalab
