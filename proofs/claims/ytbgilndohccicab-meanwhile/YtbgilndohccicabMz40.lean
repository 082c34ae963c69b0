import Derived.Test.YtbgilndohccicabMz39
namespace Go.Proofs.Ytbgilndohccicab
open Go.RowKit

def zMV : MV := ⟨0, ⟨none, 0, 0⟩, 0, ⟨none, 0, 0⟩⟩
def mvV (p : MV) : Value := .agg #[.int .u8 p.l, .slice p.f.a p.f.n p.f.c, .int .u8 p.s, .slice p.r.a p.r.n p.r.c]
structure MCell (w : World) (g i : Nat) (p : MV) : Prop where
  c0 : w.cell? ⟨g, i * 4, none⟩ = some (.int .u8 p.l)
  c1 : w.cell? ⟨g, i * 4 + 1, none⟩ = some (.slice p.f.a p.f.n p.f.c)
  c2 : w.cell? ⟨g, i * 4 + 2, none⟩ = some (.int .u8 p.s)
  c3 : w.cell? ⟨g, i * 4 + 3, none⟩ = some (.slice p.r.a p.r.n p.r.c)
theorem MCell.below {w w' : World} {B g i : Nat} {t : MV} (h : MCell w g i t) (hb : Below B w w') (hg : g < B) : MCell w' g i t :=
  ⟨(hb.cell (p := ⟨g, _, none⟩) hg).trans h.c0, (hb.cell (p := ⟨g, _, none⟩) hg).trans h.c1, (hb.cell (p := ⟨g, _, none⟩) hg).trans h.c2, (hb.cell (p := ⟨g, _, none⟩) hg).trans h.c3⟩
theorem Mks.cells {w : World} {base : Nat} {v : Value} {vs : List MV} {ms : List PM} (h : Mks w base v vs ms) : (v = .slice none 0 0 ∧ vs = []) ∨ ∃ g cap, v = .slice (some ⟨g, 0, none⟩) vs.length cap ∧ g < w.heap.size ∧ vs.length ≤ maxLen ∧ ∀ i, i < vs.length → MCell w g i (vs[i]?.getD zMV) := by
  have h' := h.row
  unfold flatMk at h'
  rcases h.row.2 with ⟨rfl, hn⟩ | ⟨g, cap, cur, rfl, _, hg, h1, h2, _⟩
  · exact .inl ⟨rfl, List.length_eq_zero_iff.1 hn⟩
  · refine .inr ⟨g, cap, rfl, ?_, by omega, fun i hi => ?_⟩
    · exact (World.ownsRow.lt h' g rfl).2
    · have hx := getD_of hi zMV
      exact ⟨by simpa using row_cell h' (fun _ => rfl) (j := 0) hx rfl, row_cell h' (fun _ => rfl) (j := 1) hx rfl, row_cell h' (fun _ => rfl) (j := 2) hx rfl, row_cell h' (fun _ => rfl) (j := 3) hx rfl⟩
/-- The making that an old class is the source of. -/
def findMV (vs : List MV) (x : Int) : Option MV := if x = 0 then none else vs.find? (fun p => p.s == x)
def findPM (ms : List PM) (x : Int) : Option PM := if x = 0 then none else ms.find? (fun p => p.src == x)
theorem findMV_hit (vs : List MV) (x : Int) (k : Nat) (hx : x ≠ 0) (hk : k < vs.length) (hno : ∀ j, j < k → ¬ (vs[j]?.getD zMV).s = x) (h : ((vs[k]?.getD zMV).s == x) = true) : findMV vs x = some (vs[k]?.getD zMV) := by
  unfold findMV
  rw [if_neg hx]
  have : vs.find? (fun p => p.s == x) = some vs[k] := by
    rw [List.find?_eq_some_iff_getElem]
    refine ⟨by simpa [List.getElem?_eq_getElem hk] using h, k, hk, rfl, fun j hj => ?_⟩
    have := hno j hj
    have hj' : j < vs.length := by omega
    simpa [List.getElem?_eq_getElem hj'] using this
  rw [this, List.getElem?_eq_getElem hk]; rfl
theorem findMV_none (vs : List MV) (x : Int) (hno : ∀ j, j < vs.length → ¬ (vs[j]?.getD zMV).s = x) : findMV vs x = none := by
  unfold findMV
  split
  · rfl
  · rw [List.find?_eq_none]
    intro p hp
    obtain ⟨j, hj, rfl⟩ := List.getElem_of_mem hp
    have := hno j hj
    simpa [List.getElem?_eq_getElem hj] using this
theorem noM_step {vs : List MV} {x : Int} {k : Nat} (hno : ∀ j, j < k → ¬ (vs[j]?.getD zMV).s = x) (h1 : ((vs[k]?.getD zMV).s == x) = false) : ∀ j, j < k + 1 → ¬ (vs[j]?.getD zMV).s = x := by
  intro j hj
  rcases Nat.lt_succ_iff_lt_or_eq.1 hj with h | rfl
  · exact hno j h
  · simpa using h1
theorem find_both {α β : Type} {P : α → β → Prop} (f : α → Bool) (g : β → Bool) : ∀ (vs : List α) (ms : List β), vs.length = ms.length → (∀ (i : Nat) a b, vs[i]? = some a → ms[i]? = some b → f a = g b ∧ P a b) →
    (vs.find? f = none ∧ ms.find? g = none) ∨ ∃ a b, vs.find? f = some a ∧ ms.find? g = some b ∧ P a b := by
  intro vs
  induction vs with
  | nil =>
    intro ms hl _
    cases ms with
    | nil => exact .inl ⟨rfl, rfl⟩
    | cons _ _ => simp at hl
  | cons a r ih =>
    intro ms hl hP
    cases ms with
    | nil => simp at hl
    | cons b q =>
      have h0 := hP 0 a b rfl rfl
      simp only [List.find?_cons]
      rw [h0.1]
      cases g b with
      | true => exact .inr ⟨a, b, rfl, rfl, h0.2⟩
      | false => exact ih q (by simpa using hl) fun i a' b' h1 h2 => hP (i + 1) a' b' (by simpa using h1) (by simpa using h2)
theorem Mks.find {w : World} {base : Nat} {v : Value} {vs : List MV} {ms : List PM} (h : Mks w base v vs ms) (x : Int) :
    (findMV vs x = none ∧ findPM ms x = none) ∨ ∃ p m, findMV vs x = some p ∧ findPM ms x = some m ∧ p.l = m.l ∧ FVb w base p.f.val m.fs ∧ ∃ us, Rls w base p.r.val us m.rs := by
  unfold findMV findPM
  by_cases hx : x = 0
  · rw [if_pos hx, if_pos hx]; exact .inl ⟨rfl, rfl⟩
  · rw [if_neg hx, if_neg hx]
    exact find_both (P := fun p m => p.l = m.l ∧ FVb w base p.f.val m.fs ∧ ∃ us, Rls w base p.r.val us m.rs) (fun p => p.s == x) (fun m => m.src == x) vs ms h.len fun i p m h1 h2 => by
      obtain ⟨a, b, c⟩ := h.el i p m h1 h2
      exact ⟨by rw [b], a, c⟩
set_option maxHeartbeats 400000 in
theorem ufind_nil (x : Int) (w : World) :
    Calls Try.prog 43 #[.agg #[.slice none 0 0], .int .u8 x] w fun e w' => e = .returned (.tuple #[mvV zMV, .bool false]) ∧ Below w.heap.size w w' := by
  go_enter Try.func43, Try.ntmps43
  go_wp2
  refine wp_loop_rounds 1 ?_; rw [rounds_succ]
  go_wp2
  exact bodyPost_ret (v := .tuple #[mvV zMV, .bool false]) (by simp [results, Try.results43, go_sem, mvV, zMV]) rfl ⟨rfl, ((Below.refl _ _).alloc (Nat.le_refl _) _).alloc (by simp) _⟩
set_option maxHeartbeats 1000000 in
set_option maxRecDepth 20000 in
theorem ufind_row (x : Int) (g cap : Nat) (vs : List MV) (w : World) (hg : g < w.heap.size) (hm : vs.length ≤ 9223372036854775807) (hc : ∀ i, i < vs.length → MCell w g i (vs[i]?.getD zMV)) :
    Calls Try.prog 43 #[.agg #[.slice (some ⟨g, 0, none⟩) vs.length cap], .int .u8 x] w fun e w' => e = .returned (.tuple #[mvV ((findMV vs x).getD zMV), .bool (findMV vs x).isSome]) ∧ Below w.heap.size w w' := by
  obtain ⟨n, hn⟩ : ∃ n, n = vs.length := ⟨_, rfl⟩
  rw [← hn] at hm hc ⊢
  have HN : Hid (n = vs.length) := hn
  have HC : Hid (∀ i, i < n → MCell w g i (vs[i]?.getD zMV)) := hc
  obtain ⟨W, hW⟩ : ∃ W, W = (w.alloc (.cells #[.slice (some ⟨g, 0, none⟩) n cap] 82)).alloc (.cells #[.int .u8 0, .slice none 0 0, .int .u8 0, .slice none 0 0] 108) := ⟨_, rfl⟩
  have B0 : Below w.heap.size w W := by rw [hW]; exact ((Below.refl _ _).alloc (Nat.le_refl _) _).alloc (by simp) _
  have z0 : W.heap.size = w.heap.size + 1 + 1 := by rw [hW]; simp
  have y0 : W.cell? ⟨w.heap.size + 1, 0, none⟩ = some (.int .u8 0) := by rw [hW]; go_simp
  have y1 : W.cell? ⟨w.heap.size + 1, 1, none⟩ = some (.slice none 0 0) := by rw [hW]; go_simp
  have y2 : W.cell? ⟨w.heap.size + 1, 2, none⟩ = some (.int .u8 0) := by rw [hW]; go_simp
  have y3 : W.cell? ⟨w.heap.size + 1, 3, none⟩ = some (.slice none 0 0) := by rw [hW]; go_simp
  have yf : ∀ o, W.frozen? ⟨w.heap.size + 1, o, none⟩ = false := by intro o; rw [hW]; go_simp
  have HB0 : Hid (Below w.heap.size w W) := B0
  have HYF : Hid (∀ o, W.frozen? ⟨w.heap.size + 1, o, none⟩ = false) := yf
  clear hn hc B0 yf
  obtain ⟨bx, hbx⟩ : ∃ bx, (x != 0) = bx := ⟨_, rfl⟩
  go_enter Try.func43, Try.ntmps43
  go_wp2
  rw [← hW]
  clear hW
  go_loopw [11] (fun i wr => ∃ k : Nat, k ≤ n ∧ i = .int .i64 k ∧ Hid (x ≠ 0 → ∀ j, j < k → ¬ (vs[j]?.getD zMV).s = x) ∧ Below W.heap.size W wr) (fun i _ => n - (intOf i).toNat)
  case atStart => exact ⟨0, Nat.zero_le _, rfl, fun _ j hj => by omega, Below.refl _ _⟩
  case round =>
    obtain ⟨k, hk, rfl, hno, hb⟩ := hrel
    have u1 : w.heap.size + 1 < W.heap.size := by omega
    have r0 := (hb.cell (p := ⟨w.heap.size + 1, 0, none⟩) u1).trans y0
    have r1 := (hb.cell (p := ⟨w.heap.size + 1, 1, none⟩) u1).trans y1
    have r2 := (hb.cell (p := ⟨w.heap.size + 1, 2, none⟩) u1).trans y2
    have r3 := (hb.cell (p := ⟨w.heap.size + 1, 3, none⟩) u1).trans y3
    have rf0 := (hb.frozen (p := ⟨w.heap.size + 1, 0, none⟩) u1).trans (HYF.out 0)
    have rf1 := (hb.frozen (p := ⟨w.heap.size + 1, 1, none⟩) u1).trans (HYF.out 1)
    have rf2 := (hb.frozen (p := ⟨w.heap.size + 1, 2, none⟩) u1).trans (HYF.out 2)
    have rf3 := (hb.frozen (p := ⟨w.heap.size + 1, 3, none⟩) u1).trans (HYF.out 3)
    have hsz := hb.size
    have hsz1 : w.heap.size + 1 < wr.heap.size := by omega
    have hB : Below w.heap.size w wr := HB0.out.trans (hb.mono HB0.out.size)
    by_cases hlt : k < n
    · obtain ⟨c0, c1, c2, c3⟩ := (HC.out k hlt).below hB hg
      obtain ⟨p, hp⟩ : ∃ p, p = vs[k]?.getD zMV := ⟨_, rfl⟩
      have HPK : Hid (p = vs[k]?.getD zMV) := hp
      rw [← hp] at c0 c1 c2 c3
      clear hp
      have hgr : g < wr.heap.size := by omega
      obtain ⟨pl, ⟨pa, pn, pc⟩, ps, ⟨qa, qn, qc⟩⟩ := p
      simp only [] at c0 c1 c2 c3
      cases hps : ps == x with
      | false =>
        have HNO : Hid (x ≠ 0 → ∀ j, j < k + 1 → ¬ (vs[j]?.getD zMV).s = x) := fun hx => noM_step (hno.out hx) (by rw [← HPK.out]; exact hps)
        go_wp2
        go_roundw
        case rel => exact ⟨k + 1, by omega, by go_num, HNO, hb.alloc hsz _⟩
        case measure => simp [intOf]; omega
      | true =>
        cases bx with
        | false =>
          have HNO : Hid (x ≠ 0 → ∀ j, j < k + 1 → ¬ (vs[j]?.getD zMV).s = x) := fun hx => absurd (by simpa using hbx) hx
          go_wp2
          go_roundw
          case rel => exact ⟨k + 1, by omega, by go_num, HNO, hb.alloc hsz _⟩
          case measure => simp [intOf]; omega
        | true =>
          have HF : Hid (findMV vs x = some ⟨pl, ⟨pa, pn, pc⟩, ps, ⟨qa, qn, qc⟩⟩) := by
            show _ = _
            have := findMV_hit vs x k (by simpa using hbx) (by rw [← HN.out]; exact hlt) (hno.out (by simpa using hbx)) (by rw [← HPK.out]; exact hps)
            rw [← HPK.out] at this; exact this
          go_wp2
          refine bodyPost_ret (v := .tuple #[.agg #[.int .u8 pl, .slice pa pn pc, .int .u8 ps, .slice qa qn qc], .bool true]) (by simp [results, Try.results43, go_sem, r0, r1, r2, r3, hsz1]) rfl ⟨by rw [HF.out]; rfl, ?_⟩
          with_reducible repeat first | exact hB | (refine Below.setN ?_ (by omega) _) | (refine Below.alloc ?_ (by simp; omega) _)
    · have HF : Hid (findMV vs x = none) := by
        show _ = _
        by_cases hx : x = 0
        · unfold findMV; rw [if_pos hx]
        · exact findMV_none vs x fun j hj => hno.out hx j (by rw [← HN.out] at hj; omega)
      go_wp2
      refine bodyPost_ret (v := .tuple #[mvV zMV, .bool false]) (by simp [results, Try.results43, go_sem, r0, r1, r2, r3, mvV, zMV]) rfl ⟨by rw [HF.out]; rfl, ?_⟩
      with_reducible repeat first | exact hB | (refine Below.setN ?_ (by omega) _)
theorem ufind_any {w : World} {base : Nat} {v : Value} {vs : List MV} {ms : List PM} (h : Mks w base v vs ms) (x : Int) :
    Calls Try.prog 43 #[.agg #[v], .int .u8 x] w fun e w' => e = .returned (.tuple #[mvV ((findMV vs x).getD zMV), .bool (findMV vs x).isSome]) ∧ Below w.heap.size w w' := by
  rcases h.cells with ⟨rfl, rfl⟩ | ⟨g, cap, rfl, hg, hm, hc⟩
  · have e : findMV [] x = none := by unfold findMV; split <;> rfl
    rw [e]
    exact ufind_nil x w
  · exact ufind_row x g cap vs w hg (by unfold maxLen at hm; omega) hc
end Go.Proofs.Ytbgilndohccicab
namespace Go.Proofs.Ytbgilndohccicab
open Go.RowKit

set_option maxHeartbeats 400000 in
theorem wrapF_any (k v : Int) (w : World) :
    Calls Try.prog 40 #[.int .u8 k, .int .i64 v] w fun e w' => e = .returned (.int .i64 (wrK k v)) ∧ w' = w := by
  by_cases k1 : k = 98
  · have e : wrK k v = v % 256 := by unfold wrK; rw [if_pos k1]
    rw [e]; subst k1; clear e
    go_enter Try.func40, Try.ntmps40
    go_wp2
    go_ret
    exact ⟨rfl, rfl⟩
  by_cases k2 : k = 104
  · have e : wrK k v = (v + 32768) % 65536 - 32768 := by unfold wrK; rw [if_neg k1, if_pos k2]
    rw [e]; subst k2; clear e k1
    go_enter Try.func40, Try.ntmps40
    go_wp2
    go_ret
    exact ⟨ret_i64 (by rw [wrap_i16]; unfold wrap64; omega), rfl⟩
  by_cases k3 : k = 119
  · have e : wrK k v = (v + 2147483648) % 4294967296 - 2147483648 := by unfold wrK; rw [if_neg k1, if_neg k2, if_pos k3]
    rw [e]; subst k3; clear e k1 k2
    go_enter Try.func40, Try.ntmps40
    go_wp2
    go_ret
    exact ⟨ret_i64 (by unfold wrap64 wrap32; omega), rfl⟩
  · have e : wrK k v = v := by unfold wrK; rw [if_neg k1, if_neg k2, if_neg k3]
    have q1 : (k == 98) = false := by simpa using k1
    have q2 : (k == 104) = false := by simpa using k2
    have q3 : (k == 119) = false := by simpa using k3
    rw [e]; clear e
    go_enter Try.func40, Try.ntmps40
    go_wp2
    go_ret
    exact ⟨rfl, rfl⟩
/-- What a field becomes. -/
def kdM (m : PM) (x : Int) : Int := (m.fs[(idxF m.fs x).toNat]?.getD (0, 0)).2
def rlM (m : PM) (x : Int) : PR := m.rs[(idxF m.fs x).toNat]?.getD ⟨[], false⟩
def vlM (m : PM) (N : Nat → Int) (x : Int) : Int := top (evP N (rlM m x).ts [])
def numOf (m : PM) (N : Nat → Int) (x : Int) : Int × Int :=
  if idxF m.fs x < 0 then (0, 5) else if kdM m x = 114 then (0, 6)
  else if (rlM m x).ex = true ∧ wrK (kdM m x) (vlM m N x) ≠ vlM m N x then (0, 15) else (wrK (kdM m x) (vlM m N x), 0)
theorem TPb.drew {w : World} {base : Nat} {v : Value} {ts : List PT} (h : TPb w base v ts) : TPb w.drew base v ts := h
theorem Rls.cells {w : World} {base : Nat} {v : Value} {us : List (SV × Bool)} {rs : List PR} (h : Rls w base v us rs) {j : Nat} (hj : j < rs.length) :
    ∃ (g cap : Nat) (u : SV) (r : PR), v = .slice (some ⟨g, 0, none⟩) rs.length cap ∧ g < w.heap.size ∧ rs[j]? = some r ∧ w.cell? ⟨g, j * 2, none⟩ = some (.slice u.a u.n u.c) ∧ w.cell? ⟨g, j * 2 + 1, none⟩ = some (.bool r.ex) ∧ TPb w base u.val r.ts := by
  have h' := h.row
  unfold flatRl at h'
  have hl := h.len
  rcases h.row.2 with ⟨rfl, hn⟩ | ⟨g, cap, cur, rfl, _, hg, h1, h2, _⟩
  · omega
  · have hu : us[j]? = some (us[j]'(by omega)) := List.getElem?_eq_getElem (by omega)
    have hr : rs[j]? = some (rs[j]'hj) := List.getElem?_eq_getElem hj
    obtain ⟨e1, e2⟩ := h.el j _ _ hu hr
    refine ⟨g, cap, _, _, by rw [hl], (World.ownsRow.lt h' g rfl).2, hr, by simpa using row_cell h' (fun _ => rfl) (j := 0) hu rfl, ?_, e2⟩
    rw [← e1]; exact row_cell h' (fun _ => rfl) (j := 1) hu rfl
set_option maxHeartbeats 2000000 in
set_option maxRecDepth 20000 in
theorem number_m {p : MV} {m : PM} {us : List (SV × Bool)} {base : Nat} {w : World} (hF : FV w p.f.val m.fs) (hR : Rls w base p.r.val us m.rs) (hlen : m.rs.length = m.fs.length) (hts : ∀ r ∈ m.rs, r.ts.length ≤ 900) (N : Nat → Int) (x : Int) :
    Calls Try.prog 44 #[mvV p, .int .u8 x, numV N] w fun e w' => e = .returned (.tuple #[.int .i64 (numOf m N x).1, .int .i64 (numOf m N x).2]) ∧ Below w.heap.size w w' := by
  obtain ⟨pl, ⟨fa, fn, fc⟩, ps, ⟨ra, rn, rc⟩⟩ := p
  simp only [SV.val] at hF hR
  obtain ⟨ix, hix⟩ : ∃ ix, idxF m.fs x = ix := ⟨_, rfl⟩
  obtain ⟨A, hA⟩ : ∃ A, numOf m N x = A := ⟨_, rfl⟩
  rw [hA]
  have CR := fun (W : World) (ex : Bool) (u : SV) (r : PR) (hr : r ∈ m.rs) (h : TPb W base u.val r.ts) => reckon_any ex N h (hts r hr)
  unfold numV at CR ⊢
  unfold mvV
  simp only []
  obtain ⟨W, hW⟩ : ∃ W, W = (w.alloc (.cells #[.int .u8 pl, .slice fa fn fc, .int .u8 ps, .slice ra rn rc] 108)).alloc (.cells #[.int .i64 (N 0), .int .i64 (N 1), .int .i64 (N 2), .int .i64 (N 3), .int .i64 (N 4), .int .i64 (N 5)] 75) := ⟨_, rfl⟩
  have B0 : Below w.heap.size w W := by rw [hW]; exact ((Below.refl _ _).alloc (Nat.le_refl _) _).alloc (by simp) _
  have z0 : W.heap.size = w.heap.size + 1 + 1 := by rw [hW]; simp
  have y0 : W.cell? ⟨w.heap.size, 0, none⟩ = some (.int .u8 pl) := by rw [hW]; go_simp
  have y1 : W.cell? ⟨w.heap.size, 1, none⟩ = some (.slice fa fn fc) := by rw [hW]; go_simp
  have y3 : W.cell? ⟨w.heap.size, 3, none⟩ = some (.slice ra rn rc) := by rw [hW]; go_simp
  have n0 : W.cell? ⟨w.heap.size + 1, 0, none⟩ = some (.int .i64 (N 0)) := by rw [hW]; go_simp
  have n1 : W.cell? ⟨w.heap.size + 1, 1, none⟩ = some (.int .i64 (N 1)) := by rw [hW]; go_simp
  have n2 : W.cell? ⟨w.heap.size + 1, 2, none⟩ = some (.int .i64 (N 2)) := by rw [hW]; go_simp
  have n3 : W.cell? ⟨w.heap.size + 1, 3, none⟩ = some (.int .i64 (N 3)) := by rw [hW]; go_simp
  have n4 : W.cell? ⟨w.heap.size + 1, 4, none⟩ = some (.int .i64 (N 4)) := by rw [hW]; go_simp
  have n5 : W.cell? ⟨w.heap.size + 1, 5, none⟩ = some (.int .i64 (N 5)) := by rw [hW]; go_simp
  have u0 : w.heap.size < W.heap.size := by omega
  have u1 : w.heap.size + 1 < W.heap.size := by omega
  have CI := index_rs (L := pl) (x := x) (hF.below B0) ix hix
  by_cases h0 : ix < 0
  · have HA : Hid (A = (0, 5)) := by show A = _; rw [← hA]; unfold numOf; rw [hix, if_pos h0]
    clear hA CR hF hR hix
    go_enter Try.func44, Try.ntmps44
    go_wp2_with fail
    rw [← hW]
    clear hW
    go_wp2_with fail
    refine CI.mono ?_
    rintro e w1 ⟨rfl, B1⟩
    clear CI
    go_wp2
    go_ret2
    rw [HA.out]
    exact ⟨rfl, B0.trans (B1.mono B0.size)⟩
  · have hlt := idxF_ltU m.fs x
    rw [hix] at hlt
    obtain ⟨j, rfl⟩ := Int.eq_ofNat_of_zero_le (by omega : 0 ≤ ix)
    have hj : j < m.fs.length := by omega
    obtain ⟨g, cap, hgf, hg, hm, hcc⟩ : ∃ g cap, Value.slice fa fn fc = .slice (some ⟨g, 0, none⟩) m.fs.length cap ∧ g < w.heap.size ∧ m.fs.length ≤ maxLen ∧ (∀ i, i < m.fs.length → w.cell? ⟨g, i * 2, none⟩ = some (.int .u8 (m.fs[i]?.getD (0, 0)).1) ∧ w.cell? ⟨g, i * 2 + 1, none⟩ = some (.int .u8 (m.fs[i]?.getD (0, 0)).2)) := by
      rcases hF.shape with ⟨_, h⟩ | h
      · rw [h] at hj; simp at hj
      · exact h
    obtain ⟨gr, rcap, u, r, hgr, hgr2, hr, k0, k1, T0⟩ := hR.cells (j := j) (by omega)
    have hkd := (hcc j hj).2
    obtain ⟨kd, hkd0⟩ : ∃ kd, (m.fs[j]?.getD (0, 0)).2 = kd := ⟨_, rfl⟩
    rw [hkd0] at hkd
    simp only [Value.slice.injEq] at hgf hgr
    obtain ⟨rfl, rfl, rfl⟩ := hgf
    obtain ⟨rfl, rfl, rfl⟩ := hgr
    have ek : kdM m x = kd := by unfold kdM; rw [hix]; exact hkd0
    have er : rlM m x = r := by unfold rlM; rw [hix]; show m.rs[j]?.getD _ = _; rw [hr]; rfl
    obtain ⟨v, hv⟩ : ∃ v, vlM m N x = v := ⟨_, rfl⟩
    have hv' : top (evP N r.ts []) = v := by rw [← hv]; unfold vlM; rw [er]
    have hA' : (if kd = 114 then (0, 6) else if r.ex = true ∧ wrK kd v ≠ v then (0, 15) else (wrK kd v, 0)) = A := by
      rw [← hA]; unfold numOf; rw [hix, if_neg h0, ek, er, hv]
    have hmem : r ∈ m.rs := List.mem_of_getElem? hr
    have CR' := fun (W : World) (h : TPb W base u.val r.ts) => CR W r.ex u r hmem h
    rw [hv'] at CR'
    have hlen' : m.rs.length = m.fs.length := hlen
    obtain ⟨n, hn⟩ : ∃ n, m.fs.length = n := ⟨_, rfl⟩
    rw [hlen'] at y3 hW ⊢
    rw [hn] at y1 y3 hW CI hj hm ⊢
    have hmx : n ≤ 9223372036854775807 := by unfold maxLen at hm; omega
    have HT0 : Hid (TPb w base u.val r.ts) := T0
    obtain ⟨ua, un, uc⟩ := u
    simp only [SV.val] at k0 CR'
    have HT : Hid (TPb w base (.slice ua un uc) r.ts) := HT0
    obtain ⟨ex, hex⟩ : ∃ ex, r.ex = ex := ⟨_, rfl⟩
    obtain ⟨ts, hts0⟩ : ∃ ts, r.ts = ts := ⟨_, rfl⟩
    rw [hex] at k1 hA' CR'
    rw [hts0] at CR' HT
    have HA' : Hid ((if kd = 114 then (0, 6) else if ex = true ∧ wrK kd v ≠ v then (0, 15) else (wrK kd v, 0)) = A) := hA'
    clear hA hA' hv hv' ek er hr hmem CR hts hF hR hcc hkd0 hix hlt T0 HT0 hex hts0 hlen hlen' hn hm
    have hjn : (j : Int) < (n : Int) := by omega
    go_enter Try.func44, Try.ntmps44
    go_wp2_with fail
    rw [← hW]
    clear hW
    go_wp2_with fail
    refine CI.mono ?_
    rintro e w1 ⟨rfl, B1⟩
    clear CI
    have BW1 : Below w.heap.size w w1 := B0.trans (B1.mono B0.size)
    have s1 := B1.size
    have a1 := (B1.cell (p := ⟨w.heap.size, 1, none⟩) u0).trans y1
    have a3 := (B1.cell (p := ⟨w.heap.size, 3, none⟩) u0).trans y3
    have m0 := (B1.cell (p := ⟨w.heap.size + 1, 0, none⟩) u1).trans n0
    have m1 := (B1.cell (p := ⟨w.heap.size + 1, 1, none⟩) u1).trans n1
    have m2 := (B1.cell (p := ⟨w.heap.size + 1, 2, none⟩) u1).trans n2
    have m3 := (B1.cell (p := ⟨w.heap.size + 1, 3, none⟩) u1).trans n3
    have m4 := (B1.cell (p := ⟨w.heap.size + 1, 4, none⟩) u1).trans n4
    have m5 := (B1.cell (p := ⟨w.heap.size + 1, 5, none⟩) u1).trans n5
    have f1 := (BW1.cell (p := ⟨g, j * 2 + 1, none⟩) hg).trans hkd
    have r0 := (BW1.cell (p := ⟨gr, j * 2, none⟩) hgr2).trans k0
    have r1 := (BW1.cell (p := ⟨gr, j * 2 + 1, none⟩) hgr2).trans k1
    have t0 : w.heap.size < w1.heap.size := by omega
    have t1 : w.heap.size + 1 < w1.heap.size := by omega
    have t2 : g < w1.heap.size := by omega
    have t3 : gr < w1.heap.size := by omega
    clear y0 y1 y3 n0 n1 n2 n3 n4 n5 hkd k0 k1
    by_cases h114 : kd = 114
    · have HA : Hid (A = (0, 6)) := by show A = _; rw [← HA'.out, if_pos h114]
      subst h114
      clear CR'
      go_wp2
      go_ret2
      rw [HA.out]
      exact ⟨rfl, BW1⟩
    · have HA : Hid ((if ex = true ∧ wrK kd v ≠ v then (0, 15) else (wrK kd v, 0)) = A) := by show _ = A; rw [← HA'.out, if_neg h114]
      have e114 : (kd == 114) = false := by simp [h114]
      have C := CR' w1.drew (TPb.drew (World.ownsRow.kept HT.out (gb_below (BW1.mono (Nat.le_refl _)) none) (by cases hv : (Value.slice ua un uc).ownBlock <;> simp)))
      clear h114 CR' HA'
      go_wp2
      go_region_with (go_at_call 72; refine C.mono ?_; rintro e w2 ⟨rfl, B2⟩)
      all_goals
        have B3 : Below w1.heap.size w1 w2 := (Below.refl _ w1).drew.trans B2
        have BW3 : Below w.heap.size w w2 := BW1.trans (B3.mono BW1.size)
        have s3 := B3.size
        have b3 := (B3.cell (p := ⟨w.heap.size, 3, none⟩) t0).trans a3
        have q1 := (B3.cell (p := ⟨gr, j * 2 + 1, none⟩) t3).trans r1
        have t4 : w.heap.size < w2.heap.size := by omega
        have t5 : gr < w2.heap.size := by omega
        have CW := wrapF_any kd v w2
        obtain ⟨wv, hwv⟩ : ∃ wv, wrK kd v = wv := ⟨_, rfl⟩
        rw [hwv] at CW HA
        clear C B2 B3 a1 a3 m0 m1 m2 m3 m4 m5 f1 r0 r1
        go_wp2_with fail
        refine CW.mono ?_
        rintro e w2' ⟨rfl, rfl⟩
        clear CW
        cases ex with
        | false =>
          have HA2 : Hid ((wv, 0) = A) := by have := HA.out; rw [if_neg (by simp)] at this; exact this
          go_wp2
          go_ret2
          rw [← HA2.out]
          exact ⟨rfl, BW3⟩
        | true =>
          by_cases hne : wv = v
          · have HA2 : Hid ((wv, 0) = A) := by have := HA.out; rw [if_neg (by simp [hne])] at this; exact this
            have e1 : (wv != v) = false := by simp [hne]
            clear hne
            go_wp2
            go_ret2
            rw [← HA2.out]
            exact ⟨rfl, BW3⟩
          · have HA2 : Hid ((0, 15) = A) := by have := HA.out; rw [if_pos ⟨rfl, hne⟩] at this; exact this
            have e1 : (wv != v) = true := by simp [hne]
            clear hne
            go_wp2
            go_ret2
            rw [← HA2.out]
            exact ⟨rfl, BW3⟩
end Go.Proofs.Ytbgilndohccicab
