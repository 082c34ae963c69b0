import Derived.Test.YtbgilndohccicabMz31
namespace Go.Proofs.Ytbgilndohccicab
open Go.RowKit

/-- A term of a rule, a rule, a making, as the program has them. -/
structure PT where
  w : Int
  v : Int
  i : Int
structure PR where
  ts : List PT
  ex : Bool
structure PM where
  l : Int
  fs : List (Int × Int)
  src : Int
  rs : List PR
def flatP : List PT → List Value
  | [] => []
  | t :: r => .int .u8 t.w :: .int .i64 t.v :: .int .i64 t.i :: flatP r
theorem flatP_app (a b : List PT) : flatP (a ++ b) = flatP a ++ flatP b := by
  induction a with
  | nil => rfl
  | cons p r ih => simp only [List.cons_append, flatP, ih]
def TPb (w : World) (base : Nat) (v : Value) (ts : List PT) : Prop := w.ownsRow base 172 3 v ts.length (flatP ts)
theorem TPb.shape {w : World} {base : Nat} {v : Value} {ts : List PT} (h : TPb w base v ts) : ∃ a c, v = .slice a ts.length c := by
  rcases h.2 with ⟨rfl, hn⟩ | ⟨g, cap, cur, rfl, _⟩
  · exact ⟨none, 0, by rw [hn]⟩
  · exact ⟨_, _, rfl⟩
theorem TPb.nil (w : World) (base : Nat) : TPb w base (.slice none 0 0) [] := World.ownsRow_nil _ _ _ _
theorem TPb.mono {w : World} {base base' : Nat} {v : Value} {ts : List PT} (h : TPb w base v ts) (hb : base' ≤ base) : TPb w base' v ts := row_mono h hb
theorem TPb.kept {w w' : World} {base b : Nat} {v : Value} {ts : List PT} (h : TPb w base v ts) (g : w.grownBy w' (some b)) (hb : b < base) : TPb w' base v ts := row_kept h g hb
theorem TPb.below {w w' : World} {base : Nat} {v : Value} {ts : List PT} (h : TPb w base v ts) (hb : Below w.heap.size w w') : TPb w' base v ts := World.ownsRow.kept h (gb_below hb none) (by cases hv : v.ownBlock <;> simp)
theorem TPb.one (w : World) (base : Nat) (t : PT) (hb : base ≤ w.heap.size) : TPb (w.alloc (.cells #[.int .u8 t.w, .int .i64 t.v, .int .i64 t.i] 172)) base (.slice (some ⟨w.heap.size, 0, none⟩) 1 1) [t] :=
  ⟨rfl, .inr ⟨w.heap.size, 1, #[.int .u8 t.w, .int .i64 t.v, .int .i64 t.i], rfl, hb, by show (w.heap.push _)[w.heap.size]? = _; exact Array.getElem?_push_size, Nat.le_refl _, by decide, rfl, rfl⟩⟩
theorem TPb.one' {w : World} {base b : Nat} {t : PT} (e : w.heap.size = b) (hb : base ≤ b) : TPb (w.alloc (.cells #[.int .u8 t.w, .int .i64 t.v, .int .i64 t.i] 172)) base (.slice (some ⟨b, 0, none⟩) 1 1) [t] := by
  subst e; exact TPb.one w base t hb
theorem Try.infoUTerm : (Try.prog.info? 172).map (fun i => (i.zero, i.size, i.bytes)) = some (some (.agg #[.int .u8 0, .int .i64 0, .int .i64 0]), 3, 24) := by kernel_rfl
def ptOf (fs : List (Int × Int)) (t : GT) : PT := ⟨t.w, t.v, idxF fs t.w⟩
def prNo (fs : List (Int × Int)) (f : GFd) : PR := if (kdF fs f.l).2 = false ∨ ((kdF fs f.l).1 == 114) ≠ (f.k == 114) then ⟨[], false⟩ else ⟨[⟨f.l, 0, idxF fs f.l⟩], false⟩
def prOf (fs : List (Int × Int)) (f : GFd) : PR := if f.ts.length = 0 then prNo fs f else ⟨f.ts.map (ptOf fs), f.ex⟩
def PRPost (R : PR) (w : World) (e : Ending) (w' : World) : Prop := ∃ (a : Option Addr) (n c : Nat),
  e = .returned (.agg #[.slice a n c, .bool R.ex]) ∧ TPb w' w.heap.size (.slice a n c) R.ts ∧ Below w.heap.size w w'
theorem index_rs {L x : Int} {v : Value} {fs : List (Int × Int)} {w : World} (h : FV w v fs) (y : Int) (hy : idxF fs x = y) :
    Calls Try.prog 71 #[.agg #[.int .u8 L, v], .int .u8 x] w fun e w' => e = .returned (.int .i64 y) ∧ Below w.heap.size w w' := by
  subst hy; exact index_any L x v fs w h
set_option maxHeartbeats 1000000 in
set_option maxRecDepth 20000 in
theorem ruleNo_any (L : Int) (a : Option Addr) (n c : Nat) (fs : List (Int × Int)) (fl fp fk : Int) (ta : Option Addr) (tn tc : Nat) (sp : Int) (ex : Bool) (f : GFd) (w : World) (hV : FV w (.slice a n c) fs) (hl : fl = f.l) (hk : fk = f.k) :
    Calls Try.prog 101 #[.agg #[.int .u8 L, .slice a n c], .agg #[.int .u8 fl, .int .i64 fp, .int .u8 fk, .slice ta tn tc, .int .i64 sp, .bool ex]] w (PRPost (prNo fs f) w) := by
  subst hl hk
  obtain ⟨W, hW⟩ : ∃ W, W = ((w.alloc (.cells #[.int .u8 L, .slice a n c] 88)).alloc (.cells #[.int .u8 f.l, .int .i64 fp, .int .u8 f.k, .slice ta tn tc, .int .i64 sp, .bool ex] 162)).alloc (.cells #[.slice none 0 0, .bool false] 143) := ⟨_, rfl⟩
  have B0 : Below w.heap.size w W := by rw [hW]; exact (((Below.refl _ _).alloc (Nat.le_refl _) _).alloc (by simp) _).alloc (by simp; omega) _
  have z0 : W.heap.size = w.heap.size + 3 := by rw [hW]; simp
  obtain ⟨kd, kn, hkd⟩ : ∃ kd kn, kdF fs f.l = (kd, kn) := ⟨_, _, rfl⟩
  obtain ⟨ix, hix⟩ : ∃ ix, idxF fs f.l = ix := ⟨_, rfl⟩
  obtain ⟨R, hR⟩ : ∃ R, R = prNo fs f := ⟨_, rfl⟩
  rw [← hR]
  unfold prNo at hR
  rw [hkd, hix] at hR
  simp only [] at hR
  have C1 := kindOf_rs (L := L) (x := f.l) (hV.below B0) kd kn hkd
  have C2 := fun W2 (hb : Below w.heap.size w W2) => index_rs (L := L) (x := f.l) (hV.below hb) ix hix
  have y0 : W.cell? ⟨w.heap.size, 0, none⟩ = some (.int .u8 L) := by rw [hW]; go_simp
  have y1 : W.cell? ⟨w.heap.size, 1, none⟩ = some (.slice a n c) := by rw [hW]; go_simp
  have y2 : W.cell? ⟨w.heap.size + 1, 2, none⟩ = some (.int .u8 f.k) := by rw [hW]; go_simp
  have y3 : W.cell? ⟨w.heap.size + 2, 0, none⟩ = some (.slice none 0 0) := by rw [hW]; go_simp
  have y4 : W.cell? ⟨w.heap.size + 2, 1, none⟩ = some (.bool false) := by rw [hW]; go_simp
  have y5 : W.frozen? ⟨w.heap.size + 2, 0, none⟩ = false := by rw [hW]; go_simp
  have y6 : W.frozen? ⟨w.heap.size + 2, 1, none⟩ = false := by rw [hW]; go_simp
  have y7 : W.cell? ⟨w.heap.size + 1, 0, none⟩ = some (.int .u8 f.l) := by rw [hW]; go_simp
  have HR : Hid (R = if kn = false ∨ (kd == 114) ≠ (f.k == 114) then ⟨[], false⟩ else ⟨[⟨f.l, 0, ix⟩], false⟩) := hR
  clear hkd hix hR hV
  go_enter Try.func101, Try.ntmps101
  go_wp2_with fail
  rw [← hW]
  clear hW
  go_wp2_with fail
  refine C1.mono ?_
  rintro e w1 ⟨rfl, B1⟩
  have hz1 : w.heap.size + 3 ≤ w1.heap.size := by have := B1.size; omega
  have x0 : w1.cell? ⟨w.heap.size, 0, none⟩ = some (.int .u8 L) := (B1.cell (p := ⟨w.heap.size, 0, none⟩) (by show w.heap.size < _; omega)).trans y0
  have x1 : w1.cell? ⟨w.heap.size, 1, none⟩ = some (.slice a n c) := (B1.cell (p := ⟨w.heap.size, 1, none⟩) (by show w.heap.size < _; omega)).trans y1
  have x2 : w1.cell? ⟨w.heap.size + 1, 2, none⟩ = some (.int .u8 f.k) := (B1.cell (p := ⟨w.heap.size + 1, 2, none⟩) (by show w.heap.size + 1 < _; omega)).trans y2
  have x3 : w1.cell? ⟨w.heap.size + 2, 0, none⟩ = some (.slice none 0 0) := (B1.cell (p := ⟨w.heap.size + 2, 0, none⟩) (by show w.heap.size + 2 < _; omega)).trans y3
  have x4 : w1.cell? ⟨w.heap.size + 2, 1, none⟩ = some (.bool false) := (B1.cell (p := ⟨w.heap.size + 2, 1, none⟩) (by show w.heap.size + 2 < _; omega)).trans y4
  have x5 : w1.frozen? ⟨w.heap.size + 2, 0, none⟩ = false := (B1.frozen (p := ⟨w.heap.size + 2, 0, none⟩) (by show w.heap.size + 2 < _; omega)).trans y5
  have x6 : w1.frozen? ⟨w.heap.size + 2, 1, none⟩ = false := (B1.frozen (p := ⟨w.heap.size + 2, 1, none⟩) (by show w.heap.size + 2 < _; omega)).trans y6
  have BB : Below w.heap.size w w1 := B0.trans (B1.mono B0.size)
  have D := C2 w1 BB
  clear y0 y1 y2 y3 y4 y5 y6 y7 C1 C2 B1 B0 z0
  by_cases h1 : kn = false ∨ (kd == 114) ≠ (f.k == 114)
  · have HE : Hid (R = ⟨[], false⟩) := by show R = _; rw [HR.out, if_pos h1]
    have fin : ∀ w2 : World, Below w.heap.size w w2 → PRPost R w (.returned (.agg #[.slice none 0 0, .bool false])) w2 := fun w2 hb => by
      rw [HE.out]; exact ⟨none, 0, 0, rfl, TPb.nil _ _, hb⟩
    clear HR D
    cases kn with
    | false =>
      clear h1
      go_wp2
      refine bodyPost_ret (v := .agg #[.slice none 0 0, .bool false]) (by simp [results, Try.results101, go_sem, x3, x4]) rfl (fin _ ?_)
      with_reducible repeat first | exact BB | apply Below.drew | (refine Below.setCell ?_ (by show _ ≤ w.heap.size + 2; omega) _)
    | true =>
      have h2 : (kd == 114) ≠ (f.k == 114) := by simpa using h1
      clear h1
      generalize ek : (kd == 114) = p at h2
      generalize ef : (f.k == 114) = q at h2
      have e3 : (p == q) = false := by simpa using h2
      clear h2
      go_wp2
      refine bodyPost_ret (v := .agg #[.slice none 0 0, .bool false]) (by simp [results, Try.results101, go_sem, x3, x4]) rfl (fin _ ?_)
      with_reducible repeat first | exact BB | apply Below.drew | (refine Below.setCell ?_ (by show _ ≤ w.heap.size + 2; omega) _)
  · have HE : Hid (R = ⟨[⟨f.l, 0, ix⟩], false⟩) := by show R = _; rw [HR.out, if_neg h1]
    have h2 : kn = true := by cases kn with
      | true => rfl
      | false => exact absurd (.inl rfl) h1
    have h3 : (kd == 114) = (f.k == 114) := by
      apply Classical.byContradiction; intro h; exact h1 (.inr h)
    subst h2
    clear h1 HR
    generalize ek : (kd == 114) = p at h3
    generalize ef : (f.k == 114) = q at h3
    have e3 : (p == q) = true := by simpa using h3
    clear h3
    go_wp2_with fail
    refine D.mono ?_
    rintro e w2 ⟨rfl, B2⟩
    have hz2 : w.heap.size + 3 ≤ w2.heap.size := by have := B2.size; omega
    have u3 : w2.cell? ⟨w.heap.size + 2, 0, none⟩ = some (.slice none 0 0) := (B2.cell (p := ⟨w.heap.size + 2, 0, none⟩) (by show w.heap.size + 2 < _; omega)).trans x3
    have u4 : w2.cell? ⟨w.heap.size + 2, 1, none⟩ = some (.bool false) := (B2.cell (p := ⟨w.heap.size + 2, 1, none⟩) (by show w.heap.size + 2 < _; omega)).trans x4
    have u5 : w2.frozen? ⟨w.heap.size + 2, 0, none⟩ = false := (B2.frozen (p := ⟨w.heap.size + 2, 0, none⟩) (by show w.heap.size + 2 < _; omega)).trans x5
    have u6 : w2.frozen? ⟨w.heap.size + 2, 1, none⟩ = false := (B2.frozen (p := ⟨w.heap.size + 2, 1, none⟩) (by show w.heap.size + 2 < _; omega)).trans x6
    have BB2 : Below w.heap.size w w2 := BB.trans (B2.mono BB.size)
    have hq2 : w.heap.size + 1 + 1 < w2.heap.size := by omega
    clear x0 x1 x2 x3 x4 x5 x6 D B2 BB
    go_wp2
    refine bodyPost_ret (v := .agg #[.slice (some ⟨w2.heap.size, 0, none⟩) 1 1, .bool false]) (by
      have m0 : (((w2.setCell ⟨w.heap.size + 1 + 1, 0, none⟩ (.slice (some ⟨w2.heap.size, 0, none⟩) 1 1)).setCell ⟨w.heap.size + 1 + 1, 1, none⟩ (.bool false)).alloc (.cells #[.int .u8 f.l, .int .i64 0, .int .i64 ix] 172)).cell? ⟨w.heap.size + 1 + 1, 0, none⟩ = some (.slice (some ⟨w2.heap.size, 0, none⟩) 1 1) := by go_simp
      have m1 : (((w2.setCell ⟨w.heap.size + 1 + 1, 0, none⟩ (.slice (some ⟨w2.heap.size, 0, none⟩) 1 1)).setCell ⟨w.heap.size + 1 + 1, 1, none⟩ (.bool false)).alloc (.cells #[.int .u8 f.l, .int .i64 0, .int .i64 ix] 172)).cell? ⟨w.heap.size + 1 + 1, 1, none⟩ = some (.bool false) := by go_simp
      simp [results, Try.results101, go_sem, m0, m1]) rfl ?_
    rw [HE.out]
    refine ⟨_, _, _, rfl, ?_, ?_⟩
    · exact TPb.one' (t := ⟨f.l, 0, ix⟩) (by simp) (by omega)
    · exact ((BB2.setCell (by show _ ≤ w.heap.size + 1 + 1; omega) _).setCell (by show _ ≤ w.heap.size + 1 + 1; omega) _).alloc (by simp; omega) _
end Go.Proofs.Ytbgilndohccicab
namespace Go.Proofs.Ytbgilndohccicab
open Go.RowKit

theorem cell_tri1 (w1 : World) (x y z : Value) (T : TypeId) : ∀ (j : Nat) (u : Value), [x, y, z][j]? = some u → (w1.alloc (.cells #[x, y, z] T)).cell? ((⟨w1.heap.size, 0, none⟩ : Addr).add j) = some u := by
  intro j u hj
  match j, hj with
  | 0, hj => simp at hj; subst hj; simp [Addr.add]
  | 1, hj => simp at hj; subst hj; simp [Addr.add]
  | 2, hj => simp at hj; subst hj; simp [Addr.add]
set_option maxHeartbeats 2000000 in
set_option maxRecDepth 20000 in
theorem ruleOf_row (L : Int) (a : Option Addr) (n c : Nat) (fs : List (Int × Int)) (fl fp fk : Int) (tg tcap m : Nat) (sp : Int) (ex : Bool) (ts : List GT) (w : World) (hV : FV w (.slice a n c) fs) (hm : m = ts.length) (hm0 : 0 < m) (hmx : m ≤ 1000) (hg : tg < w.heap.size) (hc : ∀ i, i < m → TCell w tg i (ts[i]?.getD zT)) :
    Calls Try.prog 95 #[.agg #[.int .u8 L, .slice a n c], .agg #[.int .u8 fl, .int .i64 fp, .int .u8 fk, .slice (some ⟨tg, 0, none⟩) m tcap, .int .i64 sp, .bool ex]] w (PRPost ⟨ts.map (ptOf fs), ex⟩ w) := by
  obtain ⟨iT, hiT, hzT0, hzT1, hzT2⟩ := infoParts2 Try.infoUTerm
  have HM : Hid (m = ts.length) := hm
  have HC : Hid (∀ i, i < m → TCell w tg i (ts[i]?.getD zT)) := hc
  have HV : Hid (FV w (.slice a n c) fs) := hV
  unfold PRPost
  simp only []
  obtain ⟨W, hW⟩ : ∃ W, W = ((w.alloc (.cells #[.int .u8 L, .slice a n c] 88)).alloc (.cells #[.int .u8 fl, .int .i64 fp, .int .u8 fk, .slice (some ⟨tg, 0, none⟩) m tcap, .int .i64 sp, .bool ex] 162)).alloc (.cells #[.slice none 0 0, .bool false] 143) := ⟨_, rfl⟩
  have B0 : Below w.heap.size w W := by rw [hW]; exact (((Below.refl _ _).alloc (Nat.le_refl _) _).alloc (by simp) _).alloc (by simp; omega) _
  have z0 : W.heap.size = w.heap.size + 1 + 1 + 1 := by rw [hW]; simp
  have y0 : W.cell? ⟨w.heap.size, 0, none⟩ = some (.int .u8 L) := by rw [hW]; go_simp
  have y1 : W.cell? ⟨w.heap.size, 1, none⟩ = some (.slice a n c) := by rw [hW]; go_simp
  have y2 : W.cell? ⟨w.heap.size + 1, 3, none⟩ = some (.slice (some ⟨tg, 0, none⟩) m tcap) := by rw [hW]; go_simp
  have y7 : W.cell? ⟨w.heap.size + 1, 5, none⟩ = some (.bool ex) := by rw [hW]; go_simp
  have y3 : W.cell? ⟨w.heap.size + 1 + 1, 0, none⟩ = some (.slice none 0 0) := by rw [hW]; go_simp
  have y4 : W.cell? ⟨w.heap.size + 1 + 1, 1, none⟩ = some (.bool false) := by rw [hW]; go_simp
  have y5 : W.frozen? ⟨w.heap.size + 1 + 1, 0, none⟩ = false := by rw [hW]; go_simp
  have y6 : W.frozen? ⟨w.heap.size + 1 + 1, 1, none⟩ = false := by rw [hW]; go_simp
  have hm0' : ((m : Int) == 0) = false := by simp; omega
  clear hm hc hV
  go_enter Try.func95, Try.ntmps95
  go_wp2_with fail
  rw [← hW]
  clear hW
  have e0 : W.heap.size = w.heap.size + 3 := by omega
  have u0 : w.heap.size < W.heap.size := by omega
  have u1 : w.heap.size + 1 < W.heap.size := by omega
  have u2 : w.heap.size + 1 + 1 < W.heap.size := by omega
  clear z0
  go_wp2
  go_loopw [25] (fun i wi => ∃ (j : Nat) (fv : Value), j ≤ m ∧ i = .int .i64 j ∧ TPb wi (w.heap.size + 4) fv ((ts.map (ptOf fs)).take j) ∧ wi.cell? ⟨w.heap.size + 1 + 1 + 1, 0, none⟩ = some fv ∧ wi.cell? ⟨w.heap.size + 1 + 1 + 1, 1, none⟩ = some (.bool ex) ∧ wi.frozen? ⟨w.heap.size + 1 + 1 + 1, 0, none⟩ = false ∧ w.heap.size + 1 + 1 + 1 < wi.heap.size ∧ Below W.heap.size W wi) (fun i _ => m - (intOf i).toNat)
  case atStart => exact ⟨0, .slice none 0 0, Nat.zero_le _, rfl, TPb.nil _ _, by go_simp, by go_simp, by go_simp, by simp; omega, (Below.refl _ _).alloc (Nat.le_refl _) _⟩
  case round =>
    obtain ⟨j, fv, hj, rfl, F, d0, d1, df0, hsz, hb⟩ := hrel
    have hfl : ((ts.map (ptOf fs)).take j).length = j := by rw [List.length_take, List.length_map, ← HM.out]; omega
    obtain ⟨fa, fc, hfv⟩ := F.shape
    rw [hfl] at hfv
    subst hfv
    have HFL : Hid (((ts.map (ptOf fs)).take j).length = j) := hfl
    have HF : Hid (TPb wr (w.heap.size + 4) (.slice fa j fc) ((ts.map (ptOf fs)).take j)) := F
    have hB : Below w.heap.size w wr := B0.trans (hb.mono B0.size)
    clear hfl F
    by_cases hjl : j < m
    · obtain ⟨t, ht⟩ : ∃ t, t = ts[j]?.getD zT := ⟨_, rfl⟩
      have htk : ts[j]? = some t := by rw [ht]; exact getD_of (by rw [← HM.out]; exact hjl) zT
      obtain ⟨x0, x1, x2⟩ := (HC.out j hjl).below hB hg
      rw [← ht] at x0 x1 x2
      obtain ⟨ix, hix⟩ : ∃ ix, idxF fs t.w = ix := ⟨_, rfl⟩
      have HST : Hid ((ts.map (ptOf fs)).take (j + 1) = (ts.map (ptOf fs)).take j ++ [⟨t.w, t.v, ix⟩]) := by
        show _ = _; rw [take_step (ptOf fs) htk, ptOf, hix]
      have p0 : wr.cell? ⟨w.heap.size, 0, none⟩ = some (.int .u8 L) := (hb.cell (p := ⟨w.heap.size, 0, none⟩) u0).trans y0
      have p1 : wr.cell? ⟨w.heap.size, 1, none⟩ = some (.slice a n c) := (hb.cell (p := ⟨w.heap.size, 1, none⟩) u0).trans y1
      have v0 : w.heap.size < wr.heap.size := by omega
      have hgr : tg < wr.heap.size := by omega
      have hBa : Below w.heap.size w (wr.alloc (.cells #[.int .u8 t.w, .int .i64 t.v, .int .i64 t.p] 191)) := hB.alloc (by omega) _
      have C := index_rs (L := L) (x := t.w) (HV.out.below hBa) ix hix
      clear ht htk hix
      go_wp2_with fail
      refine C.mono ?_
      rintro e w1 ⟨rfl, B1⟩
      have hs1 : wr.heap.size < w1.heap.size := by have := B1.size; simp at this; omega
      have q0 : w1.cell? ⟨wr.heap.size, 0, none⟩ = some (.int .u8 t.w) := (B1.cell (p := ⟨wr.heap.size, 0, none⟩) (by simp)).trans (by go_simp)
      have q1 : w1.cell? ⟨wr.heap.size, 1, none⟩ = some (.int .i64 t.v) := (B1.cell (p := ⟨wr.heap.size, 1, none⟩) (by simp)).trans (by go_simp)
      have q2 : w1.cell? ⟨w.heap.size + 1 + 1 + 1, 0, none⟩ = some (.slice fa j fc) := (B1.cell (p := ⟨w.heap.size + 1 + 1 + 1, 0, none⟩) (by simp; omega)).trans (by go_simp)
      have q3 : w1.cell? ⟨w.heap.size + 1 + 1 + 1, 1, none⟩ = some (.bool ex) := (B1.cell (p := ⟨w.heap.size + 1 + 1 + 1, 1, none⟩) (by simp; omega)).trans (by go_simp)
      have q4 : w1.frozen? ⟨w.heap.size + 1 + 1 + 1, 0, none⟩ = false := (B1.frozen (p := ⟨w.heap.size + 1 + 1 + 1, 0, none⟩) (by simp; omega)).trans (by go_simp)
      have hw1 : w.heap.size + 1 + 1 + 1 < w1.heap.size := by omega
      have HB1 : Hid (Below W.heap.size W w1) := (hb.alloc (by omega) _).trans (B1.mono (by simp; omega))
      have Fr : w1.ownsRow (w.heap.size + 4) 172 3 (.slice fa j fc) j (flatP ((ts.map (ptOf fs)).take j)) := by
        have := TPb.below HF.out (((Below.refl _ wr).alloc (Nat.le_refl _) (.cells #[.int .u8 t.w, .int .i64 t.v, .int .i64 t.p] 191)).trans (B1.mono (by simp)))
        unfold TPb at this; rw [HFL.out] at this; exact this
      clear C B1 x0 x1 x2 p0 p1 d0 d1 df0 hb hB hBa
      go_wp2_with (at_builtin; refine wpList_append_own _ rfl _ _ 141 rfl (w.heap.size + 4) 172 iT (.agg #[.int .u8 0, .int .i64 0, .int .i64 0]) 3 24 Try.underlying141 hiT hzT0 hzT1 hzT2 rfl (by decide) _ j (flatP ((ts.map (ptOf fs)).take j)) rfl (Fr.alloc _) ⟨w1.heap.size, 0, none⟩ 1 1 [.int .u8 t.w, .int .i64 t.v, .int .i64 ix] rfl rfl ?c1 ?c2 ?c3 ?c4 ?c5 ?_)
      case c1 => exact cell_tri1 _ _ _ _ _
      case c2 => intro u hu; simp at hu; rcases hu with rfl | rfl | rfl <;> rfl
      case c3 => unfold maxLen; omega
      case c4 => omega
      case c5 => simp; omega
      intro v' w5 hown hgr5 _
      have hg5 : w1.grownBy w5 (Value.ownBlock (.slice fa j fc)) := gb_trans (World.grownBy_alloc _ _ _) hgr5
      have F5 : TPb w5 (w.heap.size + 4) v' ((ts.map (ptOf fs)).take (j + 1)) := by
        unfold TPb; rw [HST.out, List.length_append, HFL.out, flatP_app]; exact hown
      obtain ⟨y2c, y2f, y2l⟩ := own_loc Fr hg5 (r := w.heap.size + 1 + 1 + 1) (by omega) hw1
      have g0 : w5.cell? ⟨w.heap.size + 1 + 1 + 1, 0, none⟩ = some (.slice fa j fc) := by rw [y2c]; exact q2
      have g1 : w5.cell? ⟨w.heap.size + 1 + 1 + 1, 1, none⟩ = some (.bool ex) := by rw [y2c]; exact q3
      have gf0 : w5.frozen? ⟨w.heap.size + 1 + 1 + 1, 0, none⟩ = false := by rw [y2f]; exact q4
      have B5 : Below W.heap.size W w5 := HB1.out.grown hg5 (by omega) (fun x hx => by have := (World.ownsRow.lt Fr x hx).1; omega)
      obtain ⟨fa', fc', hv'⟩ := F5.shape
      have hl1 : ((ts.map (ptOf fs)).take (j + 1)).length = j + 1 := by rw [List.length_take, List.length_map, ← HM.out]; omega
      rw [hl1] at hv'
      subst hv'
      have F6 := F5.kept (gb_set w5 (w.heap.size + 1 + 1 + 1) 0 (.slice fa' (j + 1) fc')) (by omega)
      have B6 : Below W.heap.size W (w5.setCell ⟨w.heap.size + 1 + 1 + 1, 0, none⟩ (.slice fa' (j + 1) fc')) := B5.setCell (by show W.heap.size ≤ w.heap.size + 1 + 1 + 1; omega) _
      clear hown hgr5 hg5 F5 Fr y2c y2f hl1 q0 q1 q2 q3 q4
      go_wp2
      refine ⟨⟨j + 1, _, by omega, rfl, F6, ?_, ?_, ?_, ?_, B6⟩, by simp [intOf]; omega⟩
      · go_simp
      · go_simp
      · go_simp
      · simpa using y2l
    · obtain rfl : j = m := by omega
      have hfs : (ts.map (ptOf fs)).take j = ts.map (ptOf fs) := List.take_of_length_le (by rw [List.length_map, ← HM.out]; omega)
      have F := HF.out
      rw [hfs] at F
      have p3 : wr.cell? ⟨w.heap.size + 1 + 1, 0, none⟩ = some (.slice none 0 0) := (hb.cell (p := ⟨w.heap.size + 1 + 1, 0, none⟩) u2).trans y3
      have p4 : wr.cell? ⟨w.heap.size + 1 + 1, 1, none⟩ = some (.bool false) := (hb.cell (p := ⟨w.heap.size + 1 + 1, 1, none⟩) u2).trans y4
      have p5 : wr.frozen? ⟨w.heap.size + 1 + 1, 0, none⟩ = false := (hb.frozen (p := ⟨w.heap.size + 1 + 1, 0, none⟩) u2).trans y5
      have p6 : wr.frozen? ⟨w.heap.size + 1 + 1, 1, none⟩ = false := (hb.frozen (p := ⟨w.heap.size + 1 + 1, 1, none⟩) u2).trans y6
      have v2 : w.heap.size + 1 + 1 < wr.heap.size := by omega
      clear hfs hb
      go_wp2
      refine bodyPost_ret (v := .agg #[.slice fa j fc, .bool ex]) (by simp [results, Try.results95, go_sem, p3, p4]) rfl ⟨_, _, _, rfl, ?_, ?_⟩
      · exact ((F.kept (gb_set _ (w.heap.size + 1 + 1) _ _) (by omega)).kept (gb_set _ (w.heap.size + 1 + 1) _ _) (by omega)).mono (by omega)
      · exact (hB.setCell (by show _ ≤ w.heap.size + 1 + 1; omega) _).setCell (by show _ ≤ w.heap.size + 1 + 1; omega) _
set_option maxHeartbeats 400000 in
set_option maxRecDepth 20000 in
theorem ruleOf_none (L : Int) (a : Option Addr) (n c : Nat) (fs : List (Int × Int)) (fl fp fk : Int) (ta : Option Addr) (tc : Nat) (sp : Int) (ex : Bool) (f : GFd) (w : World) (hV : FV w (.slice a n c) fs) (hl : fl = f.l) (hk : fk = f.k) :
    Calls Try.prog 95 #[.agg #[.int .u8 L, .slice a n c], .agg #[.int .u8 fl, .int .i64 fp, .int .u8 fk, .slice ta 0 tc, .int .i64 sp, .bool ex]] w (PRPost (prNo fs f) w) := by
  obtain ⟨W, hW⟩ : ∃ W, W = ((w.alloc (.cells #[.int .u8 L, .slice a n c] 88)).alloc (.cells #[.int .u8 fl, .int .i64 fp, .int .u8 fk, .slice ta 0 tc, .int .i64 sp, .bool ex] 162)).alloc (.cells #[.slice none 0 0, .bool false] 143) := ⟨_, rfl⟩
  have B0 : Below w.heap.size w W := by rw [hW]; exact (((Below.refl _ _).alloc (Nat.le_refl _) _).alloc (by simp) _).alloc (by simp; omega) _
  have z0 : W.heap.size = w.heap.size + 1 + 1 + 1 := by rw [hW]; simp
  have C := ruleNo_any L a n c fs fl fp fk ta 0 tc sp ex f W (hV.below B0) hl hk
  unfold PRPost at C ⊢
  generalize prNo fs f = R at C ⊢
  have HC := C
  clear C hl hk hV
  go_enter Try.func95, Try.ntmps95
  go_wp2_with fail
  rw [← hW]
  refine HC.mono ?_
  rintro e w1 ⟨ra, rn, rc, rfl, T1, B1⟩
  have p3 : w1.cell? ⟨w.heap.size + 1 + 1, 0, none⟩ = some (.slice none 0 0) := (B1.cell (p := ⟨w.heap.size + 1 + 1, 0, none⟩) (by show w.heap.size + 1 + 1 < W.heap.size; omega)).trans (by rw [hW]; go_simp)
  have p4 : w1.cell? ⟨w.heap.size + 1 + 1, 1, none⟩ = some (.bool false) := (B1.cell (p := ⟨w.heap.size + 1 + 1, 1, none⟩) (by show w.heap.size + 1 + 1 < W.heap.size; omega)).trans (by rw [hW]; go_simp)
  have p5 : w1.frozen? ⟨w.heap.size + 1 + 1, 0, none⟩ = false := (B1.frozen (p := ⟨w.heap.size + 1 + 1, 0, none⟩) (by show w.heap.size + 1 + 1 < W.heap.size; omega)).trans (by rw [hW]; go_simp)
  have p6 : w1.frozen? ⟨w.heap.size + 1 + 1, 1, none⟩ = false := (B1.frozen (p := ⟨w.heap.size + 1 + 1, 1, none⟩) (by show w.heap.size + 1 + 1 < W.heap.size; omega)).trans (by rw [hW]; go_simp)
  have v2 : w.heap.size + 1 + 1 < w1.heap.size := by have := B1.size; omega
  have hB : Below w.heap.size w w1 := B0.trans (B1.mono B0.size)
  clear hW HC B1
  go_wp2
  refine bodyPost_ret (v := .agg #[.slice ra rn rc, .bool R.ex]) (by simp [results, Try.results95, go_sem, p3, p4]) rfl ⟨_, _, _, rfl, ?_, ?_⟩
  · exact ((T1.kept (gb_set _ (w.heap.size + 1 + 1) _ _) (by omega)).kept (gb_set _ (w.heap.size + 1 + 1) _ _) (by omega)).mono (by omega)
  · exact (hB.setCell (by show _ ≤ w.heap.size + 1 + 1; omega) _).setCell (by show _ ≤ w.heap.size + 1 + 1; omega) _
theorem ruleOf_any {L : Int} {a : Option Addr} {n c : Nat} {fs : List (Int × Int)} {base : Nat} {r : RFd} {f : GFd} {w : World} (hV : FV w (.slice a n c) fs) (hF : FRel w base r f) (h : f.ts.length ≤ 1000) :
    Calls Try.prog 95 #[.agg #[.int .u8 L, .slice a n c], .agg #[.int .u8 r.l, .int .i64 r.p, .int .u8 r.k, .slice r.t.a r.t.n r.t.c, .int .i64 r.sp, .bool r.ex]] w (PRPost (prOf fs f) w) := by
  unfold prOf
  rcases r with ⟨l, p, k, ⟨ta, tn, tc⟩, sp, ex⟩
  have hT := hF.ts
  have hlen : tn = f.ts.length := by
    rcases hT.2 with ⟨e, h0⟩ | ⟨g, cap, cur, e, _⟩
    · cases e; exact h0.symm
    · cases e; rfl
  subst hlen
  simp only []
  by_cases h0 : f.ts.length = 0
  · rw [if_pos h0, h0]
    exact ruleOf_none L a n c fs l p k ta tc sp ex f w hV hF.l hF.k
  · rw [if_neg h0]
    rcases hT.cells with ⟨e, h1⟩ | ⟨g, cap, e, hg, _, hc⟩
    · exact absurd (by rw [h1]; rfl) h0
    · cases e
      have hex : ex = f.ex := hF.ex
      rw [← hex]
      exact ruleOf_row L a n c fs l p k g _ _ sp ex f.ts w hV rfl (by omega) h hg hc
end Go.Proofs.Ytbgilndohccicab
