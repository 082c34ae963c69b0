import Derived.Test.YthckelcjncnalabKz17
namespace Go.Proofs.Ythckelcjncnalab
open Go.RowKit

/-- A term of a rule, a rule, a making, as the program has them. -/
structure PT where
  w : Int
  v : Int
  i : Int
structure PR where
  ts : List PT
  ex : Bool
structure PM where
  l : Int
  fs : List (Int × Int)
  src : Int
  rs : List PR
def flatP : List PT → List Value
  | [] => []
  | t :: r => .int .u8 t.w :: .int .i64 t.v :: .int .i64 t.i :: flatP r
theorem flatP_app (a b : List PT) : flatP (a ++ b) = flatP a ++ flatP b := by
  induction a with
  | nil => rfl
  | cons p r ih => simp only [List.cons_append, flatP, ih]
def TPb (w : World) (base : Nat) (v : Value) (ts : List PT) : Prop := w.ownsRow base 137 3 v ts.length (flatP ts)
theorem TPb.shape {w : World} {base : Nat} {v : Value} {ts : List PT} (h : TPb w base v ts) : ∃ a c, v = .slice a ts.length c := by
  rcases h.2 with ⟨rfl, hn⟩ | ⟨g, cap, cur, rfl, _⟩
  · exact ⟨none, 0, by rw [hn]⟩
  · exact ⟨_, _, rfl⟩
theorem TPb.nil (w : World) (base : Nat) : TPb w base (.slice none 0 0) [] := World.ownsRow_nil _ _ _ _
theorem TPb.mono {w : World} {base base' : Nat} {v : Value} {ts : List PT} (h : TPb w base v ts) (hb : base' ≤ base) : TPb w base' v ts := row_mono h hb
theorem TPb.kept {w w' : World} {base b : Nat} {v : Value} {ts : List PT} (h : TPb w base v ts) (g : w.grownBy w' (some b)) (hb : b < base) : TPb w' base v ts := row_kept h g hb
theorem TPb.below {w w' : World} {base : Nat} {v : Value} {ts : List PT} (h : TPb w base v ts) (hb : Below w.heap.size w w') : TPb w' base v ts := World.ownsRow.kept h (gb_below hb none) (by cases hv : v.ownBlock <;> simp)
theorem TPb.one (w : World) (base : Nat) (t : PT) (hb : base ≤ w.heap.size) : TPb (w.alloc (.cells #[.int .u8 t.w, .int .i64 t.v, .int .i64 t.i] 137)) base (.slice (some ⟨w.heap.size, 0, none⟩) 1 1) [t] :=
  ⟨rfl, .inr ⟨w.heap.size, 1, #[.int .u8 t.w, .int .i64 t.v, .int .i64 t.i], rfl, hb, by show (w.heap.push _)[w.heap.size]? = _; exact Array.getElem?_push_size, Nat.le_refl _, by decide, rfl, rfl⟩⟩
theorem TPb.one' {w : World} {base b : Nat} {t : PT} (e : w.heap.size = b) (hb : base ≤ b) : TPb (w.alloc (.cells #[.int .u8 t.w, .int .i64 t.v, .int .i64 t.i] 137)) base (.slice (some ⟨b, 0, none⟩) 1 1) [t] := by
  subst e; exact TPb.one w base t hb
theorem Try.infoUTerm : (Try.prog.info? 137).map (fun i => (i.zero, i.size, i.bytes)) = some (some (.agg #[.int .u8 0, .int .i64 0, .int .i64 0]), 3, 24) := by kernel_rfl
def ptOf (fs : List (Int × Int)) (t : GT) : PT := ⟨t.w, t.v, idxF fs t.w⟩
def prNo (fs : List (Int × Int)) (f : GFd) : PR := if (kdF fs f.l).2 = false ∨ ((kdF fs f.l).1 == 114) ≠ (f.k == 114) then ⟨[], false⟩ else ⟨[⟨f.l, 0, idxF fs f.l⟩], false⟩
def prOf (fs : List (Int × Int)) (f : GFd) : PR := if f.ts.length = 0 then prNo fs f else ⟨f.ts.map (ptOf fs), f.ex⟩
def PRPost (R : PR) (w : World) (e : Ending) (w' : World) : Prop := ∃ (a : Option Addr) (n c : Nat),
  e = .returned (.agg #[.slice a n c, .bool R.ex]) ∧ TPb w' w.heap.size (.slice a n c) R.ts ∧ Below w.heap.size w w'
theorem index_rs {L x : Int} {v : Value} {fs : List (Int × Int)} {w : World} (h : FV w v fs) (y : Int) (hy : idxF fs x = y) :
    Calls Try.prog 48 #[.agg #[.int .u8 L, v], .int .u8 x] w fun e w' => e = .returned (.int .i64 y) ∧ Below w.heap.size w w' := by
  subst hy; exact index_any L x v fs w h
set_option maxHeartbeats 1000000 in
set_option maxRecDepth 20000 in
theorem ruleNo_any (L : Int) (a : Option Addr) (n c : Nat) (fs : List (Int × Int)) (fl fp fk : Int) (ta : Option Addr) (tn tc : Nat) (sp : Int) (ex : Bool) (f : GFd) (w : World) (hV : FV w (.slice a n c) fs) (hl : fl = f.l) (hk : fk = f.k) :
    Calls Try.prog 73 #[.agg #[.int .u8 L, .slice a n c], .agg #[.int .u8 fl, .int .i64 fp, .int .u8 fk, .slice ta tn tc, .int .i64 sp, .bool ex]] w (PRPost (prNo fs f) w) := by
  subst hl hk
  obtain ⟨W, hW⟩ : ∃ W, W = ((w.alloc (.cells #[.int .u8 L, .slice a n c] 69)).alloc (.cells #[.int .u8 f.l, .int .i64 fp, .int .u8 f.k, .slice ta tn tc, .int .i64 sp, .bool ex] 126)).alloc (.cells #[.slice none 0 0, .bool false] 113) := ⟨_, rfl⟩
  have B0 : Below w.heap.size w W := by rw [hW]; exact (((Below.refl _ _).alloc (Nat.le_refl _) _).alloc (by simp) _).alloc (by simp; omega) _
  have z0 : W.heap.size = w.heap.size + 3 := by rw [hW]; simp
  obtain ⟨kd, kn, hkd⟩ : ∃ kd kn, kdF fs f.l = (kd, kn) := ⟨_, _, rfl⟩
  obtain ⟨ix, hix⟩ : ∃ ix, idxF fs f.l = ix := ⟨_, rfl⟩
  obtain ⟨R, hR⟩ : ∃ R, R = prNo fs f := ⟨_, rfl⟩
  rw [← hR]
  unfold prNo at hR
  rw [hkd, hix] at hR
  simp only [] at hR
  have C1 := kindOf_rs (L := L) (x := f.l) (hV.below B0) kd kn hkd
  have C2 := fun W2 (hb : Below w.heap.size w W2) => index_rs (L := L) (x := f.l) (hV.below hb) ix hix
  have y0 : W.cell? ⟨w.heap.size, 0, none⟩ = some (.int .u8 L) := by rw [hW]; go_simp
  have y1 : W.cell? ⟨w.heap.size, 1, none⟩ = some (.slice a n c) := by rw [hW]; go_simp
  have y2 : W.cell? ⟨w.heap.size + 1, 2, none⟩ = some (.int .u8 f.k) := by rw [hW]; go_simp
  have y3 : W.cell? ⟨w.heap.size + 2, 0, none⟩ = some (.slice none 0 0) := by rw [hW]; go_simp
  have y4 : W.cell? ⟨w.heap.size + 2, 1, none⟩ = some (.bool false) := by rw [hW]; go_simp
  have y5 : W.frozen? ⟨w.heap.size + 2, 0, none⟩ = false := by rw [hW]; go_simp
  have y6 : W.frozen? ⟨w.heap.size + 2, 1, none⟩ = false := by rw [hW]; go_simp
  have y7 : W.cell? ⟨w.heap.size + 1, 0, none⟩ = some (.int .u8 f.l) := by rw [hW]; go_simp
  have HR : Hid (R = if kn = false ∨ (kd == 114) ≠ (f.k == 114) then ⟨[], false⟩ else ⟨[⟨f.l, 0, ix⟩], false⟩) := hR
  clear hkd hix hR hV
  go_enter Try.func73, Try.ntmps73
  go_wp2_with fail
  rw [← hW]
  clear hW
  go_wp2_with fail
  refine C1.mono ?_
  rintro e w1 ⟨rfl, B1⟩
  have hz1 : w.heap.size + 3 ≤ w1.heap.size := by have := B1.size; omega
  have x0 : w1.cell? ⟨w.heap.size, 0, none⟩ = some (.int .u8 L) := (B1.cell (p := ⟨w.heap.size, 0, none⟩) (by show w.heap.size < _; omega)).trans y0
  have x1 : w1.cell? ⟨w.heap.size, 1, none⟩ = some (.slice a n c) := (B1.cell (p := ⟨w.heap.size, 1, none⟩) (by show w.heap.size < _; omega)).trans y1
  have x2 : w1.cell? ⟨w.heap.size + 1, 2, none⟩ = some (.int .u8 f.k) := (B1.cell (p := ⟨w.heap.size + 1, 2, none⟩) (by show w.heap.size + 1 < _; omega)).trans y2
  have x3 : w1.cell? ⟨w.heap.size + 2, 0, none⟩ = some (.slice none 0 0) := (B1.cell (p := ⟨w.heap.size + 2, 0, none⟩) (by show w.heap.size + 2 < _; omega)).trans y3
  have x4 : w1.cell? ⟨w.heap.size + 2, 1, none⟩ = some (.bool false) := (B1.cell (p := ⟨w.heap.size + 2, 1, none⟩) (by show w.heap.size + 2 < _; omega)).trans y4
  have x5 : w1.frozen? ⟨w.heap.size + 2, 0, none⟩ = false := (B1.frozen (p := ⟨w.heap.size + 2, 0, none⟩) (by show w.heap.size + 2 < _; omega)).trans y5
  have x6 : w1.frozen? ⟨w.heap.size + 2, 1, none⟩ = false := (B1.frozen (p := ⟨w.heap.size + 2, 1, none⟩) (by show w.heap.size + 2 < _; omega)).trans y6
  have BB : Below w.heap.size w w1 := B0.trans (B1.mono B0.size)
  have D := C2 w1 BB
  clear y0 y1 y2 y3 y4 y5 y6 y7 C1 C2 B1 B0 z0
  by_cases h1 : kn = false ∨ (kd == 114) ≠ (f.k == 114)
  · have HE : Hid (R = ⟨[], false⟩) := by show R = _; rw [HR.out, if_pos h1]
    have fin : ∀ w2 : World, Below w.heap.size w w2 → PRPost R w (.returned (.agg #[.slice none 0 0, .bool false])) w2 := fun w2 hb => by
      rw [HE.out]; exact ⟨none, 0, 0, rfl, TPb.nil _ _, hb⟩
    clear HR D
    cases kn with
    | false =>
      clear h1
      go_wp2
      refine bodyPost_ret (v := .agg #[.slice none 0 0, .bool false]) (by simp [results, Try.results73, go_sem, x3, x4]) rfl (fin _ ?_)
      with_reducible repeat first | exact BB | apply Below.drew | (refine Below.setCell ?_ (by show _ ≤ w.heap.size + 2; omega) _)
    | true =>
      have h2 : (kd == 114) ≠ (f.k == 114) := by simpa using h1
      clear h1
      generalize ek : (kd == 114) = p at h2
      generalize ef : (f.k == 114) = q at h2
      have e3 : (p == q) = false := by simpa using h2
      clear h2
      go_wp2
      refine bodyPost_ret (v := .agg #[.slice none 0 0, .bool false]) (by simp [results, Try.results73, go_sem, x3, x4]) rfl (fin _ ?_)
      with_reducible repeat first | exact BB | apply Below.drew | (refine Below.setCell ?_ (by show _ ≤ w.heap.size + 2; omega) _)
  · have HE : Hid (R = ⟨[⟨f.l, 0, ix⟩], false⟩) := by show R = _; rw [HR.out, if_neg h1]
    have h2 : kn = true := by cases kn with
      | true => rfl
      | false => exact absurd (.inl rfl) h1
    have h3 : (kd == 114) = (f.k == 114) := by
      apply Classical.byContradiction; intro h; exact h1 (.inr h)
    subst h2
    clear h1 HR
    generalize ek : (kd == 114) = p at h3
    generalize ef : (f.k == 114) = q at h3
    have e3 : (p == q) = true := by simpa using h3
    clear h3
    go_wp2_with fail
    refine D.mono ?_
    rintro e w2 ⟨rfl, B2⟩
    have hz2 : w.heap.size + 3 ≤ w2.heap.size := by have := B2.size; omega
    have u3 : w2.cell? ⟨w.heap.size + 2, 0, none⟩ = some (.slice none 0 0) := (B2.cell (p := ⟨w.heap.size + 2, 0, none⟩) (by show w.heap.size + 2 < _; omega)).trans x3
    have u4 : w2.cell? ⟨w.heap.size + 2, 1, none⟩ = some (.bool false) := (B2.cell (p := ⟨w.heap.size + 2, 1, none⟩) (by show w.heap.size + 2 < _; omega)).trans x4
    have u5 : w2.frozen? ⟨w.heap.size + 2, 0, none⟩ = false := (B2.frozen (p := ⟨w.heap.size + 2, 0, none⟩) (by show w.heap.size + 2 < _; omega)).trans x5
    have u6 : w2.frozen? ⟨w.heap.size + 2, 1, none⟩ = false := (B2.frozen (p := ⟨w.heap.size + 2, 1, none⟩) (by show w.heap.size + 2 < _; omega)).trans x6
    have BB2 : Below w.heap.size w w2 := BB.trans (B2.mono BB.size)
    have hq2 : w.heap.size + 1 + 1 < w2.heap.size := by omega
    clear x0 x1 x2 x3 x4 x5 x6 D B2 BB
    go_wp2
    refine bodyPost_ret (v := .agg #[.slice (some ⟨w2.heap.size, 0, none⟩) 1 1, .bool false]) (by
      have m0 : (((w2.setCell ⟨w.heap.size + 1 + 1, 0, none⟩ (.slice (some ⟨w2.heap.size, 0, none⟩) 1 1)).setCell ⟨w.heap.size + 1 + 1, 1, none⟩ (.bool false)).alloc (.cells #[.int .u8 f.l, .int .i64 0, .int .i64 ix] 137)).cell? ⟨w.heap.size + 1 + 1, 0, none⟩ = some (.slice (some ⟨w2.heap.size, 0, none⟩) 1 1) := by go_simp
      have m1 : (((w2.setCell ⟨w.heap.size + 1 + 1, 0, none⟩ (.slice (some ⟨w2.heap.size, 0, none⟩) 1 1)).setCell ⟨w.heap.size + 1 + 1, 1, none⟩ (.bool false)).alloc (.cells #[.int .u8 f.l, .int .i64 0, .int .i64 ix] 137)).cell? ⟨w.heap.size + 1 + 1, 1, none⟩ = some (.bool false) := by go_simp
      simp [results, Try.results73, go_sem, m0, m1]) rfl ?_
    rw [HE.out]
    refine ⟨_, _, _, rfl, ?_, ?_⟩
    · exact TPb.one' (t := ⟨f.l, 0, ix⟩) (by simp) (by omega)
    · exact ((BB2.setCell (by show _ ≤ w.heap.size + 1 + 1; omega) _).setCell (by show _ ≤ w.heap.size + 1 + 1; omega) _).alloc (by simp; omega) _
end Go.Proofs.Ythckelcjncnalab
