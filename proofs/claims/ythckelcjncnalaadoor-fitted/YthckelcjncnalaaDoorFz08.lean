import Derived.Test.YthckelcjncnalaaDoorFz03
import Derived.Maps.AppendAt
import Derived.Test.YthckelcjncnalaaDoorFz02
import Derived.Test.YthckelcjncnalaaDoorFz07
namespace Go.Proofs.YthckelcjncnalaaDoor
open Go.RowKit

/-- What a reader of sums comes to. -/
structure SumR where
  ok : Bool
  at_ : Nat
  ts : List GT
def gNum (s : ByteArray) : Nat → Nat → Int → Int × Nat
  | 0, k, v => (v, k)
  | n + 1, k, v => if 48 ≤ nextB s k ∧ nextB s k ≤ 57 then (if v * 10 + (nextB s k - 48) = 0 then (0, k + 1) else gNum s n (k + 1) (v * 10 + (nextB s k - 48))) else (v, k)
def facR (s : ByteArray) (sm : Option (Nat → List GT → SumR)) (k : Nat) (ts : List GT) : SumR :=
  if 48 ≤ nextB s k ∧ nextB s k ≤ 57 then ⟨true, (gNum s 9 k 0).2, ts ++ [⟨48, (gNum s 9 k 0).1, k⟩]⟩
  else if 97 ≤ nextB s k ∧ nextB s k ≤ 122 then ⟨true, k + 1, ts ++ [⟨nextB s k, 0, k⟩]⟩
  else if nextB s k ≠ 40 then ⟨false, k, ts⟩
  else match sm with
    | none => ⟨false, k, ts⟩
    | some f => if (f (k + 1) ts).ok = true ∧ nextB s (f (k + 1) ts).at_ = 41 then ⟨true, (f (k + 1) ts).at_ + 1, (f (k + 1) ts).ts⟩ else ⟨false, (f (k + 1) ts).at_, (f (k + 1) ts).ts⟩
def opStep (s : ByteArray) (f : Nat → List GT → SumR) (r : SumR) : SumR := ⟨(f (r.at_ + 1) r.ts).ok, (f (r.at_ + 1) r.ts).at_, (f (r.at_ + 1) r.ts).ts ++ [⟨nextB s r.at_, 0, r.at_⟩]⟩
def opLoop (s : ByteArray) (p : Int → Bool) (f : Nat → List GT → SumR) : Nat → SumR → SumR
  | 0, r => r
  | n + 1, r => if r.ok = true ∧ p (nextB s r.at_) = true then opLoop s p f n (opStep s f r) else r
def isMul (c : Int) : Bool := c == 42
def isAdd (c : Int) : Bool := c == 43 || c == 45
def prodR (s : ByteArray) (sm : Option (Nat → List GT → SumR)) (k : Nat) (ts : List GT) : SumR := opLoop s isMul (facR s sm) (s.size + 1) (facR s sm k ts)
def sumR0 (s : ByteArray) (sm : Option (Nat → List GT → SumR)) (k : Nat) (ts : List GT) : SumR := opLoop s isAdd (prodR s sm) (s.size + 1) (prodR s sm k ts)
/-- A sum with so many brackets more. -/
def sumRL (s : ByteArray) : Nat → Nat → List GT → SumR
  | 0 => sumR0 s none
  | n + 1 => sumR0 s (some (sumRL s n))
def lvl (s : ByteArray) : Nat → Option (Nat → List GT → SumR)
  | 0 => none
  | n + 1 => some (sumRL s n)
theorem sumRL_lvl (s : ByteArray) (n : Nat) : sumRL s n = sumR0 s (lvl s n) := by cases n <;> rfl

/-- It goes on, and each term has a byte. -/
def Grow (f : Nat → List GT → SumR) : Prop := ∀ k ts, k ≤ (f k ts).at_ ∧ (f k ts).ts.length + k ≤ ts.length + (f k ts).at_
theorem gNum_grow (s : ByteArray) : ∀ n k v, k ≤ (gNum s n k v).2 := by
  intro n
  induction n with
  | zero => intro k v; exact Nat.le_refl _
  | succ n ih =>
    intro k v
    rw [gNum]
    split
    · split
      · exact Nat.le_succ _
      · have := ih (k + 1) (v * 10 + (nextB s k - 48)); omega
    · exact Nat.le_refl _
theorem gNum_first (s : ByteArray) (k : Nat) (h : 48 ≤ nextB s k ∧ nextB s k ≤ 57) : k + 1 ≤ (gNum s 9 k 0).2 := by
  rw [gNum, if_pos h]
  split
  · exact Nat.le_refl _
  · exact gNum_grow s 8 _ _
theorem facR_grow (s : ByteArray) (sm : Option (Nat → List GT → SumR)) (h : ∀ f, sm = some f → Grow f) : Grow (facR s sm) := by
  intro k ts
  unfold facR
  split
  · rename_i h1; have := gNum_first s k h1; refine ⟨by show k ≤ (gNum s 9 k 0).2; omega, ?_⟩; simp only [List.length_append, List.length_cons, List.length_nil]; omega
  · split
    · refine ⟨Nat.le_succ _, ?_⟩; simp only [List.length_append, List.length_cons, List.length_nil]; omega
    · split
      · exact ⟨Nat.le_refl _, Nat.le_refl _⟩
      · cases sm with
        | none => exact ⟨Nat.le_refl _, Nat.le_refl _⟩
        | some f =>
          have := h f rfl (k + 1) ts
          simp only []
          split
          · refine ⟨?_, ?_⟩ <;> simp only [] <;> omega
          · refine ⟨?_, ?_⟩ <;> simp only [] <;> omega
theorem opLoop_grow (s : ByteArray) (p : Int → Bool) (f : Nat → List GT → SumR) (h : Grow f) : ∀ n r, r.at_ ≤ (opLoop s p f n r).at_ ∧ (opLoop s p f n r).ts.length + r.at_ ≤ r.ts.length + (opLoop s p f n r).at_ := by
  intro n
  induction n with
  | zero => intro r; exact ⟨Nat.le_refl _, Nat.le_refl _⟩
  | succ n ih =>
    intro r
    rw [opLoop]
    split
    · have h1 := h (r.at_ + 1) r.ts
      have h2 := ih (opStep s f r)
      have e1 : (opStep s f r).at_ = (f (r.at_ + 1) r.ts).at_ := rfl
      have e2 : (opStep s f r).ts.length = (f (r.at_ + 1) r.ts).ts.length + 1 := by simp [opStep]
      rw [e1, e2] at h2
      omega
    · exact ⟨Nat.le_refl _, Nat.le_refl _⟩
theorem loop_grow (s : ByteArray) (p : Int → Bool) (f : Nat → List GT → SumR) (n : Nat) (h : Grow f) : Grow (fun k ts => opLoop s p f n (f k ts)) := by
  intro k ts
  have h1 := h k ts
  have h2 := opLoop_grow s p f h n (f k ts)
  simp only []
  omega
theorem prodR_grow (s : ByteArray) (sm : Option (Nat → List GT → SumR)) (h : ∀ f, sm = some f → Grow f) : Grow (prodR s sm) := loop_grow s isMul _ _ (facR_grow s sm h)
theorem sumR0_grow (s : ByteArray) (sm : Option (Nat → List GT → SumR)) (h : ∀ f, sm = some f → Grow f) : Grow (sumR0 s sm) := loop_grow s isAdd _ _ (prodR_grow s sm h)
theorem sumRL_grow (s : ByteArray) : ∀ n, Grow (sumRL s n) := by
  intro n
  induction n with
  | zero => exact sumR0_grow s none (fun f h => by cases h)
  | succ n ih => exact sumR0_grow s (some (sumRL s n)) (fun f h => by cases h; exact ih)
theorem lvl_grow (s : ByteArray) (n : Nat) : ∀ f, lvl s n = some f → Grow f := by
  intro f h
  cases n with
  | zero => cases h
  | succ n => cases h; exact sumRL_grow s n
theorem opLoop_stop (s : ByteArray) (p : Int → Bool) (f : Nat → List GT → SumR) (r : SumR) (h : ¬ (r.ok = true ∧ p (nextB s r.at_) = true)) (n : Nat) : opLoop s p f n r = r := by
  cases n with
  | zero => rfl
  | succ n => rw [opLoop, if_neg h]
theorem opLoop_step (s : ByteArray) (p : Int → Bool) (f : Nat → List GT → SumR) (r : SumR) (h : r.ok = true ∧ p (nextB s r.at_) = true) (n : Nat) : opLoop s p f (n + 1) r = opLoop s p f n (opStep s f r) := by rw [opLoop, if_pos h]

/-- What a reader of sums leaves alone: all but the reader and its terms' row; the row is as it was or a new one. -/
structure Fr (b : Nat) (v v' : Value) (w w' : World) : Prop where
  os : w'.os = w.os
  tape : w'.tape = w.tape
  output : w'.output = w.output
  size : w.heap.size ≤ w'.heap.size
  blk : ∀ k, k < w.heap.size → k ≠ b → v.ownBlock ≠ some k → w'.heap[k]? = w.heap[k]?
  own : ∀ g, v'.ownBlock = some g → v.ownBlock = some g ∨ w.heap.size ≤ g
theorem Fr.refl (b : Nat) (v : Value) (w : World) : Fr b v v w w := ⟨rfl, rfl, rfl, Nat.le_refl _, fun _ _ _ _ => rfl, fun _ h => .inl h⟩
theorem Fr.trans {b : Nat} {v v1 v2 : Value} {w w1 w2 : World} (h : Fr b v v1 w w1) (k : Fr b v1 v2 w1 w2) : Fr b v v2 w w2 :=
  ⟨k.os.trans h.os, k.tape.trans h.tape, k.output.trans h.output, Nat.le_trans h.size k.size,
   fun i hi hb hv => (k.blk i (Nat.lt_of_lt_of_le hi h.size) hb (fun e => by rcases h.own i e with e' | e'; exact hv e'; omega)).trans (h.blk i hi hb hv),
   fun g hg => by
    rcases k.own g hg with e | e
    · exact h.own g e
    · have := h.size; right; omega⟩
theorem Fr.below {b : Nat} {v : Value} {w w' : World} (h : Below w.heap.size w w') : Fr b v v w w' :=
  ⟨h.os, h.tape, h.output, h.size, fun k hk _ _ => h.block k hk, fun _ h => .inl h⟩
theorem Fr.setB (b o : Nat) (v x : Value) (w : World) : Fr b v v w (w.setCell ⟨b, o, none⟩ x) := by
  have g := gb_set w b o x
  exact ⟨g.os, g.tape, g.output, g.size, fun k hk hb _ => g.block k hk (by simpa using hb), fun _ h => .inl h⟩
/-- The reader in block b, with its terms. -/
structure RT (w : World) (b : Nat) (s : ByteArray) (k : Nat) (base : Nat) (v : Value) (ts : List GT) : Prop where
  rs : RS w b s k true
  c3 : w.cell? ⟨b, 3, none⟩ = some v
  tv : TVb w base v ts
  lt : b < base
  le : base ≤ w.heap.size
  ln : ts.length ≤ k
theorem RT.below {w w' : World} {b : Nat} {s : ByteArray} {k base : Nat} {v : Value} {ts : List GT} (h : RT w b s k base v ts) (hb : Below w.heap.size w w') : RT w' b s k base v ts :=
  ⟨h.rs.below hb, (World.cell?_of_block (a := ⟨b, 3, none⟩) (hb.block b h.rs.blt)).trans h.c3, World.ownsRow.kept h.tv (gb_below hb none) (by cases hv : v.ownBlock <;> simp), h.lt, Nat.le_trans h.le hb.size, h.ln⟩
theorem RT.alloc {w : World} {b : Nat} {s : ByteArray} {k base : Nat} {v : Value} {ts : List GT} (h : RT w b s k base v ts) (o : Obj) : RT (w.alloc o) b s k base v ts := h.below ((Below.refl _ _).alloc (Nat.le_refl _) o)
theorem RT.inc {w : World} {b : Nat} {s : ByteArray} {k base : Nat} {v : Value} {ts : List GT} (h : RT w b s k base v ts) (hk : k < s.size) : RT (w.setCell ⟨b, 1, none⟩ (.int .i64 ((k : Int) + 1))) b s (k + 1) base v ts := by
  have c3 := h.c3
  exact ⟨h.rs.inc hk, by go_simp, h.tv.setOld h.lt, h.lt, Nat.le_trans h.le (gb_set w b 1 _).size, Nat.le_succ_of_le h.ln⟩
theorem RT.own {w : World} {b : Nat} {s : ByteArray} {k base : Nat} {v : Value} {ts : List GT} (h : RT w b s k base v ts) : ∀ g, v.ownBlock = some g → base ≤ g ∧ g < w.heap.size := fun g hg => World.ownsRow.lt h.tv g hg
theorem flatT_app (a b : List GT) : flatT (a ++ b) = flatT a ++ flatT b := by
  induction a with
  | nil => rfl
  | cons x a ih => simp only [List.cons_append, flatT, ih]
/-- One term more. -/
theorem RT.app {w w2 : World} {b : Nat} {s : ByteArray} {k base : Nat} {v v' : Value} {ts : List GT} {t : GT} {o : Obj} (h : RT w b s k base v ts) (hl : ts.length + 1 ≤ k)
    (hown : w2.ownsRow base 113 3 v' (ts.length + 1) (flatT ts ++ [.int .u8 t.w, .int .i64 t.v, .int .i64 t.p])) (hg : (w.alloc o).grownBy w2 v.ownBlock) (hat : v'.ownBlock = v.ownBlock ∨ v'.ownBlock = some (w.alloc o).heap.size) :
    RT (w2.setCell ⟨b, 3, none⟩ v') b s k base v' (ts ++ [t]) ∧ Fr b v v' w (w2.setCell ⟨b, 3, none⟩ v') := by
  have g1 : w.grownBy w2 v.ownBlock := gb_trans (World.grownBy_alloc w o _) hg
  have hb : some b ≠ v.ownBlock := fun e => by have := (h.own b e.symm).1; have := h.lt; omega
  have R2 : RS w2 b s k true := h.rs.kept g1 hb
  have hb2 : b < w2.heap.size := R2.blt
  obtain ⟨z, c3⟩ := R2.c3
  have R3 : RS (w2.setCell ⟨b, 3, none⟩ v') b s k true := by
    obtain ⟨c0, c1, c2, _, f1, f3, le, lt⟩ := R2
    exact ⟨by go_simp, by go_simp, by go_simp, ⟨v', by go_simp⟩, by go_simp, by go_simp, le, lt⟩
  have e : flatT (ts ++ [t]) = flatT ts ++ [.int .u8 t.w, .int .i64 t.v, .int .i64 t.p] := flatT_app ts [t]
  have T2 : TVb w2 base v' (ts ++ [t]) := by unfold TVb; rw [e, List.length_append]; exact hown
  refine ⟨⟨R3, by go_simp, T2.setOld h.lt, h.lt, Nat.le_trans h.le (Nat.le_trans g1.size (gb_set w2 b 3 v').size), by simpa using hl⟩, ?_⟩
  refine ⟨g1.os, g1.tape, g1.output, Nat.le_trans g1.size (gb_set w2 b 3 v').size, fun i hi hib hv => ?_, fun g hg => ?_⟩
  · exact ((gb_set w2 b 3 v').block i (Nat.lt_of_lt_of_le hi g1.size) (by simpa using hib)).trans (g1.block i hi (fun e => hv e.symm))
  · rcases hat with e | e
    · exact .inl (by rw [← e]; exact hg)
    · right; rw [e] at hg; injection hg with hg; subst hg; simp
end Go.Proofs.YthckelcjncnalaaDoor
namespace Go.Proofs.YthckelcjncnalaaDoor
open Go.RowKit

theorem below_gbN {w w' : World} (g : w.grownBy w' none) : Below w.heap.size w w' := ⟨g.os, g.tape, g.output, g.size, fun k hk => g.block k hk (by simp)⟩
set_option maxHeartbeats 600000 in
theorem here_any (s : ByteArray) (b k : Nat) (u : Bool) (w : World) (h : RS w b s k u) :
    Calls Tryd.prog 67 #[.pointer (some ⟨b, 0, none⟩)] w fun e w' =>
      e = .returned (.agg #[.int .u8 (nextB s k), .int .i64 0, .int .i64 k]) ∧ Below w.heap.size w w' := by
  have hb := h.blt
  have R0 : RS (w.alloc (.cells #[.int .u8 0, .int .i64 0, .int .i64 0] 113)) b s k u := h.alloc _
  obtain ⟨c0, c1, c2, _, f1, f3, le, lt⟩ := id h
  go_enter Tryd.func67, Tryd.ntmps67
  go_wp2
  go_region_with (go_at_call 59; refine (next_rs (s := s) (b := b) (k := k) (u := u) (by with_reducible repeat first | exact R0 | apply RS.drew | apply RS.alloc | apply RS.drewN)).mono ?_; rintro e w' ⟨rfl, n, rfl⟩)
  all_goals
    go_wp2_with fail
    refine bodyPost_ret (v := .agg #[.int .u8 (nextB s k), .int .i64 0, .int .i64 k]) (by simp [results, Tryd.results67, go_sem]) rfl ⟨rfl, below_gbN ?_⟩
    with_reducible repeat first | exact World.grownBy.refl _ _ | apply gb_drew | apply gb_drew1 | apply gb_alloc | (refine gb_setNew ?_ (by omega) _)
set_option maxHeartbeats 400000 in
theorem isLetter_any (x y z : Int) (w : World) :
    Calls Tryd.prog 47 #[.agg #[.int .u8 x, .int .i64 y, .int .i64 z]] w fun e w' => e = .returned (.bool (decide (97 ≤ x) && decide (x ≤ 122))) ∧ Below w.heap.size w w' := by
  go_enter Tryd.func47, Tryd.ntmps47
  go_wp2_with fail
  refine (isIn_any x 97 122 _).mono ?_
  rintro e w' ⟨rfl, rfl⟩
  go_wp2
  go_ret
  exact ⟨rfl, (Below.refl _ _).alloc (Nat.le_refl _) _⟩
end Go.Proofs.YthckelcjncnalaaDoor
namespace Go.Proofs.YthckelcjncnalaaDoor
open Go.RowKit

/-- A field's kind, by its letter. -/
def kdF (fs : List (Int × Int)) (x : Int) : Int × Bool := if idxF fs x < 0 then (0, false) else ((fs[(idxF fs x).toNat]?.getD (0, 0)).2, true)
theorem idxF_ltU (fs : List (Int × Int)) (x : Int) : idxF fs x < fs.length := by
  unfold idxF
  cases h : fs.findIdx? (fun p => p.1 == x) with
  | none => simp only []; omega
  | some i =>
    rw [List.findIdx?_eq_some_iff_getElem] at h
    obtain ⟨hi, _⟩ := h
    simp only []; omega
set_option maxHeartbeats 400000 in
theorem kindOf_any (L x : Int) (a : Option Addr) (n c : Nat) (fs : List (Int × Int)) (w : World) (h : FV w (.slice a n c) fs) :
    Calls Tryd.prog 46 #[.agg #[.int .u8 L, .slice a n c], .int .u8 x] w fun e w' => e = .returned (.tuple #[.int .u8 (kdF fs x).1, .bool (kdF fs x).2]) ∧ Below w.heap.size w w' := by
  have hlt := idxF_ltU fs x
  have C := index_any L x (.slice a n c) fs (w.alloc (.cells #[.int .u8 L, .slice a n c] 79)) (h.alloc _)
  unfold kdF
  by_cases h0 : idxF fs x < 0
  · rw [if_pos h0]
    obtain ⟨i, hi⟩ : ∃ i, i = idxF fs x := ⟨_, rfl⟩
    rw [← hi] at C h0
    clear hi hlt
    go_enter Tryd.func46, Tryd.ntmps46
    go_wp2_with fail
    refine C.mono ?_
    rintro e w1 ⟨rfl, B1⟩
    have m1 : w1.cell? ⟨w.heap.size, 1, none⟩ = some (.slice a n c) := (B1.cell (p := ⟨w.heap.size, 1, none⟩) (by simp)).trans (by go_simp)
    go_wp2
    go_ret2
    exact ⟨rfl, ((Below.refl _ _).alloc (Nat.le_refl _) _).trans (B1.mono (by simp))⟩
  · rw [if_neg h0]
    obtain ⟨i, hi⟩ : ∃ i : Nat, (i : Int) = idxF fs x := ⟨(idxF fs x).toNat, by omega⟩
    rw [← hi] at C hlt ⊢
    have hin : i < fs.length := by omega
    rw [Int.toNat_natCast]
    rcases h.shape with ⟨e, rfl⟩ | ⟨g, cap, e, hg, hm, hc⟩
    · simp at hin
    cases e
    have hc1 := (hc i hin).2
    have hm' : fs.length ≤ 9223372036854775807 := by unfold maxLen at hm; omega
    generalize (fs[i]?.getD (0, 0)).2 = kd at hc1 ⊢
    generalize fs.length = m at *
    clear hi h0 hc h
    go_enter Tryd.func46, Tryd.ntmps46
    go_wp2_with fail
    refine C.mono ?_
    rintro e w1 ⟨rfl, B1⟩
    have m1 : w1.cell? ⟨w.heap.size, 1, none⟩ = some (.slice (some ⟨g, 0, none⟩) m c) := (B1.cell (p := ⟨w.heap.size, 1, none⟩) (by simp)).trans (by go_simp)
    have m2 : w1.cell? ⟨g, i * 2 + 1, none⟩ = some (.int .u8 kd) := (B1.cell (p := ⟨g, i * 2 + 1, none⟩) (by simp; omega)).trans (by go_simp)
    go_wp2
    go_ret2
    exact ⟨rfl, ((Below.refl _ _).alloc (Nat.le_refl _) _).trans (B1.mono (by simp))⟩
theorem kindOf_rs {L x : Int} {a : Option Addr} {n c : Nat} {fs : List (Int × Int)} {w : World} (h : FV w (.slice a n c) fs) (y : Int) (z : Bool) (hy : kdF fs x = (y, z)) :
    Calls Tryd.prog 46 #[.agg #[.int .u8 L, .slice a n c], .int .u8 x] w fun e w' => e = .returned (.tuple #[.int .u8 y, .bool z]) ∧ Below w.heap.size w w' := by
  have := kindOf_any L x a n c fs w h
  rw [hy] at this; exact this
set_option maxHeartbeats 400000 in
theorem isZero_any (x y z : Int) (w : World) :
    Calls Tryd.prog 48 #[.agg #[.int .u8 x, .int .i64 y, .int .i64 z]] w fun e w' => e = .returned (.bool (decide (x = 48) && decide (y = 0))) ∧ Below w.heap.size w w' := by
  by_cases h : x = 48
  · have h1 : (x == 48) = true := by simpa using h
    by_cases h2 : y = 0
    · have h3 : (y == 0) = true := by simpa using h2
      rw [decide_eq_true h, decide_eq_true h2]
      clear h h2
      go_enter Tryd.func48, Tryd.ntmps48
      go_wp2
      go_ret
      exact ⟨rfl, (Below.refl _ _).alloc (Nat.le_refl _) _⟩
    · have h3 : (y == 0) = false := by simpa using h2
      rw [decide_eq_true h, decide_eq_false h2]
      clear h h2
      go_enter Tryd.func48, Tryd.ntmps48
      go_wp2
      go_ret
      exact ⟨rfl, (Below.refl _ _).alloc (Nat.le_refl _) _⟩
  · have h1 : (x == 48) = false := by simpa using h
    rw [decide_eq_false h]
    clear h
    go_enter Tryd.func48, Tryd.ntmps48
    go_wp2
    go_ret
    exact ⟨rfl, (Below.refl _ _).alloc (Nat.le_refl _) _⟩
def tV (t : GT) : List Value := [.int .u8 t.w, .int .i64 t.v, .int .i64 t.p]
theorem flatT_map (ts : List GT) : flatT ts = ts.flatMap tV := by
  induction ts with
  | nil => rfl
  | cons t r ih => simp only [flatT, ih, List.flatMap_cons, tV, List.cons_append, List.nil_append]
def zT : GT := ⟨0, 0, 0⟩
structure TCell (w : World) (g i : Nat) (t : GT) : Prop where
  c0 : w.cell? ⟨g, i * 3, none⟩ = some (.int .u8 t.w)
  c1 : w.cell? ⟨g, i * 3 + 1, none⟩ = some (.int .i64 t.v)
  c2 : w.cell? ⟨g, i * 3 + 2, none⟩ = some (.int .i64 t.p)
theorem TCell.below {w w' : World} {B g i : Nat} {t : GT} (h : TCell w g i t) (hb : Below B w w') (hg : g < B) : TCell w' g i t :=
  ⟨(hb.cell (p := ⟨g, _, none⟩) hg).trans h.c0, (hb.cell (p := ⟨g, _, none⟩) hg).trans h.c1, (hb.cell (p := ⟨g, _, none⟩) hg).trans h.c2⟩
theorem TVb.cells {w : World} {base : Nat} {v : Value} {ts : List GT} (h : TVb w base v ts) : (v = .slice none 0 0 ∧ ts = []) ∨ ∃ g cap, v = .slice (some ⟨g, 0, none⟩) ts.length cap ∧ g < w.heap.size ∧ ts.length ≤ maxLen ∧ ∀ i, i < ts.length → TCell w g i (ts[i]?.getD zT) := by
  have h' := h
  unfold TVb at h'
  rw [flatT_map] at h'
  rcases h.2 with ⟨rfl, hn⟩ | ⟨g, cap, cur, rfl, _, hg, h1, h2, _⟩
  · exact .inl ⟨rfl, List.length_eq_zero_iff.1 hn⟩
  · refine .inr ⟨g, cap, rfl, ?_, by omega, fun i hi => ?_⟩
    · exact (World.ownsRow.lt h' g rfl).2
    · have hx := getD_of hi zT
      exact ⟨by simpa using row_cell h' (fun _ => rfl) (j := 0) hx rfl, row_cell h' (fun _ => rfl) (j := 1) hx rfl, row_cell h' (fun _ => rfl) (j := 2) hx rfl⟩
end Go.Proofs.YthckelcjncnalaaDoor
namespace Go.Proofs.YthckelcjncnalaaDoor
open Go.RowKit

def isLw (x : Int) : Bool := decide (97 ≤ x) && decide (x ≤ 122)
/-- faultOfNumber: the error and its place. -/
def fNum (fs : List (Int × Int)) : List GT → Int × Int
  | [] => (0, 0)
  | t :: r => if isLw t.w = true then (if (kdF fs t.w).2 = false then (5, t.p) else if (kdF fs t.w).1 = 114 then (6, t.p) else fNum fs r) else fNum fs r
def FN2 (R : Int × Int) (w : World) (e : Ending) (w' : World) : Prop := e = .returned (.tuple #[.int .i64 R.1, .int .i64 R.2]) ∧ Below w.heap.size w w'
theorem isLetter_rs {x y z : Int} {w : World} (q : Bool) (hq : isLw x = q) :
    Calls Tryd.prog 47 #[.agg #[.int .u8 x, .int .i64 y, .int .i64 z]] w fun e w' => e = .returned (.bool q) ∧ Below w.heap.size w w' := by
  subst hq; exact isLetter_any x y z w
set_option maxHeartbeats 400000 in
theorem fNum_nil (L : Int) (a : Option Addr) (n c : Nat) (fs : List (Int × Int)) (sp : Int) (ex : Bool) (w : World) :
    Calls Tryd.prog 42 #[.agg #[.int .u8 L, .slice a n c], .agg #[.slice none 0 0, .int .i64 sp, .bool ex]] w (FN2 (fNum fs []) w) := by
  go_enter Tryd.func42, Tryd.ntmps42
  go_wp2
  refine wp_loop_rounds 1 ?_; rw [rounds_succ]
  go_wp2
  go_ret2
  exact ⟨rfl, ((Below.refl _ _).alloc (Nat.le_refl _) _).alloc (by simp) _⟩
set_option maxHeartbeats 1000000 in
set_option maxRecDepth 20000 in
theorem fNum_row (L : Int) (a : Option Addr) (n c : Nat) (fs : List (Int × Int)) (g cap m : Nat) (ts : List GT) (sp : Int) (ex : Bool) (w : World) (hV : FV w (.slice a n c) fs) (hm : m = ts.length) (hmx : m ≤ 9223372036854775807) (hg : g < w.heap.size)
    (hc : ∀ i, i < m → TCell w g i (ts[i]?.getD zT)) :
    Calls Tryd.prog 42 #[.agg #[.int .u8 L, .slice a n c], .agg #[.slice (some ⟨g, 0, none⟩) m cap, .int .i64 sp, .bool ex]] w (FN2 (fNum fs ts) w) := by
  obtain ⟨R, hR⟩ : ∃ R, R = fNum fs ts := ⟨_, rfl⟩
  rw [← hR]
  have HR : Hid (R = fNum fs ts) := hR
  have HM : Hid (m = ts.length) := hm
  have HV : Hid (FV w (.slice a n c) fs) := hV
  have HC : Hid (∀ i, i < m → TCell w g i (ts[i]?.getD zT)) := hc
  obtain ⟨W, hW⟩ : ∃ W, W = (w.alloc (.cells #[.int .u8 L, .slice a n c] 79)).alloc (.cells #[.slice (some ⟨g, 0, none⟩) m cap, .int .i64 sp, .bool ex] 73) := ⟨_, rfl⟩
  have B0 : Below w.heap.size w W := by rw [hW]; exact ((Below.refl _ _).alloc (Nat.le_refl _) _).alloc (by simp) _
  have z0 : W.heap.size = w.heap.size + 2 := by rw [hW]; simp
  have y0 : W.cell? ⟨w.heap.size, 0, none⟩ = some (.int .u8 L) := by rw [hW]; go_simp
  have y1 : W.cell? ⟨w.heap.size, 1, none⟩ = some (.slice a n c) := by rw [hW]; go_simp
  have HB0 : Hid (Below w.heap.size w W) := B0
  clear hR hm hV hc B0
  go_enter Tryd.func42, Tryd.ntmps42
  go_wp2
  rw [← hW]
  clear hW
  go_loopw [13] (fun i wr => ∃ k : Nat, k ≤ m ∧ i = .int .i64 k ∧ R = fNum fs (ts.drop k) ∧ Below W.heap.size W wr) (fun i _ => m - (intOf i).toNat)
  case atStart => exact ⟨0, Nat.zero_le _, rfl, HR.out, Below.refl _ _⟩
  case round =>
    obtain ⟨k, hk, rfl, hr, hb⟩ := hrel
    have hsz := hb.size
    have Y0 : wr.cell? ⟨w.heap.size, 0, none⟩ = some (.int .u8 L) := (hb.cell (p := ⟨w.heap.size, 0, none⟩) (by show w.heap.size < _; omega)).trans y0
    have Y1 : wr.cell? ⟨w.heap.size, 1, none⟩ = some (.slice a n c) := (hb.cell (p := ⟨w.heap.size, 1, none⟩) (by show w.heap.size < _; omega)).trans y1
    have BW : Below w.heap.size w wr := HB0.out.trans (hb.mono (by omega))
    have hwr : w.heap.size < wr.heap.size := by omega
    by_cases hlt : k < m
    · obtain ⟨t, ht⟩ : ∃ t, t = ts[k]?.getD zT := ⟨_, rfl⟩
      have htk : ts[k]? = some t := by rw [ht]; exact getD_of (by rw [← HM.out]; exact hlt) zT
      obtain ⟨x0, x1, x2⟩ := (HC.out k hlt).below BW hg
      rw [← ht] at x0 x1 x2
      have hgr : g < wr.heap.size := by omega
      rw [drop_cons htk, fNum] at hr
      have HR1 : Hid (R = (if isLw t.w = true then (if (kdF fs t.w).2 = false then (5, t.p) else if (kdF fs t.w).1 = 114 then (6, t.p) else fNum fs (ts.drop (k + 1))) else fNum fs (ts.drop (k + 1)))) := hr
      clear ht htk hr
      cases hl : isLw t.w with
      | false =>
        have HR2 : Hid (R = fNum fs (ts.drop (k + 1))) := by show R = _; rw [HR1.out, if_neg (by rw [hl]; decide)]
        go_wp2_with fail
        refine (isLetter_rs false hl).mono ?_
        rintro e w1 ⟨rfl, B1⟩
        go_wp2
        go_roundw
        case rel => exact ⟨k + 1, by omega, by go_num, HR2.out, (hb.alloc hsz _).trans (B1.mono (by simp; omega))⟩
        case measure => simp [intOf]; omega
      | true =>
        obtain ⟨kd, kn, hkd⟩ : ∃ kd kn, kdF fs t.w = (kd, kn) := ⟨_, _, rfl⟩
        go_wp2_with fail
        refine (isLetter_rs true hl).mono ?_
        rintro e w1 ⟨rfl, B1⟩
        have B2 : Below W.heap.size W w1 := (hb.alloc hsz _).trans (B1.mono (by simp; omega))
        have B3 : Below w.heap.size w w1 := HB0.out.trans (B2.mono (by omega))
        have s1 : wr.heap.size < w1.heap.size := by have := B1.size; simp at this; omega
        have Y2 : w1.cell? ⟨w.heap.size, 0, none⟩ = some (.int .u8 L) := (B2.cell (p := ⟨w.heap.size, 0, none⟩) (by show w.heap.size < _; omega)).trans y0
        have Y3 : w1.cell? ⟨w.heap.size, 1, none⟩ = some (.slice a n c) := (B2.cell (p := ⟨w.heap.size, 1, none⟩) (by show w.heap.size < _; omega)).trans y1
        have q0 : w1.cell? ⟨wr.heap.size, 0, none⟩ = some (.int .u8 t.w) := (B1.cell (p := ⟨wr.heap.size, 0, none⟩) (by simp)).trans (by go_simp)
        have q2 : w1.cell? ⟨wr.heap.size, 2, none⟩ = some (.int .i64 t.p) := (B1.cell (p := ⟨wr.heap.size, 2, none⟩) (by simp)).trans (by go_simp)
        have KK := kindOf_rs (L := L) (x := t.w) (HV.out.below B3) kd kn hkd
        clear Y0 Y1 x0 x1 x2 B1
        go_wp2_with fail
        refine KK.mono ?_
        rintro e w2 ⟨rfl, B4⟩
        have B5 : Below W.heap.size W w2 := B2.trans (B4.mono B2.size)
        have B6 : Below w.heap.size w w2 := B3.trans (B4.mono B3.size)
        have r2 : w2.cell? ⟨wr.heap.size, 2, none⟩ = some (.int .i64 t.p) := (B4.cell (p := ⟨wr.heap.size, 2, none⟩) s1).trans q2
        clear Y2 Y3 q0 q2 KK B4
        cases kn with
        | false =>
          have HR2 : Hid (R = (5, t.p)) := by show R = _; rw [HR1.out, if_pos hl, if_pos (by rw [hkd])]
          go_wp2
          go_quiet (fail)
          go_wp2
          go_ret2
          rw [HR2.out]
          exact ⟨rfl, B6.trans ((gb_below_drew _ _).mono B6.size)⟩
        | true =>
          by_cases h114 : kd = 114
          · have HR2 : Hid (R = (6, t.p)) := by show R = _; rw [HR1.out, if_pos hl, if_neg (by rw [hkd]; simp), if_pos (by rw [hkd]; exact h114)]
            have e1 : (kd == 114) = true := by simpa using h114
            clear h114
            go_wp2
            go_quiet (fail)
            go_wp2
            go_ret2
            rw [HR2.out]
            exact ⟨rfl, B6.trans ((gb_below_drew _ _).mono B6.size)⟩
          · have HR2 : Hid (R = fNum fs (ts.drop (k + 1))) := by show R = _; rw [HR1.out, if_pos hl, if_neg (by rw [hkd]; simp), if_neg (by rw [hkd]; exact h114)]
            have e1 : (kd == 114) = false := by simpa using h114
            clear h114
            go_wp2
            go_roundw
            case rel => exact ⟨k + 1, by omega, by go_num, HR2.out, B5⟩
            case measure => simp [intOf]; omega
    · have HR2 : Hid (R = (0, 0)) := by
        show R = _
        rw [hr, List.drop_eq_nil_of_le (by rw [← HM.out]; omega)]; rfl
      go_wp2
      go_ret2
      rw [HR2.out]
      exact ⟨rfl, BW⟩
theorem faultOfNumber_any (L : Int) (a : Option Addr) (n c : Nat) (fs : List (Int × Int)) (ta : Option Addr) (tn tc : Nat) (base : Nat) (ts : List GT) (sp : Int) (ex : Bool) (w : World) (hV : FV w (.slice a n c) fs) (hT : TVb w base (.slice ta tn tc) ts) :
    Calls Tryd.prog 42 #[.agg #[.int .u8 L, .slice a n c], .agg #[.slice ta tn tc, .int .i64 sp, .bool ex]] w (FN2 (fNum fs ts) w) := by
  rcases hT.cells with ⟨e, rfl⟩ | ⟨g, cap, e, hg, hm, hc⟩
  · cases e; exact fNum_nil L a n c fs sp ex w
  · cases e; exact fNum_row L a n c fs g _ _ ts sp ex w hV rfl (by unfold maxLen at hm; omega) hg hc
end Go.Proofs.YthckelcjncnalaaDoor
