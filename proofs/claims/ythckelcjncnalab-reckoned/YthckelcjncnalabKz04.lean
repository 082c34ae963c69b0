import Derived.Test.YthckelcjncnalabKz03
import Derived.Maps.AppendAt
namespace Go.Proofs.Ythckelcjncnalab
open Go.RowKit

/-- What a reader of sums comes to. -/
structure SumR where
  ok : Bool
  at_ : Nat
  ts : List GT
def gNum (s : ByteArray) : Nat → Nat → Int → Int × Nat
  | 0, k, v => (v, k)
  | n + 1, k, v => if 48 ≤ nextB s k ∧ nextB s k ≤ 57 then (if v * 10 + (nextB s k - 48) = 0 then (0, k + 1) else gNum s n (k + 1) (v * 10 + (nextB s k - 48))) else (v, k)
def facR (s : ByteArray) (sm : Option (Nat → List GT → SumR)) (k : Nat) (ts : List GT) : SumR :=
  if 48 ≤ nextB s k ∧ nextB s k ≤ 57 then ⟨true, (gNum s 9 k 0).2, ts ++ [⟨48, (gNum s 9 k 0).1, k⟩]⟩
  else if 97 ≤ nextB s k ∧ nextB s k ≤ 122 then ⟨true, k + 1, ts ++ [⟨nextB s k, 0, k⟩]⟩
  else if nextB s k ≠ 40 then ⟨false, k, ts⟩
  else match sm with
    | none => ⟨false, k, ts⟩
    | some f => if (f (k + 1) ts).ok = true ∧ nextB s (f (k + 1) ts).at_ = 41 then ⟨true, (f (k + 1) ts).at_ + 1, (f (k + 1) ts).ts⟩ else ⟨false, (f (k + 1) ts).at_, (f (k + 1) ts).ts⟩
def opStep (s : ByteArray) (f : Nat → List GT → SumR) (r : SumR) : SumR := ⟨(f (r.at_ + 1) r.ts).ok, (f (r.at_ + 1) r.ts).at_, (f (r.at_ + 1) r.ts).ts ++ [⟨nextB s r.at_, 0, r.at_⟩]⟩
def opLoop (s : ByteArray) (p : Int → Bool) (f : Nat → List GT → SumR) : Nat → SumR → SumR
  | 0, r => r
  | n + 1, r => if r.ok = true ∧ p (nextB s r.at_) = true then opLoop s p f n (opStep s f r) else r
def isMul (c : Int) : Bool := c == 42
def isAdd (c : Int) : Bool := c == 43 || c == 45
def prodR (s : ByteArray) (sm : Option (Nat → List GT → SumR)) (k : Nat) (ts : List GT) : SumR := opLoop s isMul (facR s sm) (s.size + 1) (facR s sm k ts)
def sumR0 (s : ByteArray) (sm : Option (Nat → List GT → SumR)) (k : Nat) (ts : List GT) : SumR := opLoop s isAdd (prodR s sm) (s.size + 1) (prodR s sm k ts)
/-- A sum with so many brackets more. -/
def sumRL (s : ByteArray) : Nat → Nat → List GT → SumR
  | 0 => sumR0 s none
  | n + 1 => sumR0 s (some (sumRL s n))
def lvl (s : ByteArray) : Nat → Option (Nat → List GT → SumR)
  | 0 => none
  | n + 1 => some (sumRL s n)
theorem sumRL_lvl (s : ByteArray) (n : Nat) : sumRL s n = sumR0 s (lvl s n) := by cases n <;> rfl

/-- It goes on, and each term has a byte. -/
def Grow (f : Nat → List GT → SumR) : Prop := ∀ k ts, k ≤ (f k ts).at_ ∧ (f k ts).ts.length + k ≤ ts.length + (f k ts).at_
theorem gNum_grow (s : ByteArray) : ∀ n k v, k ≤ (gNum s n k v).2 := by
  intro n
  induction n with
  | zero => intro k v; exact Nat.le_refl _
  | succ n ih =>
    intro k v
    rw [gNum]
    split
    · split
      · exact Nat.le_succ _
      · have := ih (k + 1) (v * 10 + (nextB s k - 48)); omega
    · exact Nat.le_refl _
theorem gNum_first (s : ByteArray) (k : Nat) (h : 48 ≤ nextB s k ∧ nextB s k ≤ 57) : k + 1 ≤ (gNum s 9 k 0).2 := by
  rw [gNum, if_pos h]
  split
  · exact Nat.le_refl _
  · exact gNum_grow s 8 _ _
theorem facR_grow (s : ByteArray) (sm : Option (Nat → List GT → SumR)) (h : ∀ f, sm = some f → Grow f) : Grow (facR s sm) := by
  intro k ts
  unfold facR
  split
  · rename_i h1; have := gNum_first s k h1; refine ⟨by show k ≤ (gNum s 9 k 0).2; omega, ?_⟩; simp only [List.length_append, List.length_cons, List.length_nil]; omega
  · split
    · refine ⟨Nat.le_succ _, ?_⟩; simp only [List.length_append, List.length_cons, List.length_nil]; omega
    · split
      · exact ⟨Nat.le_refl _, Nat.le_refl _⟩
      · cases sm with
        | none => exact ⟨Nat.le_refl _, Nat.le_refl _⟩
        | some f =>
          have := h f rfl (k + 1) ts
          simp only []
          split
          · refine ⟨?_, ?_⟩ <;> simp only [] <;> omega
          · refine ⟨?_, ?_⟩ <;> simp only [] <;> omega
theorem opLoop_grow (s : ByteArray) (p : Int → Bool) (f : Nat → List GT → SumR) (h : Grow f) : ∀ n r, r.at_ ≤ (opLoop s p f n r).at_ ∧ (opLoop s p f n r).ts.length + r.at_ ≤ r.ts.length + (opLoop s p f n r).at_ := by
  intro n
  induction n with
  | zero => intro r; exact ⟨Nat.le_refl _, Nat.le_refl _⟩
  | succ n ih =>
    intro r
    rw [opLoop]
    split
    · have h1 := h (r.at_ + 1) r.ts
      have h2 := ih (opStep s f r)
      have e1 : (opStep s f r).at_ = (f (r.at_ + 1) r.ts).at_ := rfl
      have e2 : (opStep s f r).ts.length = (f (r.at_ + 1) r.ts).ts.length + 1 := by simp [opStep]
      rw [e1, e2] at h2
      omega
    · exact ⟨Nat.le_refl _, Nat.le_refl _⟩
theorem loop_grow (s : ByteArray) (p : Int → Bool) (f : Nat → List GT → SumR) (n : Nat) (h : Grow f) : Grow (fun k ts => opLoop s p f n (f k ts)) := by
  intro k ts
  have h1 := h k ts
  have h2 := opLoop_grow s p f h n (f k ts)
  simp only []
  omega
theorem prodR_grow (s : ByteArray) (sm : Option (Nat → List GT → SumR)) (h : ∀ f, sm = some f → Grow f) : Grow (prodR s sm) := loop_grow s isMul _ _ (facR_grow s sm h)
theorem sumR0_grow (s : ByteArray) (sm : Option (Nat → List GT → SumR)) (h : ∀ f, sm = some f → Grow f) : Grow (sumR0 s sm) := loop_grow s isAdd _ _ (prodR_grow s sm h)
theorem sumRL_grow (s : ByteArray) : ∀ n, Grow (sumRL s n) := by
  intro n
  induction n with
  | zero => exact sumR0_grow s none (fun f h => by cases h)
  | succ n ih => exact sumR0_grow s (some (sumRL s n)) (fun f h => by cases h; exact ih)
theorem lvl_grow (s : ByteArray) (n : Nat) : ∀ f, lvl s n = some f → Grow f := by
  intro f h
  cases n with
  | zero => cases h
  | succ n => cases h; exact sumRL_grow s n
theorem opLoop_stop (s : ByteArray) (p : Int → Bool) (f : Nat → List GT → SumR) (r : SumR) (h : ¬ (r.ok = true ∧ p (nextB s r.at_) = true)) (n : Nat) : opLoop s p f n r = r := by
  cases n with
  | zero => rfl
  | succ n => rw [opLoop, if_neg h]
theorem opLoop_step (s : ByteArray) (p : Int → Bool) (f : Nat → List GT → SumR) (r : SumR) (h : r.ok = true ∧ p (nextB s r.at_) = true) (n : Nat) : opLoop s p f (n + 1) r = opLoop s p f n (opStep s f r) := by rw [opLoop, if_pos h]

/-- What a reader of sums leaves alone: all but the reader and its terms' row; the row is as it was or a new one. -/
structure Fr (b : Nat) (v v' : Value) (w w' : World) : Prop where
  os : w'.os = w.os
  tape : w'.tape = w.tape
  output : w'.output = w.output
  size : w.heap.size ≤ w'.heap.size
  blk : ∀ k, k < w.heap.size → k ≠ b → v.ownBlock ≠ some k → w'.heap[k]? = w.heap[k]?
  own : ∀ g, v'.ownBlock = some g → v.ownBlock = some g ∨ w.heap.size ≤ g
theorem Fr.refl (b : Nat) (v : Value) (w : World) : Fr b v v w w := ⟨rfl, rfl, rfl, Nat.le_refl _, fun _ _ _ _ => rfl, fun _ h => .inl h⟩
theorem Fr.trans {b : Nat} {v v1 v2 : Value} {w w1 w2 : World} (h : Fr b v v1 w w1) (k : Fr b v1 v2 w1 w2) : Fr b v v2 w w2 :=
  ⟨k.os.trans h.os, k.tape.trans h.tape, k.output.trans h.output, Nat.le_trans h.size k.size,
   fun i hi hb hv => (k.blk i (Nat.lt_of_lt_of_le hi h.size) hb (fun e => by rcases h.own i e with e' | e'; exact hv e'; omega)).trans (h.blk i hi hb hv),
   fun g hg => by
    rcases k.own g hg with e | e
    · exact h.own g e
    · have := h.size; right; omega⟩
theorem Fr.below {b : Nat} {v : Value} {w w' : World} (h : Below w.heap.size w w') : Fr b v v w w' :=
  ⟨h.os, h.tape, h.output, h.size, fun k hk _ _ => h.block k hk, fun _ h => .inl h⟩
theorem Fr.setB (b o : Nat) (v x : Value) (w : World) : Fr b v v w (w.setCell ⟨b, o, none⟩ x) := by
  have g := gb_set w b o x
  exact ⟨g.os, g.tape, g.output, g.size, fun k hk hb _ => g.block k hk (by simpa using hb), fun _ h => .inl h⟩
/-- The reader in block b, with its terms. -/
structure RT (w : World) (b : Nat) (s : ByteArray) (k : Nat) (base : Nat) (v : Value) (ts : List GT) : Prop where
  rs : RS w b s k true
  c3 : w.cell? ⟨b, 3, none⟩ = some v
  tv : TVb w base v ts
  lt : b < base
  le : base ≤ w.heap.size
  ln : ts.length ≤ k
theorem RT.below {w w' : World} {b : Nat} {s : ByteArray} {k base : Nat} {v : Value} {ts : List GT} (h : RT w b s k base v ts) (hb : Below w.heap.size w w') : RT w' b s k base v ts :=
  ⟨h.rs.below hb, (World.cell?_of_block (a := ⟨b, 3, none⟩) (hb.block b h.rs.blt)).trans h.c3, World.ownsRow.kept h.tv (gb_below hb none) (by cases hv : v.ownBlock <;> simp), h.lt, Nat.le_trans h.le hb.size, h.ln⟩
theorem RT.alloc {w : World} {b : Nat} {s : ByteArray} {k base : Nat} {v : Value} {ts : List GT} (h : RT w b s k base v ts) (o : Obj) : RT (w.alloc o) b s k base v ts := h.below ((Below.refl _ _).alloc (Nat.le_refl _) o)
theorem RT.inc {w : World} {b : Nat} {s : ByteArray} {k base : Nat} {v : Value} {ts : List GT} (h : RT w b s k base v ts) (hk : k < s.size) : RT (w.setCell ⟨b, 1, none⟩ (.int .i64 ((k : Int) + 1))) b s (k + 1) base v ts := by
  have c3 := h.c3
  exact ⟨h.rs.inc hk, by go_simp, h.tv.setOld h.lt, h.lt, Nat.le_trans h.le (gb_set w b 1 _).size, Nat.le_succ_of_le h.ln⟩
theorem RT.own {w : World} {b : Nat} {s : ByteArray} {k base : Nat} {v : Value} {ts : List GT} (h : RT w b s k base v ts) : ∀ g, v.ownBlock = some g → base ≤ g ∧ g < w.heap.size := fun g hg => World.ownsRow.lt h.tv g hg
theorem flatT_app (a b : List GT) : flatT (a ++ b) = flatT a ++ flatT b := by
  induction a with
  | nil => rfl
  | cons x a ih => simp only [List.cons_append, flatT, ih]
/-- One term more. -/
theorem RT.app {w w2 : World} {b : Nat} {s : ByteArray} {k base : Nat} {v v' : Value} {ts : List GT} {t : GT} {o : Obj} (h : RT w b s k base v ts) (hl : ts.length + 1 ≤ k)
    (hown : w2.ownsRow base 154 3 v' (ts.length + 1) (flatT ts ++ [.int .u8 t.w, .int .i64 t.v, .int .i64 t.p])) (hg : (w.alloc o).grownBy w2 v.ownBlock) (hat : v'.ownBlock = v.ownBlock ∨ v'.ownBlock = some (w.alloc o).heap.size) :
    RT (w2.setCell ⟨b, 3, none⟩ v') b s k base v' (ts ++ [t]) ∧ Fr b v v' w (w2.setCell ⟨b, 3, none⟩ v') := by
  have g1 : w.grownBy w2 v.ownBlock := gb_trans (World.grownBy_alloc w o _) hg
  have hb : some b ≠ v.ownBlock := fun e => by have := (h.own b e.symm).1; have := h.lt; omega
  have R2 : RS w2 b s k true := h.rs.kept g1 hb
  have hb2 : b < w2.heap.size := R2.blt
  obtain ⟨z, c3⟩ := R2.c3
  have R3 : RS (w2.setCell ⟨b, 3, none⟩ v') b s k true := by
    obtain ⟨c0, c1, c2, _, f1, f3, le, lt⟩ := R2
    exact ⟨by go_simp, by go_simp, by go_simp, ⟨v', by go_simp⟩, by go_simp, by go_simp, le, lt⟩
  have e : flatT (ts ++ [t]) = flatT ts ++ [.int .u8 t.w, .int .i64 t.v, .int .i64 t.p] := flatT_app ts [t]
  have T2 : TVb w2 base v' (ts ++ [t]) := by unfold TVb; rw [e, List.length_append]; exact hown
  refine ⟨⟨R3, by go_simp, T2.setOld h.lt, h.lt, Nat.le_trans h.le (Nat.le_trans g1.size (gb_set w2 b 3 v').size), by simpa using hl⟩, ?_⟩
  refine ⟨g1.os, g1.tape, g1.output, Nat.le_trans g1.size (gb_set w2 b 3 v').size, fun i hi hib hv => ?_, fun g hg => ?_⟩
  · exact ((gb_set w2 b 3 v').block i (Nat.lt_of_lt_of_le hi g1.size) (by simpa using hib)).trans (g1.block i hi (fun e => hv e.symm))
  · rcases hat with e | e
    · exact .inl (by rw [← e]; exact hg)
    · right; rw [e] at hg; injection hg with hg; subst hg; simp
end Go.Proofs.Ythckelcjncnalab
