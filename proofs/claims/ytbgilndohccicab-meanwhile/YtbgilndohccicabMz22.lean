import Derived.Test.YtbgilndohccicabMz11
import Derived.Maps.AppendAt
namespace Go.Proofs.Ytbgilndohccicab
open Go.RowKit

/-- What a reader of sums comes to. -/
structure SumR where
  ok : Bool
  at_ : Nat
  ts : List GT
def gNum (s : ByteArray) : Nat → Nat → Int → Int × Nat
  | 0, k, v => (v, k)
  | n + 1, k, v => if 48 ≤ nextB s k ∧ nextB s k ≤ 57 then (if v * 10 + (nextB s k - 48) = 0 then (0, k + 1) else gNum s n (k + 1) (v * 10 + (nextB s k - 48))) else (v, k)
def facR (s : ByteArray) (sm : Option (Nat → List GT → SumR)) (k : Nat) (ts : List GT) : SumR :=
  if 48 ≤ nextB s k ∧ nextB s k ≤ 57 then ⟨true, (gNum s 9 k 0).2, ts ++ [⟨48, (gNum s 9 k 0).1, k⟩]⟩
  else if 97 ≤ nextB s k ∧ nextB s k ≤ 122 then ⟨true, k + 1, ts ++ [⟨nextB s k, 0, k⟩]⟩
  else if nextB s k ≠ 40 then ⟨false, k, ts⟩
  else match sm with
    | none => ⟨false, k, ts⟩
    | some f => if (f (k + 1) ts).ok = true ∧ nextB s (f (k + 1) ts).at_ = 41 then ⟨true, (f (k + 1) ts).at_ + 1, (f (k + 1) ts).ts⟩ else ⟨false, (f (k + 1) ts).at_, (f (k + 1) ts).ts⟩
def opStep (s : ByteArray) (f : Nat → List GT → SumR) (r : SumR) : SumR := ⟨(f (r.at_ + 1) r.ts).ok, (f (r.at_ + 1) r.ts).at_, (f (r.at_ + 1) r.ts).ts ++ [⟨nextB s r.at_, 0, r.at_⟩]⟩
def opLoop (s : ByteArray) (p : Int → Bool) (f : Nat → List GT → SumR) : Nat → SumR → SumR
  | 0, r => r
  | n + 1, r => if r.ok = true ∧ p (nextB s r.at_) = true then opLoop s p f n (opStep s f r) else r
def isMul (c : Int) : Bool := c == 42
def isAdd (c : Int) : Bool := c == 43 || c == 45
def prodR (s : ByteArray) (sm : Option (Nat → List GT → SumR)) (k : Nat) (ts : List GT) : SumR := opLoop s isMul (facR s sm) (s.size + 1) (facR s sm k ts)
def sumR0 (s : ByteArray) (sm : Option (Nat → List GT → SumR)) (k : Nat) (ts : List GT) : SumR := opLoop s isAdd (prodR s sm) (s.size + 1) (prodR s sm k ts)
/-- A sum with so many brackets more. -/
def sumRL (s : ByteArray) : Nat → Nat → List GT → SumR
  | 0 => sumR0 s none
  | n + 1 => sumR0 s (some (sumRL s n))
def lvl (s : ByteArray) : Nat → Option (Nat → List GT → SumR)
  | 0 => none
  | n + 1 => some (sumRL s n)
theorem sumRL_lvl (s : ByteArray) (n : Nat) : sumRL s n = sumR0 s (lvl s n) := by cases n <;> rfl

/-- It goes on, and each term has a byte. -/
def Grow (f : Nat → List GT → SumR) : Prop := ∀ k ts, k ≤ (f k ts).at_ ∧ (f k ts).ts.length + k ≤ ts.length + (f k ts).at_
theorem gNum_grow (s : ByteArray) : ∀ n k v, k ≤ (gNum s n k v).2 := by
  intro n
  induction n with
  | zero => intro k v; exact Nat.le_refl _
  | succ n ih =>
    intro k v
    rw [gNum]
    split
    · split
      · exact Nat.le_succ _
      · have := ih (k + 1) (v * 10 + (nextB s k - 48)); omega
    · exact Nat.le_refl _
theorem gNum_first (s : ByteArray) (k : Nat) (h : 48 ≤ nextB s k ∧ nextB s k ≤ 57) : k + 1 ≤ (gNum s 9 k 0).2 := by
  rw [gNum, if_pos h]
  split
  · exact Nat.le_refl _
  · exact gNum_grow s 8 _ _
theorem facR_grow (s : ByteArray) (sm : Option (Nat → List GT → SumR)) (h : ∀ f, sm = some f → Grow f) : Grow (facR s sm) := by
  intro k ts
  unfold facR
  split
  · rename_i h1; have := gNum_first s k h1; refine ⟨by show k ≤ (gNum s 9 k 0).2; omega, ?_⟩; simp only [List.length_append, List.length_cons, List.length_nil]; omega
  · split
    · refine ⟨Nat.le_succ _, ?_⟩; simp only [List.length_append, List.length_cons, List.length_nil]; omega
    · split
      · exact ⟨Nat.le_refl _, Nat.le_refl _⟩
      · cases sm with
        | none => exact ⟨Nat.le_refl _, Nat.le_refl _⟩
        | some f =>
          have := h f rfl (k + 1) ts
          simp only []
          split
          · refine ⟨?_, ?_⟩ <;> simp only [] <;> omega
          · refine ⟨?_, ?_⟩ <;> simp only [] <;> omega
theorem opLoop_grow (s : ByteArray) (p : Int → Bool) (f : Nat → List GT → SumR) (h : Grow f) : ∀ n r, r.at_ ≤ (opLoop s p f n r).at_ ∧ (opLoop s p f n r).ts.length + r.at_ ≤ r.ts.length + (opLoop s p f n r).at_ := by
  intro n
  induction n with
  | zero => intro r; exact ⟨Nat.le_refl _, Nat.le_refl _⟩
  | succ n ih =>
    intro r
    rw [opLoop]
    split
    · have h1 := h (r.at_ + 1) r.ts
      have h2 := ih (opStep s f r)
      have e1 : (opStep s f r).at_ = (f (r.at_ + 1) r.ts).at_ := rfl
      have e2 : (opStep s f r).ts.length = (f (r.at_ + 1) r.ts).ts.length + 1 := by simp [opStep]
      rw [e1, e2] at h2
      omega
    · exact ⟨Nat.le_refl _, Nat.le_refl _⟩
theorem loop_grow (s : ByteArray) (p : Int → Bool) (f : Nat → List GT → SumR) (n : Nat) (h : Grow f) : Grow (fun k ts => opLoop s p f n (f k ts)) := by
  intro k ts
  have h1 := h k ts
  have h2 := opLoop_grow s p f h n (f k ts)
  simp only []
  omega
theorem prodR_grow (s : ByteArray) (sm : Option (Nat → List GT → SumR)) (h : ∀ f, sm = some f → Grow f) : Grow (prodR s sm) := loop_grow s isMul _ _ (facR_grow s sm h)
theorem sumR0_grow (s : ByteArray) (sm : Option (Nat → List GT → SumR)) (h : ∀ f, sm = some f → Grow f) : Grow (sumR0 s sm) := loop_grow s isAdd _ _ (prodR_grow s sm h)
theorem sumRL_grow (s : ByteArray) : ∀ n, Grow (sumRL s n) := by
  intro n
  induction n with
  | zero => exact sumR0_grow s none (fun f h => by cases h)
  | succ n ih => exact sumR0_grow s (some (sumRL s n)) (fun f h => by cases h; exact ih)
theorem lvl_grow (s : ByteArray) (n : Nat) : ∀ f, lvl s n = some f → Grow f := by
  intro f h
  cases n with
  | zero => cases h
  | succ n => cases h; exact sumRL_grow s n
theorem opLoop_stop (s : ByteArray) (p : Int → Bool) (f : Nat → List GT → SumR) (r : SumR) (h : ¬ (r.ok = true ∧ p (nextB s r.at_) = true)) (n : Nat) : opLoop s p f n r = r := by
  cases n with
  | zero => rfl
  | succ n => rw [opLoop, if_neg h]
theorem opLoop_step (s : ByteArray) (p : Int → Bool) (f : Nat → List GT → SumR) (r : SumR) (h : r.ok = true ∧ p (nextB s r.at_) = true) (n : Nat) : opLoop s p f (n + 1) r = opLoop s p f n (opStep s f r) := by rw [opLoop, if_pos h]

/-- What a reader of sums leaves alone: all but the reader and its terms' row; the row is as it was or a new one. -/
structure Fr (b : Nat) (v v' : Value) (w w' : World) : Prop where
  os : w'.os = w.os
  tape : w'.tape = w.tape
  output : w'.output = w.output
  size : w.heap.size ≤ w'.heap.size
  blk : ∀ k, k < w.heap.size → k ≠ b → v.ownBlock ≠ some k → w'.heap[k]? = w.heap[k]?
  own : ∀ g, v'.ownBlock = some g → v.ownBlock = some g ∨ w.heap.size ≤ g
theorem Fr.refl (b : Nat) (v : Value) (w : World) : Fr b v v w w := ⟨rfl, rfl, rfl, Nat.le_refl _, fun _ _ _ _ => rfl, fun _ h => .inl h⟩
theorem Fr.trans {b : Nat} {v v1 v2 : Value} {w w1 w2 : World} (h : Fr b v v1 w w1) (k : Fr b v1 v2 w1 w2) : Fr b v v2 w w2 :=
  ⟨k.os.trans h.os, k.tape.trans h.tape, k.output.trans h.output, Nat.le_trans h.size k.size,
   fun i hi hb hv => (k.blk i (Nat.lt_of_lt_of_le hi h.size) hb (fun e => by rcases h.own i e with e' | e'; exact hv e'; omega)).trans (h.blk i hi hb hv),
   fun g hg => by
    rcases k.own g hg with e | e
    · exact h.own g e
    · have := h.size; right; omega⟩
theorem Fr.below {b : Nat} {v : Value} {w w' : World} (h : Below w.heap.size w w') : Fr b v v w w' :=
  ⟨h.os, h.tape, h.output, h.size, fun k hk _ _ => h.block k hk, fun _ h => .inl h⟩
theorem Fr.setB (b o : Nat) (v x : Value) (w : World) : Fr b v v w (w.setCell ⟨b, o, none⟩ x) := by
  have g := gb_set w b o x
  exact ⟨g.os, g.tape, g.output, g.size, fun k hk hb _ => g.block k hk (by simpa using hb), fun _ h => .inl h⟩
/-- The reader in block b, with its terms. -/
structure RT (w : World) (b : Nat) (s : ByteArray) (k : Nat) (base : Nat) (v : Value) (ts : List GT) : Prop where
  rs : RS w b s k true
  c3 : w.cell? ⟨b, 3, none⟩ = some v
  tv : TVb w base v ts
  lt : b < base
  le : base ≤ w.heap.size
  ln : ts.length ≤ k
theorem RT.below {w w' : World} {b : Nat} {s : ByteArray} {k base : Nat} {v : Value} {ts : List GT} (h : RT w b s k base v ts) (hb : Below w.heap.size w w') : RT w' b s k base v ts :=
  ⟨h.rs.below hb, (World.cell?_of_block (a := ⟨b, 3, none⟩) (hb.block b h.rs.blt)).trans h.c3, World.ownsRow.kept h.tv (gb_below hb none) (by cases hv : v.ownBlock <;> simp), h.lt, Nat.le_trans h.le hb.size, h.ln⟩
theorem RT.alloc {w : World} {b : Nat} {s : ByteArray} {k base : Nat} {v : Value} {ts : List GT} (h : RT w b s k base v ts) (o : Obj) : RT (w.alloc o) b s k base v ts := h.below ((Below.refl _ _).alloc (Nat.le_refl _) o)
theorem RT.inc {w : World} {b : Nat} {s : ByteArray} {k base : Nat} {v : Value} {ts : List GT} (h : RT w b s k base v ts) (hk : k < s.size) : RT (w.setCell ⟨b, 1, none⟩ (.int .i64 ((k : Int) + 1))) b s (k + 1) base v ts := by
  have c3 := h.c3
  exact ⟨h.rs.inc hk, by go_simp, h.tv.setOld h.lt, h.lt, Nat.le_trans h.le (gb_set w b 1 _).size, Nat.le_succ_of_le h.ln⟩
theorem RT.own {w : World} {b : Nat} {s : ByteArray} {k base : Nat} {v : Value} {ts : List GT} (h : RT w b s k base v ts) : ∀ g, v.ownBlock = some g → base ≤ g ∧ g < w.heap.size := fun g hg => World.ownsRow.lt h.tv g hg
theorem flatT_app (a b : List GT) : flatT (a ++ b) = flatT a ++ flatT b := by
  induction a with
  | nil => rfl
  | cons x a ih => simp only [List.cons_append, flatT, ih]
/-- One term more. -/
theorem RT.app {w w2 : World} {b : Nat} {s : ByteArray} {k base : Nat} {v v' : Value} {ts : List GT} {t : GT} {o : Obj} (h : RT w b s k base v ts) (hl : ts.length + 1 ≤ k)
    (hown : w2.ownsRow base 191 3 v' (ts.length + 1) (flatT ts ++ [.int .u8 t.w, .int .i64 t.v, .int .i64 t.p])) (hg : (w.alloc o).grownBy w2 v.ownBlock) (hat : v'.ownBlock = v.ownBlock ∨ v'.ownBlock = some (w.alloc o).heap.size) :
    RT (w2.setCell ⟨b, 3, none⟩ v') b s k base v' (ts ++ [t]) ∧ Fr b v v' w (w2.setCell ⟨b, 3, none⟩ v') := by
  have g1 : w.grownBy w2 v.ownBlock := gb_trans (World.grownBy_alloc w o _) hg
  have hb : some b ≠ v.ownBlock := fun e => by have := (h.own b e.symm).1; have := h.lt; omega
  have R2 : RS w2 b s k true := h.rs.kept g1 hb
  have hb2 : b < w2.heap.size := R2.blt
  obtain ⟨z, c3⟩ := R2.c3
  have R3 : RS (w2.setCell ⟨b, 3, none⟩ v') b s k true := by
    obtain ⟨c0, c1, c2, _, f1, f3, le, lt⟩ := R2
    exact ⟨by go_simp, by go_simp, by go_simp, ⟨v', by go_simp⟩, by go_simp, by go_simp, le, lt⟩
  have e : flatT (ts ++ [t]) = flatT ts ++ [.int .u8 t.w, .int .i64 t.v, .int .i64 t.p] := flatT_app ts [t]
  have T2 : TVb w2 base v' (ts ++ [t]) := by unfold TVb; rw [e, List.length_append]; exact hown
  refine ⟨⟨R3, by go_simp, T2.setOld h.lt, h.lt, Nat.le_trans h.le (Nat.le_trans g1.size (gb_set w2 b 3 v').size), by simpa using hl⟩, ?_⟩
  refine ⟨g1.os, g1.tape, g1.output, Nat.le_trans g1.size (gb_set w2 b 3 v').size, fun i hi hib hv => ?_, fun g hg => ?_⟩
  · exact ((gb_set w2 b 3 v').block i (Nat.lt_of_lt_of_le hi g1.size) (by simpa using hib)).trans (g1.block i hi (fun e => hv e.symm))
  · rcases hat with e | e
    · exact .inl (by rw [← e]; exact hg)
    · right; rw [e] at hg; injection hg with hg; subst hg; simp
end Go.Proofs.Ytbgilndohccicab
namespace Go.Proofs.Ytbgilndohccicab
open Go.RowKit

/-- Reckoning on a pile, its top behind. -/
def joinI (a s b : Int) : Int := if s = 43 then wrap64 (a + b) else if s = 45 then wrap64 (a - b) else wrap64 (a * b)
def isOpB (c : Int) : Bool := c == 43 || c == 45 || c == 42
def top (l : List Int) : Int := l.getLast?.getD 0
def ev1 (num : Int → Int) (t : GT) (l : List Int) : List Int := if isOpB t.w = true then l.dropLast.dropLast ++ [joinI (top l.dropLast) t.w (top l)] else if t.w = 48 then l ++ [t.v] else l ++ [num t.w]
def ev (num : Int → Int) : List GT → List Int → List Int
  | [], l => l
  | t :: r, l => ev num r (ev1 num t l)
theorem ev_app (num : Int → Int) : ∀ (a b : List GT) (l : List Int), ev num (a ++ b) l = ev num b (ev num a l) := by
  intro a
  induction a with
  | nil => intro b l; rfl
  | cons t r ih => intro b l; exact ih b _
theorem ev_sign (num : Int → Int) (s p : Int) (hs : isOpB s = true) (l : List Int) (n m : Int) : ev num [⟨s, 0, p⟩] (l ++ [n] ++ [m]) = l ++ [joinI n s m] := by
  show ev1 num ⟨s, 0, p⟩ (l ++ [n] ++ [m]) = _
  unfold ev1
  simp only []
  rw [if_pos hs]
  unfold top
  rw [List.dropLast_concat, List.dropLast_concat]
  simp
end Go.Proofs.Ytbgilndohccicab
namespace Go.Proofs.Ytbgilndohccicab
open Go.RowKit

/-- A text as numbers. -/
def bytesOf (s : ByteArray) : List Int := s.data.toList.map (fun b => (b.toNat : Int))
theorem bytesOf_app (a b : ByteArray) : bytesOf (a ++ b) = bytesOf a ++ bytesOf b := by
  simp only [bytesOf, ByteArray.data_append, Array.toList_append, List.map_append]
theorem bytesOf_len (s : ByteArray) : (bytesOf s).length = s.size := by simp only [bytesOf, List.length_map, Array.length_toList]; rfl
theorem nextB_bytes (s : ByteArray) (k : Nat) : nextB s k = (bytesOf s)[k]?.getD 0 := by
  by_cases h : k < s.size
  · rw [nextB_in h]
    have hk : k < s.data.toList.length := by rw [Array.length_toList]; exact h
    simp only [bytesOf, List.getElem?_map, List.getElem?_eq_getElem hk, Option.map_some, Option.getD_some]
    rfl
  · rw [nextB_out h, List.getElem?_eq_none (by rw [bytesOf_len]; omega)]; rfl
/-- t stands in s from the place k on. -/
def At (s : ByteArray) (k : Nat) (t : List Int) : Prop := ∀ j, j < t.length → nextB s (k + j) = t[j]?.getD 0
theorem At.left {s : ByteArray} {k : Nat} {a b : List Int} (h : At s k (a ++ b)) : At s k a := fun j hj => by
  rw [h j (by simp; omega), List.getElem?_append_left hj]
theorem At.right {s : ByteArray} {k : Nat} {a b : List Int} (h : At s k (a ++ b)) : At s (k + a.length) b := fun j hj => by
  have := h (a.length + j) (by simp; omega)
  rw [List.getElem?_append_right (by omega), show a.length + j - a.length = j by omega] at this
  rw [← this]; congr 1; omega
theorem At.all {s : ByteArray} {t : List Int} (h : bytesOf s = t) : At s 0 t := fun j _ => by rw [Nat.zero_add, nextB_bytes, h]
theorem At.head {s : ByteArray} {k : Nat} {x : Int} {t : List Int} (h : At s k (x :: t)) : nextB s k = x := by
  have := h 0 (by simp); simpa using this
theorem At.tail {s : ByteArray} {k : Nat} {x : Int} {t : List Int} (h : At s k (x :: t)) : At s (k + 1) t := by
  have : At s k ([x] ++ t) := h
  exact this.right
/-- The digits of a number. -/
def dgL (n : Nat) : List Int := if n < 10 then [48 + (n : Int)] else dgL (n / 10) ++ [48 + ((n % 10 : Nat) : Int)]
theorem dgL_lt {n : Nat} (h : n < 10) : dgL n = [48 + (n : Int)] := by rw [dgL, if_pos h]
theorem dgL_ge {n : Nat} (h : ¬ n < 10) : dgL n = dgL (n / 10) ++ [48 + ((n % 10 : Nat) : Int)] := by rw [dgL, if_neg h]
theorem dgL_len : ∀ j n, n < 10 ^ (j + 1) → (dgL n).length ≤ j + 1 := by
  intro j
  induction j with
  | zero => intro n h; rw [dgL_lt (by simpa using h)]; simp
  | succ j ih =>
    intro n h
    by_cases hn : n < 10
    · rw [dgL_lt hn]; simp
    · rw [dgL_ge hn]
      have := ih (n / 10) (by rw [Nat.pow_succ] at h; omega)
      simp; omega
theorem dgL_pos (n : Nat) : 0 < (dgL n).length := by
  by_cases hn : n < 10
  · rw [dgL_lt hn]; simp
  · rw [dgL_ge hn]; simp
theorem dgL_head {T : ByteArray} {n : Nat} : ∀ {k}, At T k (dgL n) → 48 ≤ nextB T k ∧ nextB T k ≤ 57 := by
  induction n using Nat.strongRecOn with
  | ind n ih =>
    intro k h
    by_cases hn : n < 10
    · rw [dgL_lt hn] at h; rw [h.head]; omega
    · rw [dgL_ge hn] at h; exact ih (n / 10) (by omega) h.left
theorem gNum_dg (T : ByteArray) : ∀ n, 0 < n → ∀ m k, (dgL n).length ≤ m → At T k (dgL n) → gNum T m k 0 = gNum T (m - (dgL n).length) (k + (dgL n).length) n := by
  intro n
  induction n using Nat.strongRecOn with
  | ind n ih =>
    intro h0 m k hm hA
    by_cases hn : n < 10
    · rw [dgL_lt hn] at hA hm ⊢
      obtain ⟨q, rfl⟩ : ∃ q, m = q + 1 := ⟨m - 1, by simp at hm; omega⟩
      have e := hA.head
      rw [gNum, if_pos (by omega), if_neg (by omega), e]
      have e1 : (0 : Int) * 10 + (48 + (n : Int) - 48) = n := by omega
      rw [e1]; rfl
    · rw [dgL_ge hn] at hA hm ⊢
      have e := hA.right.head
      simp only [List.length_append, List.length_cons, List.length_nil] at hm ⊢
      rw [ih (n / 10) (by omega) (by omega) m k (by omega) hA.left]
      obtain ⟨q, hq⟩ : ∃ q, m - (dgL (n / 10)).length = q + 1 := ⟨m - (dgL (n / 10)).length - 1, by omega⟩
      rw [hq, gNum, if_pos (by omega), if_neg (by omega), e]
      have e1 : ((n / 10 : Nat) : Int) * 10 + (48 + ((n % 10 : Nat) : Int) - 48) = n := by omega
      rw [e1]
      congr 1
      omega
def facStop (c : Int) : Prop := ¬ (48 ≤ c ∧ c ≤ 57)
theorem gNum_all (T : ByteArray) (n : Nat) (h : n < 1000000000) (k : Nat) (hA : At T k (dgL n)) (hs : facStop (nextB T (k + (dgL n).length))) : gNum T 9 k 0 = ((n : Int), k + (dgL n).length) := by
  by_cases h0 : n = 0
  · subst h0
    rw [dgL_lt (by omega)] at hA ⊢
    have e := hA.head
    rw [gNum, if_pos (by omega), if_pos (by omega)]; rfl
  · rw [gNum_dg T n (by omega) 9 k (dgL_len 8 n (by simpa using h)) hA]
    cases hq : 9 - (dgL n).length with
    | zero => rfl
    | succ q => rw [gNum, if_neg hs]
/-- The sums that the dice write, and what they mean. -/
inductive Fac (v w : Int) (S : List Int → Int → Prop) : List Int → Int → Prop
  | num (n : Nat) (h : n < 1000000000) : Fac v w S (dgL n) n
  | x : Fac v w S [120] v
  | y : Fac v w S [121] w
  | par {s : List Int} {n : Int} (h : S s n) : Fac v w S (40 :: (s ++ [41])) n
inductive Prd (F : List Int → Int → Prop) : List Int → Int → Prop
  | one {s : List Int} {n : Int} (h : F s n) : Prd F s n
  | more {s t : List Int} {n m : Int} (h : Prd F s n) (g : F t m) : Prd F (s ++ 42 :: t) (wrap64 (n * m))
inductive Smm (P : List Int → Int → Prop) : List Int → Int → Prop
  | one {s : List Int} {n : Int} (h : P s n) : Smm P s n
  | add {s t : List Int} {n m : Int} (h : Smm P s n) (g : P t m) : Smm P (s ++ 43 :: t) (wrap64 (n + m))
  | sub {s t : List Int} {n m : Int} (h : Smm P s n) (g : P t m) : Smm P (s ++ 45 :: t) (wrap64 (n - m))
def SumS (v w : Int) : Nat → (List Int → Int → Prop)
  | 0 => fun _ _ => False
  | d + 1 => Smm (Prd (Fac v w (SumS v w d)))
def okT (t : GT) : Prop := isOpB t.w = true ∨ t.w = 48 ∨ t.w = 120 ∨ t.w = 121
/-- A text is read as it was meant. -/
def Rd (T : ByteArray) (num : Int → Int) (stop : Int → Prop) (f : Nat → List GT → SumR) (s : List Int) (n : Int) : Prop :=
  ∀ k, At T k s → k + s.length ≤ T.size → stop (nextB T (k + s.length)) → ∃ ps, (∀ ts, f k ts = ⟨true, k + s.length, ts ++ ps⟩) ∧ (∀ l, ev num ps l = l ++ [n]) ∧ (∀ t ∈ ps, okT t) ∧ 0 < ps.length
def prdStop (c : Int) : Prop := facStop c ∧ isMul c = false
def sumStop (c : Int) : Prop := prdStop c ∧ isAdd c = false
theorem fac_rd {T : ByteArray} {num : Int → Int} {v w : Int} (hx : num 120 = v) (hy : num 121 = w) {S : List Int → Int → Prop} {sm : Option (Nat → List GT → SumR)} (hS : ∀ s n, S s n → ∃ f, sm = some f ∧ Rd T num sumStop f s n) {s : List Int} {n : Int} (h : Fac v w S s n) : Rd T num facStop (facR T sm) s n := by
  intro k hA hk hst
  cases h with
  | num n h =>
    have hd := dgL_head hA
    have hg := gNum_all T n h k hA hst
    refine ⟨[⟨48, n, k⟩], fun ts => ?_, fun l => ?_, fun t ht => ?_, by simp⟩
    · unfold facR; rw [if_pos hd, hg]
    · rfl
    · simp at ht; subst ht; exact .inr (.inl rfl)
  | x =>
    have e := hA.head
    refine ⟨[⟨120, 0, k⟩], fun ts => ?_, fun l => ?_, fun t ht => ?_, by simp⟩
    · unfold facR; rw [if_neg (by omega), if_pos (by omega), e]; rfl
    · show l ++ [num 120] = _; rw [hx]
    · simp at ht; subst ht; exact .inr (.inr (.inl rfl))
  | y =>
    have e := hA.head
    refine ⟨[⟨121, 0, k⟩], fun ts => ?_, fun l => ?_, fun t ht => ?_, by simp⟩
    · unfold facR; rw [if_neg (by omega), if_pos (by omega), e]; rfl
    · show l ++ [num 121] = _; rw [hy]
    · simp at ht; subst ht; exact .inr (.inr (.inr rfl))
  | @par s n h =>
    obtain ⟨f, rfl, hf⟩ := hS s n h
    have e := hA.head
    have hA2 := hA.tail
    have e2 := hA2.right.head
    simp only [List.length_cons, List.length_append, List.length_nil] at hk hst
    obtain ⟨ps, h1, h2, h3, h4⟩ := hf (k + 1) hA2.left (by omega) (by rw [e2]; exact ⟨⟨by unfold facStop; omega, rfl⟩, rfl⟩)
    refine ⟨ps, fun ts => ?_, h2, h3, h4⟩
    unfold facR
    rw [if_neg (by omega), if_neg (by omega), if_neg (by omega)]
    simp only [h1]
    rw [if_pos ⟨trivial, e2⟩]
    simp only [List.length_cons, List.length_append, List.length_nil]
    congr 1
    omega
theorem prd_st {T : ByteArray} {num : Int → Int} {f : Nat → List GT → SumR} {F : List Int → Int → Prop} (hF : ∀ s n, F s n → Rd T num facStop f s n) {s : List Int} {n : Int} (h : Prd F s n) : ∀ k, At T k s → k + s.length ≤ T.size → facStop (nextB T (k + s.length)) →
    ∃ ps j, j ≤ s.length ∧ (∀ ts m, opLoop T isMul f (m + j) (f k ts) = opLoop T isMul f m ⟨true, k + s.length, ts ++ ps⟩) ∧ (∀ l, ev num ps l = l ++ [n]) ∧ (∀ t ∈ ps, okT t) ∧ 0 < ps.length := by
  induction h with
  | one h =>
    intro k hA hk hst
    obtain ⟨ps, h1, h2, h3, h4⟩ := hF _ _ h k hA hk hst
    exact ⟨ps, 0, Nat.zero_le _, fun ts m => by rw [h1]; rfl, h2, h3, h4⟩
  | @more s t n m h g ih =>
    intro k hA hk hst
    have e := hA.right.head
    have hA2 := hA.right.tail
    simp only [List.length_cons, List.length_append] at hk hst
    obtain ⟨ps1, j1, g1, g2, g3, g4, g5⟩ := ih k hA.left (by omega) (by rw [e]; unfold facStop; omega)
    obtain ⟨ps2, p1, p2, p3, p4⟩ := hF t m g (k + s.length + 1) hA2 (by omega) (by rw [show k + s.length + 1 + t.length = k + (s.length + (t.length + 1)) by omega]; exact hst)
    refine ⟨ps1 ++ ps2 ++ [⟨42, 0, ((k + s.length : Nat) : Int)⟩], j1 + 1, by simp; omega, fun ts q => ?_, fun l => ?_, fun x hx => ?_, by simp; omega⟩
    · rw [show q + (j1 + 1) = q + 1 + j1 by omega, g2, opLoop_step T isMul f _ ⟨rfl, by simp only [e]; rfl⟩]
      congr 1
      unfold opStep
      simp only [p1, e]
      simp only [List.length_cons, List.length_append, List.append_assoc]
      congr 1
      omega
    · rw [ev_app, ev_app, g3, p2, ev_sign num 42 _ rfl]; rfl
    · rcases List.mem_append.1 hx with hx | hx
      · rcases List.mem_append.1 hx with hx | hx
        · exact g4 x hx
        · exact p3 x hx
      · simp at hx; subst hx; exact .inl rfl
theorem prd_rd {T : ByteArray} {num : Int → Int} {sm : Option (Nat → List GT → SumR)} {F : List Int → Int → Prop} (hF : ∀ s n, F s n → Rd T num facStop (facR T sm) s n) {s : List Int} {n : Int} (h : Prd F s n) : Rd T num prdStop (prodR T sm) s n := by
  intro k hA hk hst
  obtain ⟨ps, j, hj, h1, h2, h3, h4⟩ := prd_st hF h k hA hk hst.1
  refine ⟨ps, fun ts => ?_, h2, h3, h4⟩
  unfold prodR
  have e := h1 ts (T.size + 1 - j)
  rw [show T.size + 1 - j + j = T.size + 1 by omega] at e
  rw [e, opLoop_stop]
  simp only [hst.2]
  simp
theorem smm_st {T : ByteArray} {num : Int → Int} {f : Nat → List GT → SumR} {P : List Int → Int → Prop} (hP : ∀ s n, P s n → Rd T num prdStop f s n) {s : List Int} {n : Int} (h : Smm P s n) : ∀ k, At T k s → k + s.length ≤ T.size → prdStop (nextB T (k + s.length)) →
    ∃ ps j, j ≤ s.length ∧ (∀ ts m, opLoop T isAdd f (m + j) (f k ts) = opLoop T isAdd f m ⟨true, k + s.length, ts ++ ps⟩) ∧ (∀ l, ev num ps l = l ++ [n]) ∧ (∀ t ∈ ps, okT t) ∧ 0 < ps.length := by
  have step : ∀ (c : Int) (hc : isAdd c = true) (s t : List Int) (n m : Int) (g : P t m) (ih : ∀ k, At T k s → k + s.length ≤ T.size → prdStop (nextB T (k + s.length)) →
    ∃ ps j, j ≤ s.length ∧ (∀ ts m, opLoop T isAdd f (m + j) (f k ts) = opLoop T isAdd f m ⟨true, k + s.length, ts ++ ps⟩) ∧ (∀ l, ev num ps l = l ++ [n]) ∧ (∀ t ∈ ps, okT t) ∧ 0 < ps.length) (k : Nat) (hA : At T k (s ++ c :: t)) (hk : k + (s ++ c :: t).length ≤ T.size) (hst : prdStop (nextB T (k + (s ++ c :: t).length))),
    ∃ ps j, j ≤ (s ++ c :: t).length ∧ (∀ ts m, opLoop T isAdd f (m + j) (f k ts) = opLoop T isAdd f m ⟨true, k + (s ++ c :: t).length, ts ++ ps⟩) ∧ (∀ l, ev num ps l = l ++ [joinI n c m]) ∧ (∀ t ∈ ps, okT t) ∧ 0 < ps.length := by
    intro c hc s t n m g ih k hA hk hst
    have hc' : c = 43 ∨ c = 45 := by unfold isAdd at hc; simpa using hc
    have hsg : isOpB c = true := by rcases hc' with rfl | rfl <;> rfl
    have e := hA.right.head
    have hA2 := hA.right.tail
    simp only [List.length_cons, List.length_append] at hk hst
    obtain ⟨ps1, j1, g1, g2, g3, g4, g5⟩ := ih k hA.left (by omega) (by rw [e]; refine ⟨by unfold facStop; omega, ?_⟩; rcases hc' with rfl | rfl <;> rfl)
    obtain ⟨ps2, p1, p2, p3, p4⟩ := hP t m g (k + s.length + 1) hA2 (by omega) (by rw [show k + s.length + 1 + t.length = k + (s.length + (t.length + 1)) by omega]; exact hst)
    refine ⟨ps1 ++ ps2 ++ [⟨c, 0, ((k + s.length : Nat) : Int)⟩], j1 + 1, by simp; omega, fun ts q => ?_, fun l => ?_, fun x hx => ?_, by simp; omega⟩
    · rw [show q + (j1 + 1) = q + 1 + j1 by omega, g2, opLoop_step T isAdd f _ ⟨rfl, by simp only [e]; exact hc⟩]
      congr 1
      unfold opStep
      simp only [p1, e]
      simp only [List.length_cons, List.length_append, List.append_assoc]
      congr 1
      omega
    · rw [ev_app, ev_app, g3, p2, ev_sign num c _ hsg]
    · rcases List.mem_append.1 hx with hx | hx
      · rcases List.mem_append.1 hx with hx | hx
        · exact g4 x hx
        · exact p3 x hx
      · simp at hx; subst hx; exact .inl hsg
  induction h with
  | one h =>
    intro k hA hk hst
    obtain ⟨ps, h1, h2, h3, h4⟩ := hP _ _ h k hA hk hst
    exact ⟨ps, 0, Nat.zero_le _, fun ts m => by rw [h1]; rfl, h2, h3, h4⟩
  | @add s t n m h g ih => exact fun k hA hk hst => step 43 rfl s t n m g ih k hA hk hst
  | @sub s t n m h g ih => exact fun k hA hk hst => step 45 rfl s t n m g ih k hA hk hst
theorem sum_rd {T : ByteArray} {num : Int → Int} {v w : Int} (hx : num 120 = v) (hy : num 121 = w) : ∀ d L, d ≤ L + 1 → ∀ s n, SumS v w d s n → Rd T num sumStop (sumRL T L) s n := by
  intro d
  induction d with
  | zero => intro L _ s n h; exact h.elim
  | succ d ih =>
    intro L hL s n h
    have hF : ∀ s n, Fac v w (SumS v w d) s n → Rd T num facStop (facR T (lvl T L)) s n := fun s n h => by
      refine fac_rd hx hy (fun s n hs => ?_) h
      cases L with
      | zero =>
        have : d = 0 := by omega
        subst this; exact hs.elim
      | succ L => exact ⟨sumRL T L, rfl, ih L (by omega) s n hs⟩
    have hP : ∀ s n, Prd (Fac v w (SumS v w d)) s n → Rd T num prdStop (prodR T (lvl T L)) s n := fun s n h => prd_rd hF h
    intro k hA hk hst
    obtain ⟨ps, j, hj, h1, h2, h3, h4⟩ := smm_st hP h k hA hk hst.1
    refine ⟨ps, fun ts => ?_, h2, h3, h4⟩
    rw [sumRL_lvl]
    unfold sumR0
    have e := h1 ts (T.size + 1 - j)
    rw [show T.size + 1 - j + j = T.size + 1 by omega] at e
    rw [e, opLoop_stop]
    simp only [hst.2]
    simp
end Go.Proofs.Ytbgilndohccicab
