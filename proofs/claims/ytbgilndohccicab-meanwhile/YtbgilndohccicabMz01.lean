import Derived.Test.YtbgilndohccicabProg
import Derived.WalkKit
import Derived.WalkSpells
import Derived.WalkLawsBesides
import Derived.Deep.QuietTactic
import Derived.BigQuiet
import Derived.Deep.LoopGhost
import Derived.RegionTactic
import Derived.ChangeAlike
namespace Go.Proofs.Ytbgilndohccicab
open Go.RowKit

def nextB (s : ByteArray) (k : Nat) : Int := if h : k < s.size then (s[k].toNat : Int) else 0
theorem nextB_in {s : ByteArray} {k : Nat} (h : k < s.size) : nextB s k = (s[k].toNat : Int) := by simp [nextB, h]
theorem nextB_out {s : ByteArray} {k : Nat} (h : ¬ k < s.size) : nextB s k = 0 := by simp [nextB, h]
theorem gb_set (w : World) (b o : Nat) (v : Value) : w.grownBy (w.setCell ⟨b, o, none⟩ v) (some b) :=
  ⟨rfl, rfl, rfl, by simp [World.setCell], fun k _ hne => Below.heap_setCell _ _ _ _ (fun e => hne (by rw [e]))⟩
theorem gb_drewN (w : World) (n : Nat) (r : Option Nat) : w.grownBy (w.drewN n) r := ⟨rfl, rfl, rfl, Nat.le_refl _, fun _ _ _ => rfl⟩
theorem gb_trans {a b c : World} {row : Option Nat} (h : a.grownBy b row) (k : b.grownBy c row) : a.grownBy c row :=
  ⟨k.os.trans h.os, k.tape.trans h.tape, k.output.trans h.output, Nat.le_trans h.size k.size, fun i hi hne => (k.block i (Nat.lt_of_lt_of_le hi h.size) hne).trans (h.block i hi hne)⟩
theorem gb_below {w w' : World} (h : Below w.heap.size w w') (r : Option Nat) : w.grownBy w' r := ⟨h.os, h.tape, h.output, h.size, fun k hk _ => h.block k hk⟩
def noteI (tw : Int) (k : Nat) : Int := if tw = -1 then k else tw
def isKindB (x : Int) : Bool := x == 98 || x == 104 || x == 119 || x == 108 || x == 114
def flatF : List (Int × Int) → List Value
  | [] => []
  | p :: r => .int .u8 p.1 :: .int .u8 p.2 :: flatF r
theorem flatF_len (fs : List (Int × Int)) : (flatF fs).length = fs.length * 2 := by
  induction fs with
  | nil => rfl
  | cons p r ih => simp [flatF, ih]; omega
theorem flatF_app (a b : List (Int × Int)) : flatF (a ++ b) = flatF a ++ flatF b := by
  induction a with
  | nil => rfl
  | cons p r ih => simp [flatF, ih]
theorem flatF_even (fs : List (Int × Int)) : ∀ i, i < fs.length → (flatF fs)[i * 2]? = some (.int .u8 (fs[i]?.getD (0, 0)).1) := by
  induction fs with
  | nil => intro i h; simp at h
  | cons p r ih =>
    intro i h
    match i with
    | 0 => simp [flatF]
    | j + 1 => have := ih j (by simpa using h); simpa [flatF, Nat.add_mul] using this
theorem flatF_odd (fs : List (Int × Int)) : ∀ i, i < fs.length → (flatF fs)[i * 2 + 1]? = some (.int .u8 (fs[i]?.getD (0, 0)).2) := by
  induction fs with
  | nil => intro i h; simp at h
  | cons p r ih =>
    intro i h
    match i with
    | 0 => simp [flatF]
    | j + 1 => have := ih j (by simpa using h); simpa [flatF, Nat.add_mul] using this
/-- v is a slice of fields that holds fs in w. -/
def FV (w : World) (v : Value) (fs : List (Int × Int)) : Prop := w.ownsRow 0 140 2 v fs.length (flatF fs)
theorem FV.nil (w : World) : FV w (.slice none 0 0) [] := World.ownsRow_nil _ _ _ _
theorem FV.shape {w : World} {v : Value} {fs : List (Int × Int)} (h : FV w v fs) :
    (v = .slice none 0 0 ∧ fs = []) ∨ ∃ g cap, v = .slice (some ⟨g, 0, none⟩) fs.length cap ∧ g < w.heap.size ∧ fs.length ≤ maxLen ∧
      (∀ i, i < fs.length → w.cell? ⟨g, i * 2, none⟩ = some (.int .u8 (fs[i]?.getD (0, 0)).1) ∧ w.cell? ⟨g, i * 2 + 1, none⟩ = some (.int .u8 (fs[i]?.getD (0, 0)).2)) := by
  rcases h.2 with ⟨rfl, hn⟩ | ⟨g, cap, cur, rfl, _, hg, h1, h2, _⟩
  · exact .inl ⟨rfl, List.length_eq_zero_iff.1 hn⟩
  · refine .inr ⟨g, cap, rfl, (Array.getElem?_eq_some_iff.1 hg).1, by omega, fun i hi => ?_⟩
    have c := World.ownsRow.cells h (g := g) rfl
    have e : ∀ j, (⟨g, 0, none⟩ : Addr).add j = ⟨g, j, none⟩ := fun j => by unfold Addr.add; split <;> simp_all
    have c0 := c (i * 2) _ (flatF_even fs i hi)
    have c1 := c (i * 2 + 1) _ (flatF_odd fs i hi)
    rw [e] at c0 c1
    exact ⟨c0, c1⟩
theorem FV.kept {w w' : World} {v : Value} {fs : List (Int × Int)} {r : Option Nat} (h : FV w v fs) (g : w.grownBy w' r) (hne : v.ownBlock = none ∨ v.ownBlock ≠ r) : FV w' v fs := World.ownsRow.kept h g hne
/-- The place of the first field of that letter; -1: there is none. -/
def idxF (fs : List (Int × Int)) (x : Int) : Int := match fs.findIdx? (fun p => p.1 == x) with | some i => i | none => -1
theorem ret_int {k : IntKind} {a b : Int} (h : a = b) : Ending.returned (.int k a) = .returned (.int k b) := by rw [h]
theorem idxF_hit (fs : List (Int × Int)) (x : Int) (k : Nat) (hk : k < fs.length) (hno : ∀ j, j < k → ¬ (fs[j]?.getD (0, 0)).1 = x) (h : ((fs[k]?.getD (0, 0)).1 == x) = true) : idxF fs x = k := by
  have : fs.findIdx? (fun p => p.1 == x) = some k := by
    rw [List.findIdx?_eq_some_iff_getElem]
    refine ⟨hk, by simpa [List.getElem?_eq_getElem hk] using h, fun j hj => ?_⟩
    have := hno j hj
    have hj' : j < fs.length := by omega
    simpa [List.getElem?_eq_getElem hj'] using this
  simp [idxF, this]
theorem idxF_none (fs : List (Int × Int)) (x : Int) (hno : ∀ j, j < fs.length → ¬ (fs[j]?.getD (0, 0)).1 = x) : idxF fs x = -1 := by
  have : fs.findIdx? (fun p => p.1 == x) = none := by
    rw [List.findIdx?_eq_none_iff]
    intro p hp
    obtain ⟨j, hj, rfl⟩ := List.getElem_of_mem hp
    have := hno j hj
    simpa [List.getElem?_eq_getElem hj] using this
  simp [idxF, this]
theorem no_step {fs : List (Int × Int)} {x : Int} {k : Nat} (hno : ∀ j, j < k → ¬ (fs[j]?.getD (0, 0)).1 = x) (h1 : ((fs[k]?.getD (0, 0)).1 == x) = false) : ∀ j, j < k + 1 → ¬ (fs[j]?.getD (0, 0)).1 = x := by
  intro j hj
  rcases Nat.lt_succ_iff_lt_or_eq.1 hj with h | rfl
  · exact hno j h
  · simpa using h1
theorem bcell {W w1 : World} (hb : Below W.heap.size W w1) : (∀ b o, b < W.heap.size → w1.cell? ⟨b, o, none⟩ = W.cell? ⟨b, o, none⟩) ∧ (∀ b o, b < W.heap.size → w1.frozen? ⟨b, o, none⟩ = W.frozen? ⟨b, o, none⟩) :=
  ⟨fun b o h => hb.cell (p := ⟨b, o, none⟩) h, fun b o h => hb.frozen (p := ⟨b, o, none⟩) h⟩
/-- A slice's value. -/
structure SV where
  a : Option Addr
  n : Nat
  c : Nat
def SV.val (x : SV) : Value := .slice x.a x.n x.c
def flatC : List (Int × SV) → List Value
  | [] => []
  | p :: r => .int .u8 p.1 :: .slice p.2.a p.2.n p.2.c :: flatC r
def noC : Int × SV := (0, ⟨none, 0, 0⟩)
theorem flatC_len (fs : List (Int × SV)) : (flatC fs).length = fs.length * 2 := by
  induction fs with
  | nil => rfl
  | cons p r ih => simp [flatC, ih]; omega
theorem flatC_app (a b : List (Int × SV)) : flatC (a ++ b) = flatC a ++ flatC b := by
  induction a with
  | nil => rfl
  | cons p r ih => simp [flatC, ih]
theorem flatC_even (fs : List (Int × SV)) : ∀ i, i < fs.length → (flatC fs)[i * 2]? = some (.int .u8 (fs[i]?.getD noC).1) := by
  induction fs with
  | nil => intro i h; simp at h
  | cons p r ih =>
    intro i h
    match i with
    | 0 => simp [flatC]
    | j + 1 => have := ih j (by simpa using h); simpa [flatC, Nat.add_mul] using this
theorem flatC_odd (fs : List (Int × SV)) : ∀ i, i < fs.length → (flatC fs)[i * 2 + 1]? = some (.slice (fs[i]?.getD noC).2.a (fs[i]?.getD noC).2.n (fs[i]?.getD noC).2.c) := by
  induction fs with
  | nil => intro i h; simp at h
  | cons p r ih =>
    intro i h
    match i with
    | 0 => simp [flatC]
    | j + 1 => have := ih j (by simpa using h); simpa [flatC, Nat.add_mul] using this
/-- v is a slice of classes whose letters and fields' slices are vs in w. -/
def CV (w : World) (v : Value) (vs : List (Int × SV)) : Prop := w.ownsRow 0 88 2 v vs.length (flatC vs)
theorem CV.shape {w : World} {v : Value} {fs : List (Int × SV)} (h : CV w v fs) :
    (v = .slice none 0 0 ∧ fs = []) ∨ ∃ g cap, v = .slice (some ⟨g, 0, none⟩) fs.length cap ∧ g < w.heap.size ∧ fs.length ≤ maxLen ∧
      (∀ i, i < fs.length → w.cell? ⟨g, i * 2, none⟩ = some (.int .u8 (fs[i]?.getD noC).1) ∧ w.cell? ⟨g, i * 2 + 1, none⟩ = some (.slice (fs[i]?.getD noC).2.a (fs[i]?.getD noC).2.n (fs[i]?.getD noC).2.c)) := by
  rcases h.2 with ⟨rfl, hn⟩ | ⟨g, cap, cur, rfl, _, hg, h1, h2, _⟩
  · exact .inl ⟨rfl, List.length_eq_zero_iff.1 hn⟩
  · refine .inr ⟨g, cap, rfl, (Array.getElem?_eq_some_iff.1 hg).1, by omega, fun i hi => ?_⟩
    have c := World.ownsRow.cells h (g := g) rfl
    have e : ∀ j, (⟨g, 0, none⟩ : Addr).add j = ⟨g, j, none⟩ := fun j => by unfold Addr.add; split <;> simp_all
    have c0 := c (i * 2) _ (flatC_even fs i hi)
    have c1 := c (i * 2 + 1) _ (flatC_odd fs i hi)
    rw [e] at c0 c1
    exact ⟨c0, c1⟩
theorem CV.kept {w w' : World} {v : Value} {vs : List (Int × SV)} {r : Option Nat} (h : CV w v vs) (g : w.grownBy w' r) (hne : v.ownBlock = none ∨ v.ownBlock ≠ r) : CV w' v vs := World.ownsRow.kept h g hne
/-- The class of that letter; where there is none: the zero class. -/
def findC (vs : List (Int × SV)) (x : Int) : Int × SV := (vs.find? (fun p => p.1 == x)).getD noC
def hasC (vs : List (Int × SV)) (x : Int) : Bool := vs.any (fun p => p.1 == x)
theorem findC_hit (fs : List (Int × SV)) (x : Int) (k : Nat) (hk : k < fs.length) (hno : ∀ j, j < k → ¬ (fs[j]?.getD noC).1 = x) (h : ((fs[k]?.getD noC).1 == x) = true) : findC fs x = fs[k]?.getD noC ∧ hasC fs x = true := by
  constructor
  · have : fs.find? (fun p => p.1 == x) = some fs[k] := by
      rw [List.find?_eq_some_iff_getElem]
      refine ⟨by simpa [List.getElem?_eq_getElem hk] using h, k, hk, rfl, fun j hj => ?_⟩
      have := hno j hj
      have hj' : j < fs.length := by omega
      simpa [List.getElem?_eq_getElem hj'] using this
    simp [findC, this, List.getElem?_eq_getElem hk]
  · simp only [hasC, List.any_eq_true]
    exact ⟨fs[k], List.getElem_mem hk, by simpa [List.getElem?_eq_getElem hk] using h⟩
theorem findC_none (fs : List (Int × SV)) (x : Int) (hno : ∀ j, j < fs.length → ¬ (fs[j]?.getD noC).1 = x) : findC fs x = noC ∧ hasC fs x = false := by
  have h : ∀ p ∈ fs, (p.1 == x) = false := by
    intro p hp
    obtain ⟨j, hj, rfl⟩ := List.getElem_of_mem hp
    have := hno j hj
    simpa [List.getElem?_eq_getElem hj] using this
  constructor
  · have : fs.find? (fun p => p.1 == x) = none := by
      rw [List.find?_eq_none]; intro p hp; simp [h p hp]
    simp [findC, this]
  · simp only [hasC, List.any_eq_false]
    intro p hp; simp [h p hp]
theorem noC_step {fs : List (Int × SV)} {x : Int} {k : Nat} (hno : ∀ j, j < k → ¬ (fs[j]?.getD noC).1 = x) (h1 : ((fs[k]?.getD noC).1 == x) = false) : ∀ j, j < k + 1 → ¬ (fs[j]?.getD noC).1 = x := by
  intro j hj
  rcases Nat.lt_succ_iff_lt_or_eq.1 hj with h | rfl
  · exact hno j h
  · simpa using h1
def clsV (p : Int × SV) : Value := .agg #[.int .u8 p.1, .slice p.2.a p.2.n p.2.c]
structure RF where
  ok : Bool
  at_ : Nat
  tw : Int
  l : Int
  kd : Int
/-- What readField does: the field that stands at k, behind the fields fs. -/
def rdField (s : ByteArray) (fs : List (Int × Int)) (k : Nat) (tw : Int) : RF :=
  if nextB s k < 97 ∨ 122 < nextB s k then ⟨false, k, tw, 0, 0⟩
  else if nextB s (k + 1) = 58 then
    if isKindB (nextB s (k + 2)) = true then ⟨true, k + 3, if 0 ≤ idxF fs (nextB s k) then noteI tw k else tw, nextB s k, nextB s (k + 2)⟩
    else ⟨false, k + 2, if 0 ≤ idxF fs (nextB s k) then noteI tw k else tw, 0, 0⟩
  else ⟨false, k + 1, if 0 ≤ idxF fs (nextB s k) then noteI tw k else tw, 0, 0⟩
theorem nextB_pos {s : ByteArray} {k : Nat} (h : 0 < nextB s k) : k < s.size := by
  by_cases hk : k < s.size
  · exact hk
  · rw [nextB_out hk] at h; omega
theorem isKindB_pos {x : Int} (h : isKindB x = true) : 0 < x := by
  simp [isKindB] at h; omega
theorem loc {W w' : World} {b r : Nat} (g : W.grownBy w' (some b)) (hr : r < W.heap.size) (hne : r ≠ b) :
    (∀ o, w'.cell? ⟨r, o, none⟩ = W.cell? ⟨r, o, none⟩) ∧ (∀ o, w'.frozen? ⟨r, o, none⟩ = W.frozen? ⟨r, o, none⟩) ∧ r < w'.heap.size := by
  have e := g.block r hr (by simpa using hne)
  exact ⟨fun o => World.cell?_of_block (a := ⟨r, o, none⟩) e, fun o => World.frozen?_of_block (a := ⟨r, o, none⟩) e, Nat.lt_of_lt_of_le hr g.size⟩
theorem FV.alloc {w : World} {v : Value} {fs : List (Int × Int)} (h : FV w v fs) (o : Obj) : FV (w.alloc o) v fs := World.ownsRow.alloc h o
theorem FV.drewN {w : World} {v : Value} {fs : List (Int × Int)} (h : FV w v fs) (n : Nat) : FV (w.drewN n) v fs := h
theorem FV.below {w w' : World} {v : Value} {fs : List (Int × Int)} (h : FV w v fs) (hb : Below w.heap.size w w') : FV w' v fs := World.ownsRow.kept h (gb_below hb none) (by cases hv : v.ownBlock <;> simp)
theorem gb_setNew {a w : World} {row : Option Nat} (h : a.grownBy w row) {p o : Nat} (hp : a.heap.size ≤ p) (u : Value) : a.grownBy (w.setCell ⟨p, o, none⟩ u) row :=
  ⟨h.os, h.tape, h.output, by simpa [World.setCell] using h.size, fun k hk hne => (Below.heap_setCell _ _ _ _ (by show k ≠ p; omega)).trans (h.block k hk hne)⟩
theorem gb_alloc {a w : World} {row : Option Nat} (h : a.grownBy w row) (o : Obj) : a.grownBy (w.alloc o) row := gb_trans h (World.grownBy_alloc w o row)
theorem gb_drew {a w : World} {row : Option Nat} (h : a.grownBy w row) (n : Nat) : a.grownBy (w.drewN n) row := gb_trans h (gb_drewN w n row)
theorem gb_setB {a w : World} {b : Nat} (h : a.grownBy w (some b)) (o : Nat) (u : Value) : a.grownBy (w.setCell ⟨b, o, none⟩ u) (some b) := gb_trans h (gb_set w b o u)
/-- What stands of a callee's frame: the block r of our own is as it was. -/
structure Loc (W w' : World) (r : Nat) : Prop where
  c : ∀ o, w'.cell? ⟨r, o, none⟩ = W.cell? ⟨r, o, none⟩
  f : ∀ o, w'.frozen? ⟨r, o, none⟩ = W.frozen? ⟨r, o, none⟩
  l : r < w'.heap.size
theorem Loc.of {W w' : World} {b r : Nat} (g : W.grownBy w' (some b)) (hr : r < W.heap.size) (hne : r ≠ b) : Loc W w' r := ⟨(loc g hr hne).1, (loc g hr hne).2.1, (loc g hr hne).2.2⟩
theorem Try.infoField : (Try.prog.info? 140).map (fun i => (i.zero, i.size, i.bytes)) = some (some (.agg #[.int .u8 0, .int .u8 0]), 2, 2) := by kernel_rfl
structure RFS where
  ok : Bool
  at_ : Nat
  tw : Int
  fs : List (Int × Int)
/-- The loop of readFields, n rounds at most. -/
def rdLoop (s : ByteArray) : Nat → List (Int × Int) → Nat → Int → RFS
  | 0, _, k, tw => ⟨false, k, tw, []⟩
  | n + 1, fs, k, tw =>
    if (rdField s fs k tw).ok = false then ⟨false, (rdField s fs k tw).at_, (rdField s fs k tw).tw, []⟩
    else if nextB s (rdField s fs k tw).at_ = 125 then ⟨true, (rdField s fs k tw).at_ + 1, (rdField s fs k tw).tw, fs ++ [((rdField s fs k tw).l, (rdField s fs k tw).kd)]⟩
    else if fs.length = 5 ∨ nextB s (rdField s fs k tw).at_ ≠ 44 then ⟨false, (rdField s fs k tw).at_, (rdField s fs k tw).tw, []⟩
    else rdLoop s n (fs ++ [((rdField s fs k tw).l, (rdField s fs k tw).kd)]) ((rdField s fs k tw).at_ + 1) (rdField s fs k tw).tw
def rdFields (s : ByteArray) (k : Nat) (tw : Int) : RFS := if nextB s k = 125 then ⟨true, k + 1, tw, []⟩ else rdLoop s 6 [] k tw
/-- As FV, of a slice that the call itself has made. -/
def FVb (w : World) (base : Nat) (v : Value) (fs : List (Int × Int)) : Prop := w.ownsRow base 140 2 v fs.length (flatF fs)
theorem FVb.fv {w : World} {base : Nat} {v : Value} {fs : List (Int × Int)} (h : FVb w base v fs) : FV w v fs := by
  obtain ⟨h1, h2⟩ := h
  refine ⟨h1, h2.imp id ?_⟩
  rintro ⟨g, cap, cur, e, _, r⟩
  exact ⟨g, cap, cur, e, Nat.zero_le _, r⟩
theorem FVb.mono {w : World} {base base' : Nat} {v : Value} {fs : List (Int × Int)} (h : FVb w base v fs) (hb : base' ≤ base) : FVb w base' v fs := by
  obtain ⟨h1, h2⟩ := h
  refine ⟨h1, h2.imp id ?_⟩
  rintro ⟨g, cap, cur, e, h0, r⟩
  exact ⟨g, cap, cur, e, Nat.le_trans hb h0, r⟩
theorem FVb.kept {w w' : World} {base b : Nat} {v : Value} {fs : List (Int × Int)} (h : FVb w base v fs) (g : w.grownBy w' (some b)) (hb : b < base) : FVb w' base v fs := by
  refine World.ownsRow.kept h g ?_
  cases hv : v.ownBlock with
  | none => exact .inl rfl
  | some x => right; have := (World.ownsRow.lt h x hv).1; simp; omega
theorem FVb.shape {w : World} {base : Nat} {v : Value} {fs : List (Int × Int)} (h : FVb w base v fs) : ∃ a c, v = .slice a fs.length c := by
  rcases h.2 with ⟨rfl, hn⟩ | ⟨g, cap, cur, rfl, _⟩
  · exact ⟨none, 0, by rw [hn]⟩
  · exact ⟨_, _, rfl⟩
theorem FVb.alloc {w : World} {base : Nat} {v : Value} {fs : List (Int × Int)} (h : FVb w base v fs) (o : Obj) : FVb (w.alloc o) base v fs := World.ownsRow.alloc h o
theorem FVb.set0 {w : World} {base p o : Nat} {v u : Value} {fs : List (Int × Int)} (h : FVb w base v fs) (hp : p < base) : FVb (w.setCell ⟨p, o, none⟩ u) base v fs := h.kept (gb_set w p o u) hp
theorem cell_pair (w1 : World) (o : Obj) (x y : Value) (T : TypeId) : ∀ (j : Nat) (u : Value), [x, y][j]? = some u → ((w1.alloc o).alloc (.cells #[x, y] T)).cell? ((⟨w1.heap.size + 1, 0, none⟩ : Addr).add j) = some u := by
  intro j u hj
  match j, hj with
  | 0, hj => simp at hj; subst hj; simp [Addr.add]
  | 1, hj => simp at hj; subst hj; simp [Addr.add]
structure RC where
  ok : Bool
  at_ : Nat
  tw : Int
  l : Int
  fs : List (Int × Int)
/-- What readClass does: the class that stands at k, behind classes of the letters ls. -/
def rdClass (s : ByteArray) (ls : List Int) (k : Nat) (tw : Int) : RC :=
  if nextB s k < 65 ∨ 90 < nextB s k then ⟨false, k, tw, 0, []⟩
  else if nextB s (k + 1) = 123 then
    if (rdFields s (k + 2) (if ls.any (fun p => p == nextB s k) = true then noteI tw k else tw)).ok = true then
      ⟨true, (rdFields s (k + 2) (if ls.any (fun p => p == nextB s k) = true then noteI tw k else tw)).at_, (rdFields s (k + 2) (if ls.any (fun p => p == nextB s k) = true then noteI tw k else tw)).tw, nextB s k, (rdFields s (k + 2) (if ls.any (fun p => p == nextB s k) = true then noteI tw k else tw)).fs⟩
    else ⟨false, (rdFields s (k + 2) (if ls.any (fun p => p == nextB s k) = true then noteI tw k else tw)).at_, (rdFields s (k + 2) (if ls.any (fun p => p == nextB s k) = true then noteI tw k else tw)).tw, 0, []⟩
  else ⟨false, k + 1, if ls.any (fun p => p == nextB s k) = true then noteI tw k else tw, 0, []⟩
theorem CV.alloc {w : World} {v : Value} {vs : List (Int × SV)} (h : CV w v vs) (o : Obj) : CV (w.alloc o) v vs := World.ownsRow.alloc h o
theorem CV.drewN {w : World} {v : Value} {vs : List (Int × SV)} (h : CV w v vs) (n : Nat) : CV (w.drewN n) v vs := h
theorem CV.below {w w' : World} {v : Value} {vs : List (Int × SV)} (h : CV w v vs) (hb : Below w.heap.size w w') : CV w' v vs := World.ownsRow.kept h (gb_below hb none) (by cases hv : v.ownBlock <;> simp)
theorem hasC_map (vs : List (Int × SV)) (x : Int) : hasC vs x = (vs.map (·.1)).any (fun p => p == x) := by simp [hasC, List.any_map, Function.comp_def]
theorem Try.infoClass : (Try.prog.info? 88).map (fun i => (i.zero, i.size, i.bytes)) = some (some (.agg #[.int .u8 0, .slice none 0 0]), 2, 32) := by kernel_rfl
structure RCS where
  ok : Bool
  at_ : Nat
  tw : Int
  cs : List (Int × List (Int × Int))
/-- The loop of readClasses, n rounds at most. -/
def rcLoop (s : ByteArray) : Nat → List (Int × List (Int × Int)) → Nat → Int → RCS
  | 0, _, k, tw => ⟨false, k, tw, []⟩
  | n + 1, cs, k, tw =>
    if (rdClass s (cs.map (·.1)) k tw).ok = false then ⟨false, (rdClass s (cs.map (·.1)) k tw).at_, (rdClass s (cs.map (·.1)) k tw).tw, []⟩
    else if (rdClass s (cs.map (·.1)) k tw).at_ = s.size then ⟨true, (rdClass s (cs.map (·.1)) k tw).at_, (rdClass s (cs.map (·.1)) k tw).tw, cs ++ [((rdClass s (cs.map (·.1)) k tw).l, (rdClass s (cs.map (·.1)) k tw).fs)]⟩
    else rcLoop s n (cs ++ [((rdClass s (cs.map (·.1)) k tw).l, (rdClass s (cs.map (·.1)) k tw).fs)]) (rdClass s (cs.map (·.1)) k tw).at_ (rdClass s (cs.map (·.1)) k tw).tw
/-- v is a slice of classes cs that the call itself has made, blocks from base on. -/
structure Cls (w : World) (base : Nat) (v : Value) (vs : List (Int × SV)) (cs : List (Int × List (Int × Int))) : Prop where
  row : w.ownsRow base 88 2 v vs.length (flatC vs)
  ls : vs.map (·.1) = cs.map (·.1)
  fld : ∀ (i : Nat) (p : Int × SV) (c : Int × List (Int × Int)), vs[i]? = some p → cs[i]? = some c → FVb w base p.2.val c.2
theorem row_mono {w : World} {base base' : Nat} {e : TypeId} {size : Nat} {v : Value} {n : Nat} {xs : List Value} (h : w.ownsRow base e size v n xs) (hb : base' ≤ base) : w.ownsRow base' e size v n xs := by
  obtain ⟨h1, h2⟩ := h
  refine ⟨h1, h2.imp id ?_⟩
  rintro ⟨g, cap, cur, e, h0, r⟩
  exact ⟨g, cap, cur, e, Nat.le_trans hb h0, r⟩
theorem row_kept {w w' : World} {base b : Nat} {e : TypeId} {size : Nat} {v : Value} {n : Nat} {xs : List Value} (h : w.ownsRow base e size v n xs) (g : w.grownBy w' (some b)) (hb : b < base) : w'.ownsRow base e size v n xs := by
  refine World.ownsRow.kept h g ?_
  cases hv : v.ownBlock with
  | none => exact .inl rfl
  | some x => right; have := (World.ownsRow.lt h x hv).1; simp; omega
theorem row_apart {w : World} {base base' : Nat} {e e' : TypeId} {size size' : Nat} {v v' : Value} {n n' : Nat} {xs xs' : List Value} (h : w.ownsRow base e size v n xs) (h' : w.ownsRow base' e' size' v' n' xs') (hne : e ≠ e') :
    v.ownBlock = none ∨ v.ownBlock ≠ v'.ownBlock := by
  rcases h.2 with ⟨rfl, _⟩ | ⟨g, cap, cur, rfl, _, hg, _⟩
  · exact .inl rfl
  · right
    rcases h'.2 with ⟨rfl, _⟩ | ⟨g', cap', cur', rfl, _, hg', _⟩
    · simp [Value.ownBlock]
    · simp only [Value.ownBlock, ne_eq, Option.some.injEq]
      rintro rfl
      rw [hg] at hg'
      simp at hg'
      exact hne hg'.2
theorem Cls.cv {w : World} {base : Nat} {v : Value} {vs : List (Int × SV)} {cs : List (Int × List (Int × Int))} (h : Cls w base v vs cs) : CV w v vs := row_mono h.row (Nat.zero_le _)
theorem Cls.mono {w : World} {base base' : Nat} {v : Value} {vs : List (Int × SV)} {cs : List (Int × List (Int × Int))} (h : Cls w base v vs cs) (hb : base' ≤ base) : Cls w base' v vs cs := ⟨row_mono h.row hb, h.ls, fun i p c h1 h2 => (h.fld i p c h1 h2).mono hb⟩
theorem Cls.kept {w w' : World} {base b : Nat} {v : Value} {vs : List (Int × SV)} {cs : List (Int × List (Int × Int))} (h : Cls w base v vs cs) (g : w.grownBy w' (some b)) (hb : b < base) : Cls w' base v vs cs :=
  ⟨row_kept h.row g hb, h.ls, fun i p c h1 h2 => (h.fld i p c h1 h2).kept g hb⟩
theorem Cls.drewN {w : World} {base : Nat} {v : Value} {vs : List (Int × SV)} {cs : List (Int × List (Int × Int))} (h : Cls w base v vs cs) (n : Nat) : Cls (w.drewN n) base v vs cs := ⟨h.row, h.ls, h.fld⟩
theorem Cls.nil (w : World) (base : Nat) : Cls w base (.slice none 0 0) [] [] := ⟨World.ownsRow_nil _ _ _ _, rfl, fun i p c h1 _ => by simp at h1⟩
theorem Cls.len {w : World} {base : Nat} {v : Value} {vs : List (Int × SV)} {cs : List (Int × List (Int × Int))} (h : Cls w base v vs cs) : vs.length = cs.length := by simpa using congrArg List.length h.ls
theorem Cls.shape {w : World} {base : Nat} {v : Value} {vs : List (Int × SV)} {cs : List (Int × List (Int × Int))} (h : Cls w base v vs cs) : ∃ a c, v = .slice a cs.length c := by
  rw [← h.len]
  rcases h.row.2 with ⟨rfl, hn⟩ | ⟨g, cap, cur, rfl, _⟩
  · exact ⟨none, 0, by rw [hn]⟩
  · exact ⟨_, _, rfl⟩
/-- What Read comes to on a text. -/
def readR (s : ByteArray) : RCS := rcLoop s 6 [] 0 (-1)
def readE (s : ByteArray) : Int := if 200 < s.size then 1 else if (readR s).ok = false then 2 else if (readR s).tw = -1 then 0 else 3
def readP (s : ByteArray) : Int := if 200 < s.size then 0 else if (readR s).ok = false then (readR s).at_ else if (readR s).tw = -1 then 0 else (readR s).tw
def readC (s : ByteArray) : List (Int × List (Int × Int)) := if 200 < s.size then [] else if (readR s).ok = false then [] else if (readR s).tw = -1 then (readR s).cs else []
def RPost (s : ByteArray) (w : World) (e : Ending) (w' : World) : Prop := ∃ (a : Option Addr) (n c : Nat) (vs : List (Int × SV)),
  e = .returned (.tuple #[.agg #[.slice a n c], .int .i64 (readE s), .int .i64 (readP s)]) ∧ Cls w' w.heap.size (.slice a n c) vs (readC s) ∧ Below w.heap.size w w'
theorem Cls.alloc {w : World} {base : Nat} {v : Value} {vs : List (Int × SV)} {cs : List (Int × List (Int × Int))} (h : Cls w base v vs cs) (o : Obj) : Cls (w.alloc o) base v vs cs := ⟨h.row.alloc o, h.ls, fun i p c h1 h2 => (h.fld i p c h1 h2).alloc o⟩
theorem below_of_gb {w0 w w' : World} {b : Nat} (g : w0.grownBy w' (some b)) (h : Below w.heap.size w w0) (hb : w.heap.size ≤ b) : Below w.heap.size w w' :=
  h.trans ⟨g.os, g.tape, g.output, g.size, fun k hk => g.block k (Nat.lt_of_lt_of_le hk h.size) (by simp; omega)⟩
theorem Cls.below {w w' : World} {base : Nat} {v : Value} {vs : List (Int × SV)} {cs : List (Int × List (Int × Int))} (h : Cls w base v vs cs) (hb : Below w.heap.size w w') : Cls w' base v vs cs :=
  ⟨World.ownsRow.kept h.row (gb_below hb none) (by cases hv : v.ownBlock <;> simp), h.ls, fun i p c h1 h2 => World.ownsRow.kept (h.fld i p c h1 h2) (gb_below hb none) (by cases hv : Value.ownBlock (p.2.val) <;> simp)⟩
end Go.Proofs.Ytbgilndohccicab
