import Derived.Test.YtiofbnmpppjdbabRd1
namespace Go.Proofs.Ytiofbnmpppjdbab
open Go.RowKit

def flatF : List (Int × Int) → List Value
  | [] => []
  | p :: r => .int .u8 p.1 :: .int .u8 p.2 :: flatF r
theorem flatF_len (fs : List (Int × Int)) : (flatF fs).length = fs.length * 2 := by
  induction fs with
  | nil => rfl
  | cons p r ih => simp [flatF, ih]; omega
theorem flatF_app (a b : List (Int × Int)) : flatF (a ++ b) = flatF a ++ flatF b := by
  induction a with
  | nil => rfl
  | cons p r ih => simp [flatF, ih]
theorem flatF_even (fs : List (Int × Int)) : ∀ i, i < fs.length → (flatF fs)[i * 2]? = some (.int .u8 (fs[i]?.getD (0, 0)).1) := by
  induction fs with
  | nil => intro i h; simp at h
  | cons p r ih =>
    intro i h
    match i with
    | 0 => simp [flatF]
    | j + 1 => have := ih j (by simpa using h); simpa [flatF, Nat.add_mul] using this
theorem flatF_odd (fs : List (Int × Int)) : ∀ i, i < fs.length → (flatF fs)[i * 2 + 1]? = some (.int .u8 (fs[i]?.getD (0, 0)).2) := by
  induction fs with
  | nil => intro i h; simp at h
  | cons p r ih =>
    intro i h
    match i with
    | 0 => simp [flatF]
    | j + 1 => have := ih j (by simpa using h); simpa [flatF, Nat.add_mul] using this

/-- v is a slice of fields that holds fs in w. -/
def FV (w : World) (v : Value) (fs : List (Int × Int)) : Prop := w.ownsRow 0 68 2 v fs.length (flatF fs)

theorem FV.nil (w : World) : FV w (.slice none 0 0) [] := World.ownsRow_nil _ _ _ _
theorem FV.shape {w : World} {v : Value} {fs : List (Int × Int)} (h : FV w v fs) :
    (v = .slice none 0 0 ∧ fs = []) ∨ ∃ g cap, v = .slice (some ⟨g, 0, none⟩) fs.length cap ∧ g < w.heap.size ∧ fs.length ≤ maxLen ∧
      (∀ i, i < fs.length → w.cell? ⟨g, i * 2, none⟩ = some (.int .u8 (fs[i]?.getD (0, 0)).1) ∧ w.cell? ⟨g, i * 2 + 1, none⟩ = some (.int .u8 (fs[i]?.getD (0, 0)).2)) := by
  rcases h.2 with ⟨rfl, hn⟩ | ⟨g, cap, cur, rfl, _, hg, h1, h2, _⟩
  · exact .inl ⟨rfl, List.length_eq_zero_iff.1 hn⟩
  · refine .inr ⟨g, cap, rfl, (Array.getElem?_eq_some_iff.1 hg).1, by omega, fun i hi => ?_⟩
    have c := World.ownsRow.cells h (g := g) rfl
    have e : ∀ j, (⟨g, 0, none⟩ : Addr).add j = ⟨g, j, none⟩ := fun j => by unfold Addr.add; split <;> simp_all
    have c0 := c (i * 2) _ (flatF_even fs i hi)
    have c1 := c (i * 2 + 1) _ (flatF_odd fs i hi)
    rw [e] at c0 c1
    exact ⟨c0, c1⟩
theorem FV.kept {w w' : World} {v : Value} {fs : List (Int × Int)} {r : Option Nat} (h : FV w v fs) (g : w.grownBy w' r) (hne : v.ownBlock = none ∨ v.ownBlock ≠ r) : FV w' v fs := World.ownsRow.kept h g hne

/-- The place of the first field of that letter; -1: there is none. -/
def idxF (fs : List (Int × Int)) (x : Int) : Int := match fs.findIdx? (fun p => p.1 == x) with | some i => i | none => -1

theorem ret_int {k : IntKind} {a b : Int} (h : a = b) : Ending.returned (.int k a) = .returned (.int k b) := by rw [h]
theorem idxF_hit (fs : List (Int × Int)) (x : Int) (k : Nat) (hk : k < fs.length) (hno : ∀ j, j < k → ¬ (fs[j]?.getD (0, 0)).1 = x) (h : ((fs[k]?.getD (0, 0)).1 == x) = true) : idxF fs x = k := by
  have : fs.findIdx? (fun p => p.1 == x) = some k := by
    rw [List.findIdx?_eq_some_iff_getElem]
    refine ⟨hk, by simpa [List.getElem?_eq_getElem hk] using h, fun j hj => ?_⟩
    have := hno j hj
    have hj' : j < fs.length := by omega
    simpa [List.getElem?_eq_getElem hj'] using this
  simp [idxF, this]
theorem idxF_none (fs : List (Int × Int)) (x : Int) (hno : ∀ j, j < fs.length → ¬ (fs[j]?.getD (0, 0)).1 = x) : idxF fs x = -1 := by
  have : fs.findIdx? (fun p => p.1 == x) = none := by
    rw [List.findIdx?_eq_none_iff]
    intro p hp
    obtain ⟨j, hj, rfl⟩ := List.getElem_of_mem hp
    have := hno j hj
    simpa [List.getElem?_eq_getElem hj] using this
  simp [idxF, this]

theorem no_step {fs : List (Int × Int)} {x : Int} {k : Nat} (hno : ∀ j, j < k → ¬ (fs[j]?.getD (0, 0)).1 = x) (h1 : ((fs[k]?.getD (0, 0)).1 == x) = false) : ∀ j, j < k + 1 → ¬ (fs[j]?.getD (0, 0)).1 = x := by
  intro j hj
  rcases Nat.lt_succ_iff_lt_or_eq.1 hj with h | rfl
  · exact hno j h
  · simpa using h1

theorem bcell {W w1 : World} (hb : Below W.heap.size W w1) : (∀ b o, b < W.heap.size → w1.cell? ⟨b, o, none⟩ = W.cell? ⟨b, o, none⟩) ∧ (∀ b o, b < W.heap.size → w1.frozen? ⟨b, o, none⟩ = W.frozen? ⟨b, o, none⟩) :=
  ⟨fun b o h => hb.cell (p := ⟨b, o, none⟩) h, fun b o h => hb.frozen (p := ⟨b, o, none⟩) h⟩

set_option maxHeartbeats 400000 in
theorem index_nil (L x : Int) (w : World) :
    Calls Try.prog 19 #[.agg #[.int .u8 L, .slice none 0 0], .int .u8 x] w fun e w' => e = .returned (.int .i64 (-1)) ∧ Below w.heap.size w w' := by
  go_enter Try.func19, Try.ntmps19
  go_wp2
  refine wp_loop_rounds 1 ?_; rw [rounds_succ]
  go_wp2
  go_ret
  exact ⟨rfl, (Below.refl _ _).alloc (Nat.le_refl _) _⟩

set_option maxHeartbeats 400000 in
theorem index_row (L x : Int) (g cap : Nat) (fs : List (Int × Int)) (w : World) (hg : g < w.heap.size) (hm : fs.length ≤ 9223372036854775807)
    (hc : ∀ i, i < fs.length → w.cell? ⟨g, i * 2, none⟩ = some (.int .u8 (fs[i]?.getD (0, 0)).1) ∧ w.cell? ⟨g, i * 2 + 1, none⟩ = some (.int .u8 (fs[i]?.getD (0, 0)).2)) :
    Calls Try.prog 19 #[.agg #[.int .u8 L, .slice (some ⟨g, 0, none⟩) fs.length cap], .int .u8 x] w fun e w' => e = .returned (.int .i64 (idxF fs x)) ∧ Below w.heap.size w w' := by
  obtain ⟨n, hn⟩ : ∃ n, n = fs.length := ⟨_, rfl⟩
  rw [← hn] at hm hc ⊢
  have HN : Hid (n = fs.length) := hn
  clear hn
  go_enter Try.func19, Try.ntmps19
  go_wp2
  go_loopw [10] (fun i wr => ∃ k : Nat, k ≤ n ∧ i = .int .i64 k ∧ Hid (∀ j, j < k → ¬ (fs[j]?.getD (0, 0)).1 = x) ∧ Below w.heap.size w wr) (fun i _ => n - (intOf i).toNat)
  case atStart => exact ⟨0, Nat.zero_le _, rfl, fun j hj => by omega, (Below.refl _ _).alloc (Nat.le_refl _) _⟩
  case round =>
    obtain ⟨k, hk, rfl, hno, hb⟩ := hrel
    by_cases hlt : k < n
    · have c0 : wr.cell? ⟨g, k * 2, none⟩ = some (.int .u8 (fs[k]?.getD (0, 0)).1) := (hb.cell (by exact hg)).trans (hc k hlt).1
      have c1 : wr.cell? ⟨g, k * 2 + 1, none⟩ = some (.int .u8 (fs[k]?.getD (0, 0)).2) := (hb.cell (by exact hg)).trans (hc k hlt).2
      go_wp2
      · have h1 : ((fs[k]?.getD (0, 0)).1 == x) = true := by assumption
        go_ret
        exact ⟨ret_int (idxF_hit fs x k (by rw [← HN.out]; exact hlt) hno h1).symm, hb.alloc (Nat.le_trans (Nat.le_refl _) hb.size) _⟩
      · have h1 : ((fs[k]?.getD (0, 0)).1 == x) = false := by assumption
        go_roundw
        case rel => exact ⟨k + 1, by omega, by go_num, no_step hno h1, hb.alloc hb.size _⟩
        case measure => simp [intOf]; omega
    · go_wp2
      go_ret
      exact ⟨ret_int (idxF_none fs x (fun j hj => hno j (by rw [← HN.out] at hj; omega))).symm, hb⟩

theorem index_any (L x : Int) (v : Value) (fs : List (Int × Int)) (w : World) (h : FV w v fs) :
    Calls Try.prog 19 #[.agg #[.int .u8 L, v], .int .u8 x] w fun e w' => e = .returned (.int .i64 (idxF fs x)) ∧ Below w.heap.size w w' := by
  rcases h.shape with ⟨rfl, rfl⟩ | ⟨g, cap, rfl, hg, hm, hc⟩
  · exact index_nil L x w
  · exact index_row L x g cap fs w hg hm hc

/-- A slice's value. -/
structure SV where
  a : Option Addr
  n : Nat
  c : Nat
def SV.val (x : SV) : Value := .slice x.a x.n x.c
def flatC : List (Int × SV) → List Value
  | [] => []
  | p :: r => .int .u8 p.1 :: .slice p.2.a p.2.n p.2.c :: flatC r
def noC : Int × SV := (0, ⟨none, 0, 0⟩)
theorem flatC_len (fs : List (Int × SV)) : (flatC fs).length = fs.length * 2 := by
  induction fs with
  | nil => rfl
  | cons p r ih => simp [flatC, ih]; omega
theorem flatC_app (a b : List (Int × SV)) : flatC (a ++ b) = flatC a ++ flatC b := by
  induction a with
  | nil => rfl
  | cons p r ih => simp [flatC, ih]
theorem flatC_even (fs : List (Int × SV)) : ∀ i, i < fs.length → (flatC fs)[i * 2]? = some (.int .u8 (fs[i]?.getD noC).1) := by
  induction fs with
  | nil => intro i h; simp at h
  | cons p r ih =>
    intro i h
    match i with
    | 0 => simp [flatC]
    | j + 1 => have := ih j (by simpa using h); simpa [flatC, Nat.add_mul] using this
theorem flatC_odd (fs : List (Int × SV)) : ∀ i, i < fs.length → (flatC fs)[i * 2 + 1]? = some (.slice (fs[i]?.getD noC).2.a (fs[i]?.getD noC).2.n (fs[i]?.getD noC).2.c) := by
  induction fs with
  | nil => intro i h; simp at h
  | cons p r ih =>
    intro i h
    match i with
    | 0 => simp [flatC]
    | j + 1 => have := ih j (by simpa using h); simpa [flatC, Nat.add_mul] using this

/-- v is a slice of classes whose letters and fields' slices are vs in w. -/
def CV (w : World) (v : Value) (vs : List (Int × SV)) : Prop := w.ownsRow 0 59 2 v vs.length (flatC vs)
theorem CV.shape {w : World} {v : Value} {fs : List (Int × SV)} (h : CV w v fs) :
    (v = .slice none 0 0 ∧ fs = []) ∨ ∃ g cap, v = .slice (some ⟨g, 0, none⟩) fs.length cap ∧ g < w.heap.size ∧ fs.length ≤ maxLen ∧
      (∀ i, i < fs.length → w.cell? ⟨g, i * 2, none⟩ = some (.int .u8 (fs[i]?.getD noC).1) ∧ w.cell? ⟨g, i * 2 + 1, none⟩ = some (.slice (fs[i]?.getD noC).2.a (fs[i]?.getD noC).2.n (fs[i]?.getD noC).2.c)) := by
  rcases h.2 with ⟨rfl, hn⟩ | ⟨g, cap, cur, rfl, _, hg, h1, h2, _⟩
  · exact .inl ⟨rfl, List.length_eq_zero_iff.1 hn⟩
  · refine .inr ⟨g, cap, rfl, (Array.getElem?_eq_some_iff.1 hg).1, by omega, fun i hi => ?_⟩
    have c := World.ownsRow.cells h (g := g) rfl
    have e : ∀ j, (⟨g, 0, none⟩ : Addr).add j = ⟨g, j, none⟩ := fun j => by unfold Addr.add; split <;> simp_all
    have c0 := c (i * 2) _ (flatC_even fs i hi)
    have c1 := c (i * 2 + 1) _ (flatC_odd fs i hi)
    rw [e] at c0 c1
    exact ⟨c0, c1⟩
theorem CV.kept {w w' : World} {v : Value} {vs : List (Int × SV)} {r : Option Nat} (h : CV w v vs) (g : w.grownBy w' r) (hne : v.ownBlock = none ∨ v.ownBlock ≠ r) : CV w' v vs := World.ownsRow.kept h g hne

/-- The class of that letter; where there is none: the zero class. -/
def findC (vs : List (Int × SV)) (x : Int) : Int × SV := (vs.find? (fun p => p.1 == x)).getD noC
def hasC (vs : List (Int × SV)) (x : Int) : Bool := vs.any (fun p => p.1 == x)
theorem findC_hit (fs : List (Int × SV)) (x : Int) (k : Nat) (hk : k < fs.length) (hno : ∀ j, j < k → ¬ (fs[j]?.getD noC).1 = x) (h : ((fs[k]?.getD noC).1 == x) = true) : findC fs x = fs[k]?.getD noC ∧ hasC fs x = true := by
  constructor
  · have : fs.find? (fun p => p.1 == x) = some fs[k] := by
      rw [List.find?_eq_some_iff_getElem]
      refine ⟨by simpa [List.getElem?_eq_getElem hk] using h, k, hk, rfl, fun j hj => ?_⟩
      have := hno j hj
      have hj' : j < fs.length := by omega
      simpa [List.getElem?_eq_getElem hj'] using this
    simp [findC, this, List.getElem?_eq_getElem hk]
  · simp only [hasC, List.any_eq_true]
    exact ⟨fs[k], List.getElem_mem hk, by simpa [List.getElem?_eq_getElem hk] using h⟩
theorem findC_none (fs : List (Int × SV)) (x : Int) (hno : ∀ j, j < fs.length → ¬ (fs[j]?.getD noC).1 = x) : findC fs x = noC ∧ hasC fs x = false := by
  have h : ∀ p ∈ fs, (p.1 == x) = false := by
    intro p hp
    obtain ⟨j, hj, rfl⟩ := List.getElem_of_mem hp
    have := hno j hj
    simpa [List.getElem?_eq_getElem hj] using this
  constructor
  · have : fs.find? (fun p => p.1 == x) = none := by
      rw [List.find?_eq_none]; intro p hp; simp [h p hp]
    simp [findC, this]
  · simp only [hasC, List.any_eq_false]
    intro p hp; simp [h p hp]
theorem noC_step {fs : List (Int × SV)} {x : Int} {k : Nat} (hno : ∀ j, j < k → ¬ (fs[j]?.getD noC).1 = x) (h1 : ((fs[k]?.getD noC).1 == x) = false) : ∀ j, j < k + 1 → ¬ (fs[j]?.getD noC).1 = x := by
  intro j hj
  rcases Nat.lt_succ_iff_lt_or_eq.1 hj with h | rfl
  · exact hno j h
  · simpa using h1

def clsV (p : Int × SV) : Value := .agg #[.int .u8 p.1, .slice p.2.a p.2.n p.2.c]

set_option maxHeartbeats 400000 in
theorem find_nil (x : Int) (w : World) :
    Calls Try.prog 14 #[.agg #[.slice none 0 0], .int .u8 x] w fun e w' => e = .returned (.tuple #[.agg #[.int .u8 0, .slice none 0 0], .bool false]) ∧ Below w.heap.size w w' := by
  go_enter Try.func14, Try.ntmps14
  go_wp2
  refine wp_loop_rounds 1 ?_; rw [rounds_succ]
  go_wp2
  exact bodyPost_ret (v := .tuple #[.agg #[.int .u8 0, .slice none 0 0], .bool false]) (by simp [results, Try.results14, go_sem]) rfl ⟨rfl, ((Below.refl _ _).alloc (Nat.le_refl _) _).alloc (by simp) _⟩

set_option maxHeartbeats 400000 in
theorem find_row (x : Int) (g cap : Nat) (fs : List (Int × SV)) (w : World) (hg : g < w.heap.size) (hm : fs.length ≤ 9223372036854775807)
    (hc : ∀ i, i < fs.length → w.cell? ⟨g, i * 2, none⟩ = some (.int .u8 (fs[i]?.getD noC).1) ∧ w.cell? ⟨g, i * 2 + 1, none⟩ = some (.slice (fs[i]?.getD noC).2.a (fs[i]?.getD noC).2.n (fs[i]?.getD noC).2.c)) :
    Calls Try.prog 14 #[.agg #[.slice (some ⟨g, 0, none⟩) fs.length cap], .int .u8 x] w fun e w' => e = .returned (.tuple #[clsV (findC fs x), .bool (hasC fs x)]) ∧ Below w.heap.size w w' := by
  obtain ⟨n, hn⟩ : ∃ n, n = fs.length := ⟨_, rfl⟩
  rw [← hn] at hm hc ⊢
  have HN : Hid (n = fs.length) := hn
  clear hn
  go_enter Try.func14, Try.ntmps14
  go_wp2
  go_loopw [11] (fun i wr => ∃ k : Nat, k ≤ n ∧ i = .int .i64 k ∧ Hid (∀ j, j < k → ¬ (fs[j]?.getD noC).1 = x) ∧ Below (w.heap.size + 2) ((w.alloc (.cells #[.slice (some ⟨g, 0, none⟩) n cap] 39)).alloc (.cells #[.int .u8 0, .slice none 0 0] 59)) wr) (fun i _ => n - (intOf i).toNat)
  case atStart => exact ⟨0, Nat.zero_le _, rfl, fun j hj => by omega, Below.refl _ _⟩
  case round =>
    obtain ⟨k, hk, rfl, hno, hb⟩ := hrel
    have r0 : wr.cell? ⟨w.heap.size + 1, 0, none⟩ = some (.int .u8 0) := (hb.cell (by show w.heap.size + 1 < _; omega)).trans (by go_simp)
    have r1 : wr.cell? ⟨w.heap.size + 1, 1, none⟩ = some (.slice none 0 0) := (hb.cell (by show w.heap.size + 1 < _; omega)).trans (by go_simp)
    have rf0 : wr.frozen? ⟨w.heap.size + 1, 0, none⟩ = false := (hb.frozen (by show w.heap.size + 1 < _; omega)).trans (by go_simp)
    have rf1 : wr.frozen? ⟨w.heap.size + 1, 1, none⟩ = false := (hb.frozen (by show w.heap.size + 1 < _; omega)).trans (by go_simp)
    have hsz : w.heap.size + 2 ≤ wr.heap.size := by have := hb.size; simpa using this
    have hsz1 : w.heap.size + 1 < wr.heap.size := by omega
    have hB : Below w.heap.size w wr := (((Below.refl _ _).alloc (Nat.le_refl _) _).alloc (by simp) _).trans (hb.mono (by omega))
    by_cases hlt : k < n
    · have c0 : wr.cell? ⟨g, k * 2, none⟩ = some (.int .u8 (fs[k]?.getD noC).1) := (hb.cell (by show g < _; omega)).trans ((by go_simp : _ = w.cell? ⟨g, k * 2, none⟩).trans (hc k hlt).1)
      have c1 : wr.cell? ⟨g, k * 2 + 1, none⟩ = some (.slice (fs[k]?.getD noC).2.a (fs[k]?.getD noC).2.n (fs[k]?.getD noC).2.c) := (hb.cell (by show g < _; omega)).trans ((by go_simp : _ = w.cell? ⟨g, k * 2 + 1, none⟩).trans (hc k hlt).2)
      go_wp2
      · have h1 : ((fs[k]?.getD noC).1 == x) = true := by assumption
        have hf := findC_hit fs x k (by rw [← HN.out]; exact hlt) hno h1
        refine bodyPost_ret (v := .tuple #[clsV (fs[k]?.getD noC), .bool true]) (by simp [results, Try.results14, go_sem, r0, r1, hsz1, clsV]) rfl ⟨by rw [hf.1, hf.2], ?_⟩
        exact ((hB.setCell (by show _ ≤ w.heap.size + 1; omega) _).setCell (by show _ ≤ w.heap.size + 1; omega) _).alloc (by have := hB.size; simpa using this) _
      · have h1 : ((fs[k]?.getD noC).1 == x) = false := by assumption
        go_roundw
        case rel => exact ⟨k + 1, by omega, by go_num, noC_step hno h1, hb.alloc hsz _⟩
        case measure => simp [intOf]; omega
    · have hf := findC_none fs x (fun j hj => hno j (by rw [← HN.out] at hj; omega))
      go_wp2
      refine bodyPost_ret (v := .tuple #[clsV noC, .bool false]) (by simp [results, Try.results14, go_sem, r0, r1, clsV, noC]) rfl ⟨by rw [hf.1, hf.2], ?_⟩
      exact (hB.setCell (by show _ ≤ w.heap.size + 1; omega) _).setCell (by show _ ≤ w.heap.size + 1; omega) _

theorem find_any (x : Int) (v : Value) (vs : List (Int × SV)) (w : World) (h : CV w v vs) :
    Calls Try.prog 14 #[.agg #[v], .int .u8 x] w fun e w' => e = .returned (.tuple #[clsV (findC vs x), .bool (hasC vs x)]) ∧ Below w.heap.size w w' := by
  rcases h.shape with ⟨rfl, rfl⟩ | ⟨g, cap, rfl, hg, hm, hc⟩
  · exact find_nil x w
  · exact find_row x g cap vs w hg hm hc
end Go.Proofs.Ytiofbnmpppjdbab
