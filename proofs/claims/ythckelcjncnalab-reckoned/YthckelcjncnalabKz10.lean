import Derived.Test.YthckelcjncnalabKz09
namespace Go.Proofs.Ythckelcjncnalab
open Go.RowKit

theorem flatm_get {α : Type} (f : α → List Value) (n : Nat) (hf : ∀ x, (f x).length = n) (j : Nat) (hj : j < n) : ∀ (l : List α) (i : Nat), (l.flatMap f)[i * n + j]? = l[i]?.bind (fun x => (f x)[j]?) := by
  intro l
  induction l with
  | nil => intro i; simp
  | cons x l ih =>
    intro i
    match i with
    | 0 => rw [Nat.zero_mul, Nat.zero_add, List.flatMap_cons, List.getElem?_append_left (by rw [hf]; exact hj)]; simp
    | i + 1 =>
      rw [List.flatMap_cons, List.getElem?_append_right (by rw [hf, Nat.add_mul]; omega), hf, show (i + 1) * n + j - n = i * n + j by rw [Nat.add_mul]; omega, ih i]
      simp
theorem row_cell {w : World} {base : Nat} {e : TypeId} {g m cap : Nat} {α : Type} {f : α → List Value} {n : Nat} {l : List α} (h : w.ownsRow base e n (.slice (some ⟨g, 0, none⟩) m cap) l.length (l.flatMap f)) (hf : ∀ x, (f x).length = n) {i j : Nat} {x : α} {v : Value} (hx : l[i]? = some x) (hj : (f x)[j]? = some v) : w.cell? ⟨g, i * n + j, none⟩ = some v := by
  have hjn : j < n := by rw [← hf x]; exact (List.getElem?_eq_some_iff.1 hj).1
  have c := World.ownsRow.cells h (g := g) rfl (i * n + j) v (by rw [flatm_get f n hf j hjn, hx]; exact hj)
  have e : (⟨g, 0, none⟩ : Addr).add (i * n + j) = ⟨g, i * n + j, none⟩ := by unfold Addr.add; split <;> simp_all
  rwa [e] at c

/-- The class, the field at a place of the rows in block g. -/
structure CCell (w : World) (g i : Nat) (r : RCd) : Prop where
  c0 : w.cell? ⟨g, i * 5, none⟩ = some (.int .u8 r.l)
  c1 : w.cell? ⟨g, i * 5 + 1, none⟩ = some (.int .i64 r.p)
  c2 : w.cell? ⟨g, i * 5 + 2, none⟩ = some (.int .u8 r.fl)
  c3 : w.cell? ⟨g, i * 5 + 3, none⟩ = some (.int .i64 r.fp)
  c4 : w.cell? ⟨g, i * 5 + 4, none⟩ = some (.slice r.f.a r.f.n r.f.c)
structure GFCell (w : World) (g i : Nat) (r : RFd) : Prop where
  c0 : w.cell? ⟨g, i * 6, none⟩ = some (.int .u8 r.l)
  c1 : w.cell? ⟨g, i * 6 + 1, none⟩ = some (.int .i64 r.p)
  c2 : w.cell? ⟨g, i * 6 + 2, none⟩ = some (.int .u8 r.k)
  c3 : w.cell? ⟨g, i * 6 + 3, none⟩ = some (.slice r.t.a r.t.n r.t.c)
  c4 : w.cell? ⟨g, i * 6 + 4, none⟩ = some (.int .i64 r.sp)
  c5 : w.cell? ⟨g, i * 6 + 5, none⟩ = some (.bool r.ex)
theorem CCell.below {w w' : World} {B g i : Nat} {r : RCd} (h : CCell w g i r) (hb : Below B w w') (hg : g < B) : CCell w' g i r :=
  ⟨(hb.cell (by exact hg)).trans h.c0, (hb.cell (by exact hg)).trans h.c1, (hb.cell (by exact hg)).trans h.c2, (hb.cell (by exact hg)).trans h.c3, (hb.cell (by exact hg)).trans h.c4⟩
theorem GFCell.below {w w' : World} {B g i : Nat} {r : RFd} (h : GFCell w g i r) (hb : Below B w w') (hg : g < B) : GFCell w' g i r :=
  ⟨(hb.cell (by exact hg)).trans h.c0, (hb.cell (by exact hg)).trans h.c1, (hb.cell (by exact hg)).trans h.c2, (hb.cell (by exact hg)).trans h.c3, (hb.cell (by exact hg)).trans h.c4, (hb.cell (by exact hg)).trans h.c5⟩
def zR : RCd := ⟨0, 0, 0, 0, ⟨none, 0, 0⟩⟩
def zRF : RFd := ⟨0, 0, 0, ⟨none, 0, 0⟩, 0, false⟩
theorem getD_of {α : Type} {l : List α} {i : Nat} (h : i < l.length) (z : α) : l[i]? = some (l[i]?.getD z) := by rw [List.getElem?_eq_getElem h]; rfl
theorem GCs.cells {w : World} {base : Nat} {v : Value} {rs : List RCd} {cs : List GCd} (h : GCs w base v rs cs) : (v = .slice none 0 0 ∧ rs = []) ∨ ∃ g cap, v = .slice (some ⟨g, 0, none⟩) rs.length cap ∧ g < w.heap.size ∧ rs.length ≤ cap ∧ rs.length ≤ maxLen ∧ ∀ i, i < rs.length → CCell w g i (rs[i]?.getD zR) := by
  rcases h.row.2 with ⟨rfl, hn⟩ | ⟨g, cap, cur, rfl, _, hg, h1, h2, _⟩
  · exact .inl ⟨rfl, List.length_eq_zero_iff.1 hn⟩
  · refine .inr ⟨g, cap, rfl, (Array.getElem?_eq_some_iff.1 hg).1, h1, by omega, fun i hi => ?_⟩
    have hx := getD_of hi zR
    have hr := h.row
    unfold flatD at hr
    have hf : ∀ x, (rcdV x).length = 5 := fun _ => rfl
    exact ⟨by simpa using row_cell hr hf (j := 0) hx rfl, row_cell hr hf (j := 1) hx rfl, row_cell hr hf (j := 2) hx rfl, row_cell hr hf (j := 3) hx rfl, row_cell hr hf (j := 4) hx rfl⟩
theorem GFs.cells {w : World} {base : Nat} {v : Value} {rs : List RFd} {fs : List GFd} (h : GFs w base v rs fs) : (v = .slice none 0 0 ∧ rs = []) ∨ ∃ g cap, v = .slice (some ⟨g, 0, none⟩) rs.length cap ∧ g < w.heap.size ∧ rs.length ≤ cap ∧ rs.length ≤ maxLen ∧ ∀ i, i < rs.length → GFCell w g i (rs[i]?.getD zRF) := by
  rcases h.row.2 with ⟨rfl, hn⟩ | ⟨g, cap, cur, rfl, _, hg, h1, h2, _⟩
  · exact .inl ⟨rfl, List.length_eq_zero_iff.1 hn⟩
  · refine .inr ⟨g, cap, rfl, (Array.getElem?_eq_some_iff.1 hg).1, h1, by omega, fun i hi => ?_⟩
    have hx := getD_of hi zRF
    have hr := h.row
    unfold flatGF at hr
    have hf : ∀ x, (rfdV x).length = 6 := fun _ => rfl
    exact ⟨by simpa using row_cell hr hf (j := 0) hx rfl, row_cell hr hf (j := 1) hx rfl, row_cell hr hf (j := 2) hx rfl, row_cell hr hf (j := 3) hx rfl, row_cell hr hf (j := 4) hx rfl, row_cell hr hf (j := 5) hx rfl⟩

/-- Does the letter stand among the first m? -/
def hasB (L : Nat → Int) (m : Nat) (x : Int) : Bool := (List.range m).any (fun i => L i == x)
theorem hasB_hit {L : Nat → Int} {m k : Nat} {x : Int} (hk : k < m) (h : (L k == x) = true) : hasB L m x = true := by
  simp only [hasB, List.any_eq_true, List.mem_range]; exact ⟨k, hk, h⟩
theorem hasB_none {L : Nat → Int} {m : Nat} {x : Int} (h : ∀ j, j < m → ¬ L j = x) : hasB L m x = false := by
  simp only [hasB, List.any_eq_false, List.mem_range]; intro k hk; simpa using h k hk
theorem none_step {L : Nat → Int} {k : Nat} {x : Int} (hno : ∀ j, j < k → ¬ L j = x) (h1 : (L k == x) = false) : ∀ j, j < k + 1 → ¬ L j = x := by
  intro j hj
  rcases Nat.lt_succ_iff_lt_or_eq.1 hj with h | rfl
  · exact hno j h
  · simpa using h1
theorem ret_boolG {a b : Bool} (h : a = b) : Ending.returned (.bool a) = .returned (.bool b) := by rw [h]

set_option maxHeartbeats 400000 in
theorem hasClass_row (x : Int) (g cap m : Nat) (L : Nat → RCd) (w : World) (hg : g < w.heap.size) (hm : m ≤ 9223372036854775807) (hc : ∀ i, i < m → CCell w g i (L i)) :
    Calls Try.prog 51 #[.slice (some ⟨g, 0, none⟩) m cap, .int .u8 x] w fun e w' => e = .returned (.bool (hasB (fun i => (L i).l) m x)) ∧ Below w.heap.size w w' := by
  go_enter Try.func51, Try.ntmps51
  go_wp2
  go_loopw [9] (fun i wr => ∃ k : Nat, k ≤ m ∧ i = .int .i64 k ∧ Hid (∀ j, j < k → ¬ (L j).l = x) ∧ Below w.heap.size w wr) (fun i _ => m - (intOf i).toNat)
  case atStart => exact ⟨0, Nat.zero_le _, rfl, fun j hj => by omega, Below.refl _ _⟩
  case round =>
    obtain ⟨k, hk, rfl, hno, hb⟩ := hrel
    by_cases hlt : k < m
    · obtain ⟨c0, c1, c2, c3, c4⟩ := (hc k hlt).below hb hg
      obtain ⟨r, hr⟩ : ∃ r, r = L k := ⟨_, rfl⟩
      rw [← hr] at c0 c1 c2 c3 c4
      have HR : Hid (r = L k) := hr
      clear hr
      by_cases h1 : r.l = x
      · have h1' : (r.l == x) = true := by simpa using h1
        clear h1
        go_wp2
        go_ret
        exact ⟨ret_boolG (hasB_hit hlt (by rw [← HR.out]; exact h1')).symm, hb.alloc hb.size _⟩
      · have h1' : (r.l == x) = false := by simpa using h1
        clear h1
        go_wp2
        go_roundw
        case rel => exact ⟨k + 1, by omega, by go_num, none_step (L := fun i => (L i).l) hno (by rw [← HR.out]; exact h1'), hb.alloc hb.size _⟩
        case measure => simp [intOf]; omega
    · go_wp2
      go_ret
      exact ⟨ret_boolG (hasB_none (L := fun i => (L i).l) (fun j hj => hno j (by omega))).symm, hb⟩
set_option maxHeartbeats 400000 in
theorem hasField_row (x : Int) (g cap m : Nat) (L : Nat → RFd) (w : World) (hg : g < w.heap.size) (hm : m ≤ 9223372036854775807) (hc : ∀ i, i < m → GFCell w g i (L i)) :
    Calls Try.prog 52 #[.slice (some ⟨g, 0, none⟩) m cap, .int .u8 x] w fun e w' => e = .returned (.bool (hasB (fun i => (L i).l) m x)) ∧ Below w.heap.size w w' := by
  go_enter Try.func52, Try.ntmps52
  go_wp2
  go_loopw [9] (fun i wr => ∃ k : Nat, k ≤ m ∧ i = .int .i64 k ∧ Hid (∀ j, j < k → ¬ (L j).l = x) ∧ Below w.heap.size w wr) (fun i _ => m - (intOf i).toNat)
  case atStart => exact ⟨0, Nat.zero_le _, rfl, fun j hj => by omega, Below.refl _ _⟩
  case round =>
    obtain ⟨k, hk, rfl, hno, hb⟩ := hrel
    by_cases hlt : k < m
    · obtain ⟨c0, c1, c2, c3, c4, c5⟩ := (hc k hlt).below hb hg
      obtain ⟨r, hr⟩ : ∃ r, r = L k := ⟨_, rfl⟩
      rw [← hr] at c0 c1 c2 c3 c4 c5
      have HR : Hid (r = L k) := hr
      clear hr
      by_cases h1 : r.l = x
      · have h1' : (r.l == x) = true := by simpa using h1
        clear h1
        go_wp2
        go_ret
        exact ⟨ret_boolG (hasB_hit hlt (by rw [← HR.out]; exact h1')).symm, hb.alloc hb.size _⟩
      · have h1' : (r.l == x) = false := by simpa using h1
        clear h1
        go_wp2
        go_roundw
        case rel => exact ⟨k + 1, by omega, by go_num, none_step (L := fun i => (L i).l) hno (by rw [← HR.out]; exact h1'), hb.alloc hb.size _⟩
        case measure => simp [intOf]; omega
    · go_wp2
      go_ret
      exact ⟨ret_boolG (hasB_none (L := fun i => (L i).l) (fun j hj => hno j (by omega))).symm, hb⟩
end Go.Proofs.Ythckelcjncnalab
