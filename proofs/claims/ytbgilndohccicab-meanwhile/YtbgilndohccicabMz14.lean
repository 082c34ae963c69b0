import Derived.Test.YtbgilndohccicabMz13
namespace Go.Proofs.Ytbgilndohccicab
open Go.RowKit

/-- What read comes to. -/
def gdE (R : GCSR) (s : ByteArray) : Int := if 200 < s.size then 1 else if R.ok = false then 2 else 0
def gdP (R : GCSR) (s : ByteArray) : Int := if 200 < s.size then 0 else if R.ok = false then (R.at_ : Int) else 0
def gdC (R : GCSR) (s : ByteArray) : List GCd := if 200 < s.size then [] else if R.ok = false then [] else R.cs
def GReadPost (R : GCSR) (s : ByteArray) (w : World) (e : Ending) (w' : World) : Prop := ∃ (a : Option Addr) (n c : Nat) (rs : List RCd),
  e = .returned (.tuple #[.slice a n c, .int .i64 (gdE R s), .int .i64 (gdP R s)]) ∧ GCs w' w.heap.size (.slice a n c) rs (gdC R s) ∧ Below w.heap.size w w'

set_option maxHeartbeats 400000 in
theorem gread_any {u : Bool} {ru : ByteArray → Nat → RuleR} {fr : ByteArray → Nat → FromR} (HRU : RuleC u ru) (HFR : FromC u fr) (s : ByteArray) (w : World) (hm : s.size ≤ 9223372036854775807) :
    Calls Try.prog 78 #[.string s, .bool u] w (GReadPost (gcLoop ru fr s 6 [] 0) s w) := by
  by_cases hs : 200 < s.size
  · have e1 : gdE (gcLoop ru fr s 6 [] 0) s = 1 := by rw [gdE, if_pos hs]
    have e2 : gdP (gcLoop ru fr s 6 [] 0) s = 0 := by rw [gdP, if_pos hs]
    have e3 : gdC (gcLoop ru fr s 6 [] 0) s = [] := by rw [gdC, if_pos hs]
    go_enter Try.func78, Try.ntmps78
    go_wp2
    refine bodyPost_ret (v := .tuple #[.slice none 0 0, .int .i64 1, .int .i64 0]) (by simp [results, Try.results78, go_sem]) rfl ⟨_, _, _, [], by rw [e1, e2], by rw [e3]; exact GCs.nil _ _, Below.refl _ _⟩
  · have hs' : s.size ≤ 200 := by omega
    have R0 : RS (w.alloc (.cells #[.string s, .int .i64 0, .bool u, .slice none 0 0] 180)) w.heap.size s 0 u := by
      refine ⟨?_, ?_, ?_, ⟨.slice none 0 0, ?_⟩, ?_, ?_, Nat.zero_le _, by omega⟩ <;> go_simp
    have Cc := gclasses_any HRU HFR s w.heap.size 0 _ R0
    obtain ⟨ok, a, cs, hr⟩ : ∃ ok a cs, gcLoop ru fr s 6 [] 0 = ⟨ok, a, cs⟩ := ⟨_, _, _, rfl⟩
    rw [hr] at Cc ⊢
    have e1 : gdE ⟨ok, a, cs⟩ s = if ok = false then 2 else 0 := by rw [gdE, if_neg hs]
    have e2 : gdP ⟨ok, a, cs⟩ s = if ok = false then (a : Int) else 0 := by rw [gdP, if_neg hs]
    have e3 : gdC ⟨ok, a, cs⟩ s = if ok = false then [] else cs := by rw [gdC, if_neg hs]
    clear hr hs R0
    cases ok with
    | false =>
      rw [if_pos rfl] at e1 e2 e3
      have E : Hid (gdE ⟨false, a, cs⟩ s = 2 ∧ gdP ⟨false, a, cs⟩ s = a ∧ gdC ⟨false, a, cs⟩ s = []) := ⟨e1, e2, e3⟩
      clear e1 e2 e3
      go_enter Try.func78, Try.ntmps78
      go_wp2_with fail
      refine Cc.mono ?_
      rintro e w1 ⟨va, vn, vc, rs, rfl, V1, R1, hg1⟩
      simp only [] at R1 ⊢
      obtain ⟨p0, p1, p2, _, q1, q3, _, _⟩ := id R1
      have B1 : Below w.heap.size w w1 := below_of_gb hg1 ((Below.refl _ _).alloc (Nat.le_refl _) _) (Nat.le_refl _)
      clear Cc hg1 V1
      go_wp2
      go_quiet (fail)
      go_wp2
      refine bodyPost_ret (v := .tuple #[.slice none 0 0, .int .i64 2, .int .i64 a]) (by simp [results, Try.results78, go_sem]) rfl ⟨_, _, _, [], by rw [E.out.1, E.out.2.1], by rw [E.out.2.2]; exact GCs.nil _ _, B1.trans ((gb_below_drew _ _).mono B1.size)⟩
    | true =>
      rw [if_neg (by decide)] at e1 e2 e3
      have E : Hid (gdE ⟨true, a, cs⟩ s = 0 ∧ gdP ⟨true, a, cs⟩ s = 0 ∧ gdC ⟨true, a, cs⟩ s = cs) := ⟨e1, e2, e3⟩
      clear e1 e2 e3
      go_enter Try.func78, Try.ntmps78
      go_wp2_with fail
      refine Cc.mono ?_
      rintro e w1 ⟨va, vn, vc, rs, rfl, V1', R1, hg1⟩
      simp only [] at R1 V1' ⊢
      have B1 : Below w.heap.size w w1 := below_of_gb hg1 ((Below.refl _ _).alloc (Nat.le_refl _) _) (Nat.le_refl _)
      have V1 : GCs w1 w.heap.size (.slice va vn vc) rs cs := V1'.mono (by simp)
      clear Cc hg1 V1'
      go_wp2
      refine bodyPost_ret (v := .tuple #[.slice va vn vc, .int .i64 0, .int .i64 0]) (by simp [results, Try.results78, go_sem]) rfl ⟨_, _, _, rs, by rw [E.out.1, E.out.2.1], by rw [E.out.2.2]; exact V1, B1⟩

set_option maxHeartbeats 400000 in
theorem readSchema_any (s : ByteArray) (w : World) (hm : s.size ≤ 9223372036854775807) :
    Calls Try.prog 58 #[.string s] w (GReadPost (gcLoop noRule noFrom s 6 [] 0) s w) := by
  obtain ⟨R, hR⟩ : ∃ R, R = gcLoop noRule noFrom s 6 [] 0 := ⟨_, rfl⟩
  have C := gread_any rule_no from_no s w hm
  rw [← hR] at C ⊢
  clear hR
  go_enter Try.func58, Try.ntmps58
  go_wp2_with fail
  refine C.mono ?_
  rintro e w1 ⟨va, vn, vc, rs, rfl, V1, B1⟩
  clear C
  obtain ⟨x, hx⟩ : ∃ x, x = gdE R s := ⟨_, rfl⟩
  obtain ⟨y, hy⟩ : ∃ y, y = gdP R s := ⟨_, rfl⟩
  rw [← hx, ← hy]
  have HX : Hid (x = gdE R s ∧ y = gdP R s) := ⟨hx, hy⟩
  clear hx hy
  go_wp2
  refine bodyPost_ret (v := .tuple #[.slice va vn vc, .int .i64 x, .int .i64 y]) (by simp [results, Try.results58, go_sem]) rfl ⟨_, _, _, rs, by rw [HX.out.1, HX.out.2], V1, B1⟩
end Go.Proofs.Ytbgilndohccicab
namespace Go.Proofs.Ytbgilndohccicab
open Go.RowKit

theorem flatm_get {α : Type} (f : α → List Value) (n : Nat) (hf : ∀ x, (f x).length = n) (j : Nat) (hj : j < n) : ∀ (l : List α) (i : Nat), (l.flatMap f)[i * n + j]? = l[i]?.bind (fun x => (f x)[j]?) := by
  intro l
  induction l with
  | nil => intro i; simp
  | cons x l ih =>
    intro i
    match i with
    | 0 => rw [Nat.zero_mul, Nat.zero_add, List.flatMap_cons, List.getElem?_append_left (by rw [hf]; exact hj)]; simp
    | i + 1 =>
      rw [List.flatMap_cons, List.getElem?_append_right (by rw [hf, Nat.add_mul]; omega), hf, show (i + 1) * n + j - n = i * n + j by rw [Nat.add_mul]; omega, ih i]
      simp
theorem row_cell {w : World} {base : Nat} {e : TypeId} {g m cap : Nat} {α : Type} {f : α → List Value} {n : Nat} {l : List α} (h : w.ownsRow base e n (.slice (some ⟨g, 0, none⟩) m cap) l.length (l.flatMap f)) (hf : ∀ x, (f x).length = n) {i j : Nat} {x : α} {v : Value} (hx : l[i]? = some x) (hj : (f x)[j]? = some v) : w.cell? ⟨g, i * n + j, none⟩ = some v := by
  have hjn : j < n := by rw [← hf x]; exact (List.getElem?_eq_some_iff.1 hj).1
  have c := World.ownsRow.cells h (g := g) rfl (i * n + j) v (by rw [flatm_get f n hf j hjn, hx]; exact hj)
  have e : (⟨g, 0, none⟩ : Addr).add (i * n + j) = ⟨g, i * n + j, none⟩ := by unfold Addr.add; split <;> simp_all
  rwa [e] at c

/-- The class, the field at a place of the rows in block g. -/
structure CCell (w : World) (g i : Nat) (r : RCd) : Prop where
  c0 : w.cell? ⟨g, i * 5, none⟩ = some (.int .u8 r.l)
  c1 : w.cell? ⟨g, i * 5 + 1, none⟩ = some (.int .i64 r.p)
  c2 : w.cell? ⟨g, i * 5 + 2, none⟩ = some (.int .u8 r.fl)
  c3 : w.cell? ⟨g, i * 5 + 3, none⟩ = some (.int .i64 r.fp)
  c4 : w.cell? ⟨g, i * 5 + 4, none⟩ = some (.slice r.f.a r.f.n r.f.c)
structure GFCell (w : World) (g i : Nat) (r : RFd) : Prop where
  c0 : w.cell? ⟨g, i * 6, none⟩ = some (.int .u8 r.l)
  c1 : w.cell? ⟨g, i * 6 + 1, none⟩ = some (.int .i64 r.p)
  c2 : w.cell? ⟨g, i * 6 + 2, none⟩ = some (.int .u8 r.k)
  c3 : w.cell? ⟨g, i * 6 + 3, none⟩ = some (.slice r.t.a r.t.n r.t.c)
  c4 : w.cell? ⟨g, i * 6 + 4, none⟩ = some (.int .i64 r.sp)
  c5 : w.cell? ⟨g, i * 6 + 5, none⟩ = some (.bool r.ex)
theorem CCell.below {w w' : World} {B g i : Nat} {r : RCd} (h : CCell w g i r) (hb : Below B w w') (hg : g < B) : CCell w' g i r :=
  ⟨(hb.cell (by exact hg)).trans h.c0, (hb.cell (by exact hg)).trans h.c1, (hb.cell (by exact hg)).trans h.c2, (hb.cell (by exact hg)).trans h.c3, (hb.cell (by exact hg)).trans h.c4⟩
theorem GFCell.below {w w' : World} {B g i : Nat} {r : RFd} (h : GFCell w g i r) (hb : Below B w w') (hg : g < B) : GFCell w' g i r :=
  ⟨(hb.cell (by exact hg)).trans h.c0, (hb.cell (by exact hg)).trans h.c1, (hb.cell (by exact hg)).trans h.c2, (hb.cell (by exact hg)).trans h.c3, (hb.cell (by exact hg)).trans h.c4, (hb.cell (by exact hg)).trans h.c5⟩
def zR : RCd := ⟨0, 0, 0, 0, ⟨none, 0, 0⟩⟩
def zRF : RFd := ⟨0, 0, 0, ⟨none, 0, 0⟩, 0, false⟩
theorem getD_of {α : Type} {l : List α} {i : Nat} (h : i < l.length) (z : α) : l[i]? = some (l[i]?.getD z) := by rw [List.getElem?_eq_getElem h]; rfl
theorem GCs.cells {w : World} {base : Nat} {v : Value} {rs : List RCd} {cs : List GCd} (h : GCs w base v rs cs) : (v = .slice none 0 0 ∧ rs = []) ∨ ∃ g cap, v = .slice (some ⟨g, 0, none⟩) rs.length cap ∧ g < w.heap.size ∧ rs.length ≤ cap ∧ rs.length ≤ maxLen ∧ ∀ i, i < rs.length → CCell w g i (rs[i]?.getD zR) := by
  rcases h.row.2 with ⟨rfl, hn⟩ | ⟨g, cap, cur, rfl, _, hg, h1, h2, _⟩
  · exact .inl ⟨rfl, List.length_eq_zero_iff.1 hn⟩
  · refine .inr ⟨g, cap, rfl, (Array.getElem?_eq_some_iff.1 hg).1, h1, by omega, fun i hi => ?_⟩
    have hx := getD_of hi zR
    have hr := h.row
    unfold flatD at hr
    have hf : ∀ x, (rcdV x).length = 5 := fun _ => rfl
    exact ⟨by simpa using row_cell hr hf (j := 0) hx rfl, row_cell hr hf (j := 1) hx rfl, row_cell hr hf (j := 2) hx rfl, row_cell hr hf (j := 3) hx rfl, row_cell hr hf (j := 4) hx rfl⟩
theorem GFs.cells {w : World} {base : Nat} {v : Value} {rs : List RFd} {fs : List GFd} (h : GFs w base v rs fs) : (v = .slice none 0 0 ∧ rs = []) ∨ ∃ g cap, v = .slice (some ⟨g, 0, none⟩) rs.length cap ∧ g < w.heap.size ∧ rs.length ≤ cap ∧ rs.length ≤ maxLen ∧ ∀ i, i < rs.length → GFCell w g i (rs[i]?.getD zRF) := by
  rcases h.row.2 with ⟨rfl, hn⟩ | ⟨g, cap, cur, rfl, _, hg, h1, h2, _⟩
  · exact .inl ⟨rfl, List.length_eq_zero_iff.1 hn⟩
  · refine .inr ⟨g, cap, rfl, (Array.getElem?_eq_some_iff.1 hg).1, h1, by omega, fun i hi => ?_⟩
    have hx := getD_of hi zRF
    have hr := h.row
    unfold flatGF at hr
    have hf : ∀ x, (rfdV x).length = 6 := fun _ => rfl
    exact ⟨by simpa using row_cell hr hf (j := 0) hx rfl, row_cell hr hf (j := 1) hx rfl, row_cell hr hf (j := 2) hx rfl, row_cell hr hf (j := 3) hx rfl, row_cell hr hf (j := 4) hx rfl, row_cell hr hf (j := 5) hx rfl⟩

/-- Does the letter stand among the first m? -/
def hasB (L : Nat → Int) (m : Nat) (x : Int) : Bool := (List.range m).any (fun i => L i == x)
theorem hasB_hit {L : Nat → Int} {m k : Nat} {x : Int} (hk : k < m) (h : (L k == x) = true) : hasB L m x = true := by
  simp only [hasB, List.any_eq_true, List.mem_range]; exact ⟨k, hk, h⟩
theorem hasB_none {L : Nat → Int} {m : Nat} {x : Int} (h : ∀ j, j < m → ¬ L j = x) : hasB L m x = false := by
  simp only [hasB, List.any_eq_false, List.mem_range]; intro k hk; simpa using h k hk
theorem none_step {L : Nat → Int} {k : Nat} {x : Int} (hno : ∀ j, j < k → ¬ L j = x) (h1 : (L k == x) = false) : ∀ j, j < k + 1 → ¬ L j = x := by
  intro j hj
  rcases Nat.lt_succ_iff_lt_or_eq.1 hj with h | rfl
  · exact hno j h
  · simpa using h1
theorem ret_boolG {a b : Bool} (h : a = b) : Ending.returned (.bool a) = .returned (.bool b) := by rw [h]

set_option maxHeartbeats 400000 in
theorem hasClass_row (x : Int) (g cap m : Nat) (L : Nat → RCd) (w : World) (hg : g < w.heap.size) (hm : m ≤ 9223372036854775807) (hc : ∀ i, i < m → CCell w g i (L i)) :
    Calls Try.prog 79 #[.slice (some ⟨g, 0, none⟩) m cap, .int .u8 x] w fun e w' => e = .returned (.bool (hasB (fun i => (L i).l) m x)) ∧ Below w.heap.size w w' := by
  go_enter Try.func79, Try.ntmps79
  go_wp2
  go_loopw [9] (fun i wr => ∃ k : Nat, k ≤ m ∧ i = .int .i64 k ∧ Hid (∀ j, j < k → ¬ (L j).l = x) ∧ Below w.heap.size w wr) (fun i _ => m - (intOf i).toNat)
  case atStart => exact ⟨0, Nat.zero_le _, rfl, fun j hj => by omega, Below.refl _ _⟩
  case round =>
    obtain ⟨k, hk, rfl, hno, hb⟩ := hrel
    by_cases hlt : k < m
    · obtain ⟨c0, c1, c2, c3, c4⟩ := (hc k hlt).below hb hg
      obtain ⟨r, hr⟩ : ∃ r, r = L k := ⟨_, rfl⟩
      rw [← hr] at c0 c1 c2 c3 c4
      have HR : Hid (r = L k) := hr
      clear hr
      by_cases h1 : r.l = x
      · have h1' : (r.l == x) = true := by simpa using h1
        clear h1
        go_wp2
        go_ret
        exact ⟨ret_boolG (hasB_hit hlt (by rw [← HR.out]; exact h1')).symm, hb.alloc hb.size _⟩
      · have h1' : (r.l == x) = false := by simpa using h1
        clear h1
        go_wp2
        go_roundw
        case rel => exact ⟨k + 1, by omega, by go_num, none_step (L := fun i => (L i).l) hno (by rw [← HR.out]; exact h1'), hb.alloc hb.size _⟩
        case measure => simp [intOf]; omega
    · go_wp2
      go_ret
      exact ⟨ret_boolG (hasB_none (L := fun i => (L i).l) (fun j hj => hno j (by omega))).symm, hb⟩
set_option maxHeartbeats 400000 in
theorem hasField_row (x : Int) (g cap m : Nat) (L : Nat → RFd) (w : World) (hg : g < w.heap.size) (hm : m ≤ 9223372036854775807) (hc : ∀ i, i < m → GFCell w g i (L i)) :
    Calls Try.prog 80 #[.slice (some ⟨g, 0, none⟩) m cap, .int .u8 x] w fun e w' => e = .returned (.bool (hasB (fun i => (L i).l) m x)) ∧ Below w.heap.size w w' := by
  go_enter Try.func80, Try.ntmps80
  go_wp2
  go_loopw [9] (fun i wr => ∃ k : Nat, k ≤ m ∧ i = .int .i64 k ∧ Hid (∀ j, j < k → ¬ (L j).l = x) ∧ Below w.heap.size w wr) (fun i _ => m - (intOf i).toNat)
  case atStart => exact ⟨0, Nat.zero_le _, rfl, fun j hj => by omega, Below.refl _ _⟩
  case round =>
    obtain ⟨k, hk, rfl, hno, hb⟩ := hrel
    by_cases hlt : k < m
    · obtain ⟨c0, c1, c2, c3, c4, c5⟩ := (hc k hlt).below hb hg
      obtain ⟨r, hr⟩ : ∃ r, r = L k := ⟨_, rfl⟩
      rw [← hr] at c0 c1 c2 c3 c4 c5
      have HR : Hid (r = L k) := hr
      clear hr
      by_cases h1 : r.l = x
      · have h1' : (r.l == x) = true := by simpa using h1
        clear h1
        go_wp2
        go_ret
        exact ⟨ret_boolG (hasB_hit hlt (by rw [← HR.out]; exact h1')).symm, hb.alloc hb.size _⟩
      · have h1' : (r.l == x) = false := by simpa using h1
        clear h1
        go_wp2
        go_roundw
        case rel => exact ⟨k + 1, by omega, by go_num, none_step (L := fun i => (L i).l) hno (by rw [← HR.out]; exact h1'), hb.alloc hb.size _⟩
        case measure => simp [intOf]; omega
    · go_wp2
      go_ret
      exact ⟨ret_boolG (hasB_none (L := fun i => (L i).l) (fun j hj => hno j (by omega))).symm, hb⟩
end Go.Proofs.Ytbgilndohccicab
