import Derived.Test.YthckelcjncnalaaLi1
import Derived.Deep.RegionLaw
import Derived.Maps.AppendAt
namespace Go.Proofs.Ythckelcjncnalaa
open Go.RowKit

/-- The statement's schema. -/
def csL : Sch := [(78, [(118, 108), (97, 114), (98, 114)]), (81, [(118, 119), (97, 114)])]
theorem csL_N : fof csL 78 = [(118, 108), (97, 114), (98, 114)] := rfl
theorem csL_Q : fof csL 81 = [(118, 119), (97, 114)] := rfl
theorem csL_6 : ∀ c ∈ csL, c.2.length ≤ 6 := by intro c hc; simp [csL] at hc; rcases hc with rfl | rfl <;> decide
/-- The graph as the document's heap would have it. -/
def dh (G : GG) : DH := ⟨fun i => (G.R i + 1).toNat, fun x => G.c (x - 1), fun x j => if j = 0 then G.v (x - 1) else if j = 1 then G.a (x - 1) + 1 else if j = 2 then G.b (x - 1) + 1 else 0, G.n⟩
structure GW (G : GG) : Prop where
  R : ∀ i, i < 8 → -1 ≤ G.R i ∧ G.R i < G.n
  a : ∀ i, i < G.n → -1 ≤ G.a i ∧ G.a i < G.n
  b : ∀ i, i < G.n → -1 ≤ G.b i ∧ G.b i < G.n
  c : ∀ i, i < G.n → G.c i = 78 ∨ (G.c i = 81 ∧ G.b i = -1)
  v : ∀ i, i < G.n → -9223372036854775808 ≤ G.v i ∧ G.v i ≤ 9223372036854775807
def inG (G : GG) (o : Nat) : Prop := (dh G).in csL (o + 1)
theorem inG_root {G : GG} {i o : Nat} (hi : i < 8) (h : G.R i = o) : inG G o := .root ⟨i, hi, by show (G.R i + 1).toNat = o + 1; rw [h]; omega, by omega⟩
theorem inG_a {G : GG} (hW : GW G) {x y : Nat} (hx : x < G.n) (h : inG G x) (e : G.a x = y) : inG G y := by
  refine .step h ⟨1, (97, 114), ?_, rfl, ?_, by omega⟩
  · show (fof csL (G.c (x + 1 - 1)))[1]? = _
    rw [Nat.add_sub_cancel]
    rcases hW.c x hx with hc | ⟨hc, _⟩ <;> rw [hc] <;> rfl
  · show G.a (x + 1 - 1) + 1 = _
    rw [Nat.add_sub_cancel, e]; simp
theorem inG_b {G : GG} (hW : GW G) {x y : Nat} (hx : x < G.n) (h : inG G x) (e : G.b x = y) : inG G y := by
  have hc : G.c x = 78 := by
    rcases hW.c x hx with hc | ⟨_, hb⟩
    · exact hc
    · omega
  refine .step h ⟨2, (98, 114), ?_, rfl, ?_, by omega⟩
  · show (fof csL (G.c (x + 1 - 1)))[2]? = _
    rw [Nat.add_sub_cancel, hc]; rfl
  · show G.b (x + 1 - 1) + 1 = _
    rw [Nat.add_sub_cancel, e]; simp
theorem inG_least {G : GG} (hW : GW G) {P : Nat → Prop} (h1 : ∀ i o : Nat, i < 8 → G.R i = o → P o) (h2 : ∀ x y : Nat, x < G.n → P x → (G.a x = y ∨ G.b x = y) → P y) {o : Nat} (h : inG G o) : o < G.n ∧ P o := by
  have key : ∃ q, o + 1 = q + 1 ∧ q < G.n ∧ P q := by
    refine Rch.least (P := fun x => ∃ q, x = q + 1 ∧ q < G.n ∧ P q) ?_ ?_ h
    · rintro x ⟨i, hi, rfl, hx⟩
      have hR := hW.R i hi
      have hx' : (G.R i + 1).toNat ≠ 0 := hx
      refine ⟨(G.R i).toNat, ?_, by omega, h1 i _ hi (by omega)⟩
      show (G.R i + 1).toNat = _
      omega
    · rintro x y ⟨q, rfl, hq, hp⟩ ⟨j, f, hf, hk, hc, hy⟩
      have hf' : (fof csL (G.c q))[j]? = some f := by
        have : (fof csL (G.c (q + 1 - 1)))[j]? = some f := hf
        rw [Nat.add_sub_cancel] at this; exact this
      have hc' : (if j = 0 then G.v q else if j = 1 then G.a q + 1 else if j = 2 then G.b q + 1 else 0) = (y : Int) := by
        have : (if j = 0 then G.v (q + 1 - 1) else if j = 1 then G.a (q + 1 - 1) + 1 else if j = 2 then G.b (q + 1 - 1) + 1 else 0) = (y : Int) := hc
        rw [Nat.add_sub_cancel] at this; exact this
      have hj : (j = 1) ∨ (j = 2) := by
        rcases hW.c q hq with h | ⟨h, _⟩ <;> rw [h] at hf'
        · rw [csL_N] at hf'
          match j, hf' with
          | 0, hf' => simp at hf'; rw [← hf'] at hk; simp at hk
          | 1, _ => exact .inl rfl
          | 2, _ => exact .inr rfl
          | j + 3, hf' => simp at hf'
        · rw [csL_Q] at hf'
          match j, hf' with
          | 0, hf' => simp at hf'; rw [← hf'] at hk; simp at hk
          | 1, _ => exact .inl rfl
          | j + 2, hf' => simp at hf'
      rcases hj with rfl | rfl
      · have ha := hW.a q hq
        have e : G.a q + 1 = y := hc'
        exact ⟨y - 1, by omega, by omega, h2 q (y - 1) hq hp (.inl (by omega))⟩
      · have hb := hW.b q hq
        have e : G.b q + 1 = y := hc'
        exact ⟨y - 1, by omega, by omega, h2 q (y - 1) hq hp (.inr (by omega))⟩
  obtain ⟨q, e, hq, hp⟩ := key
  have : o = q := by omega
  subst this
  exact ⟨hq, hp⟩
/-- The search: marks and the stack. -/
structure DI (G : GG) (T : Nat → Bool) (l : List Int) : Prop where
  snd : ∀ o, o < G.n → T o = true → inG G o
  stk : ∀ x ∈ l, x < 0 ∨ ∃ o : Nat, x = o ∧ o < G.n ∧ inG G o
  ca : ∀ o, o < G.n → T o = true → G.a o < 0 ∨ (∃ y : Nat, G.a o = y ∧ T y = true) ∨ G.a o ∈ l
  cb : ∀ o, o < G.n → T o = true → G.b o < 0 ∨ (∃ y : Nat, G.b o = y ∧ T y = true) ∨ G.b o ∈ l
  rts : ∀ i, i < 8 → G.R i < 0 ∨ (∃ y : Nat, G.R i = y ∧ T y = true) ∨ G.R i ∈ l
theorem mem_snoc {l : List Int} {x y : Int} (h : y ∈ l ++ [x]) : y ∈ l ∨ y = x := by
  rcases List.mem_append.1 h with h | h
  · exact .inl h
  · simp at h; exact .inr h
theorem DI.skip {G : GG} {T : Nat → Bool} {l : List Int} {x : Int} (h : DI G T (l ++ [x])) (hx : x < 0 ∨ ∃ o : Nat, x = o ∧ T o = true) : DI G T l := by
  have key : ∀ y : Int, (y < 0 ∨ (∃ z : Nat, y = z ∧ T z = true) ∨ y ∈ l ++ [x]) → (y < 0 ∨ (∃ z : Nat, y = z ∧ T z = true) ∨ y ∈ l) := by
    intro y hy
    rcases hy with hy | hy | hy
    · exact .inl hy
    · exact .inr (.inl hy)
    · rcases mem_snoc hy with hy | rfl
      · exact .inr (.inr hy)
      · rcases hx with hx | hx
        · exact .inl hx
        · exact .inr (.inl hx)
  exact ⟨h.snd, fun y hy => h.stk y (List.mem_append_left _ hy), fun o ho ht => key _ (h.ca o ho ht), fun o ho ht => key _ (h.cb o ho ht), fun i hi => key _ (h.rts i hi)⟩
theorem DI.mark {G : GG} (hW : GW G) {T : Nat → Bool} {l : List Int} {o : Nat} (h : DI G T (l ++ [(o : Int)])) (ho : o < G.n) : DI G (set1 T o true) (l ++ [G.a o, G.b o]) := by
  have hin : inG G o := by
    rcases h.stk o (by simp) with h' | ⟨q, e, _, hq⟩
    · omega
    · have : o = q := by omega
      rw [this]; exact hq
  have key : ∀ y : Int, (y < 0 ∨ (∃ z : Nat, y = z ∧ T z = true) ∨ y ∈ l ++ [(o : Int)]) → (y < 0 ∨ (∃ z : Nat, y = z ∧ set1 T o true z = true) ∨ y ∈ l ++ [G.a o, G.b o]) := by
    intro y hy
    rcases hy with hy | ⟨z, e, hz⟩ | hy
    · exact .inl hy
    · refine .inr (.inl ⟨z, e, ?_⟩)
      by_cases hzo : z = o
      · subst hzo; rw [set1_self]
      · rw [set1_ne _ _ hzo]; exact hz
    · rcases mem_snoc hy with hy | rfl
      · exact .inr (.inr (List.mem_append_left _ hy))
      · exact .inr (.inl ⟨o, rfl, set1_self _ _ _⟩)
  refine ⟨fun q hq ht => ?_, fun y hy => ?_, fun q hq ht => ?_, fun q hq ht => ?_, fun i hi => key _ (h.rts i hi)⟩
  · by_cases hqo : q = o
    · subst hqo; exact hin
    · rw [set1_ne _ _ hqo] at ht; exact h.snd q hq ht
  · rcases List.mem_append.1 hy with hy | hy
    · exact h.stk y (List.mem_append_left _ hy)
    · simp at hy
      rcases hy with rfl | rfl
      · have := hW.a o ho
        by_cases h0 : G.a o < 0
        · exact .inl h0
        · exact .inr ⟨(G.a o).toNat, by omega, by omega, inG_a hW ho hin (by omega)⟩
      · have := hW.b o ho
        by_cases h0 : G.b o < 0
        · exact .inl h0
        · exact .inr ⟨(G.b o).toNat, by omega, by omega, inG_b hW ho hin (by omega)⟩
  · by_cases hqo : q = o
    · subst hqo; exact .inr (.inr (by simp))
    · rw [set1_ne _ _ hqo] at ht; exact key _ (h.ca q hq ht)
  · by_cases hqo : q = o
    · subst hqo; exact .inr (.inr (by simp))
    · rw [set1_ne _ _ hqo] at ht; exact key _ (h.cb q hq ht)
theorem DI.fin {G : GG} (hW : GW G) {T : Nat → Bool} (h : DI G T []) : ∀ o, o < G.n → (T o = true ↔ inG G o) := by
  intro o ho
  refine ⟨h.snd o ho, fun hin => ?_⟩
  refine (inG_least hW (P := fun o => T o = true) ?_ ?_ hin).2
  · intro i q hi e
    rcases h.rts i hi with h' | ⟨y, e', hy⟩ | h'
    · omega
    · have : q = y := by omega
      rw [this]; exact hy
    · simp at h'
  · intro x y hx hT e
    rcases e with e | e
    · rcases h.ca x hx hT with h' | ⟨z, e', hz⟩ | h'
      · omega
      · have : y = z := by omega
        rw [this]; exact hz
      · simp at h'
    · rcases h.cb x hx hT with h' | ⟨z, e', hz⟩ | h'
      · omega
      · have : y = z := by omega
        rw [this]; exact hz
      · simp at h'
theorem DI.start {G : GG} (hW : GW G) : DI G (fun _ => false) ((List.range 8).map G.R) := by
  refine ⟨fun o _ h => (Bool.false_ne_true h).elim, fun x hx => ?_, fun o _ h => (Bool.false_ne_true h).elim, fun o _ h => (Bool.false_ne_true h).elim, fun i hi => .inr (.inr (List.mem_map.2 ⟨i, List.mem_range.2 hi, rfl⟩))⟩
  obtain ⟨i, hi, rfl⟩ := List.mem_map.1 hx
  have hi' := List.mem_range.1 hi
  have := hW.R i hi'
  by_cases h0 : G.R i < 0
  · exact .inl h0
  · exact .inr ⟨(G.R i).toNat, by omega, by omega, inG_root hi' (by omega)⟩
/-- The marks in block ib. -/
structure TBk (w : World) (ib n : Nat) (T : Nat → Bool) : Prop where
  lt : ib < w.heap.size
  c : ∀ o, o < n → w.cell? ⟨ib, o, none⟩ = some (.bool (T o))
  f : ∀ o, w.frozen? ⟨ib, o, none⟩ = false
theorem TBk.new (w : World) (n : Nat) (e : TypeId) : TBk (w.alloc (.cells (madeCells #[.bool false] n) e)) w.heap.size n (fun _ => false) := by
  have hg := heap_alloc_new w (.cells (madeCells #[.bool false] n) e)
  refine ⟨by simp, fun o ho => ?_, fun o => frozen_of_row _ _ _ _ _ hg⟩
  rw [cell_of_row _ _ o _ e _ hg]
  simp [madeCells, ho, Nat.mod_one]
theorem scOff (w : World) {b o o' : Nat} (v : Value) (h : o' ≠ o) : (w.setCell ⟨b, o, none⟩ v).cell? ⟨b, o', none⟩ = w.cell? ⟨b, o', none⟩ := World.cell?_setCell_other _ _ _ _ (by intro e; injection e with _ e; exact h e.symm)
theorem TBk.set {w : World} {ib n : Nat} {T : Nat → Bool} (h : TBk w ib n T) (y : Nat) : TBk (w.setCell ⟨ib, y, none⟩ (.bool true)) ib n (set1 T y true) := by
  refine ⟨by simpa [World.setCell] using h.lt, fun o ho => ?_, fun o => by simpa using h.f o⟩
  by_cases e : o = y
  · subst e
    have := h.c o ho
    rw [set1_self]
    go_simp
  · rw [set1_ne _ _ e, scOff w _ e]; exact h.c o ho
theorem TBk.keep {w w' : World} {ib n : Nat} {T : Nat → Bool} (h : TBk w ib n T) (hs : ib < w'.heap.size) (e : w'.heap[ib]? = w.heap[ib]?) : TBk w' ib n T :=
  ⟨hs, fun o ho => (World.cell?_of_block (a := ⟨ib, o, none⟩) e).trans (h.c o ho), fun o => (World.frozen?_of_block (a := ⟨ib, o, none⟩) e).trans (h.f o)⟩
/-- The stack. -/
def SK (w : World) (base : Nat) (v : Value) (l : List Int) : Prop := w.ownsRow base 3 1 v l.length (l.map fun x => Value.int .i64 x)
theorem SK.shape {w : World} {base : Nat} {v : Value} {l : List Int} (h : SK w base v l) : (v = .slice none 0 0 ∧ l = []) ∨ ∃ g cap, v = .slice (some ⟨g, 0, none⟩) l.length cap ∧ base ≤ g ∧ g < w.heap.size ∧ l.length ≤ cap ∧ cap ≤ maxLen ∧ ∀ i x, l[i]? = some x → w.cell? ⟨g, i, none⟩ = some (.int .i64 x) := by
  rcases h.2 with ⟨rfl, hn⟩ | ⟨g, cap, cur, rfl, hbg, hg, h1, h2, _⟩
  · exact .inl ⟨rfl, List.length_eq_zero_iff.1 hn⟩
  · refine .inr ⟨g, cap, rfl, hbg, (Array.getElem?_eq_some_iff.1 hg).1, h1, h2, fun i x hx => ?_⟩
    have c := World.ownsRow.cells h (g := g) rfl i (.int .i64 x) (by rw [List.getElem?_map, hx]; rfl)
    rw [addOff] at c; exact c
theorem SK.pop {w : World} {base g cap : Nat} {l : List Int} {x : Int} (h : SK w base (.slice (some ⟨g, 0, none⟩) (l.length + 1) cap) (l ++ [x])) : SK w base (.slice (some ⟨g, 0, none⟩) l.length cap) l := by
  rcases h.2 with ⟨e, _⟩ | ⟨g', cap', cur, e, hbg, hg, h1, h2, h3, h4⟩
  · cases e
  · simp only [Value.slice.injEq, Option.some.injEq, Addr.mk.injEq, and_true, List.length_append, List.length_cons, List.length_nil, Nat.zero_add, true_and] at e
    obtain ⟨rfl, rfl⟩ := e
    simp only [List.length_append, List.length_cons, List.length_nil] at h1
    refine ⟨by simp, .inr ⟨g, cap, cur, rfl, hbg, hg, by omega, h2, h3, ?_⟩⟩
    have e1 : cur.toList.take (l.length * 1) = (cur.toList.take ((l ++ [x]).length * 1)).take (l.length * 1) := by
      rw [List.take_take]; congr 1; simp
    rw [e1, h4, List.map_append, List.take_append_of_le_length (by simp)]
    exact List.take_of_length_le (by simp)
theorem SK.keep {w w' : World} {base : Nat} {v : Value} {l : List Int} (h : SK w base v l) (e : ∀ g, v.ownBlock = some g → w'.heap[g]? = w.heap[g]?) : SK w' base v l := row_keepH h e
end Go.Proofs.Ythckelcjncnalaa
