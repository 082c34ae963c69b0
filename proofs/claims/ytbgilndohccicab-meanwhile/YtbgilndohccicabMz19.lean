import Derived.Test.YtbgilndohccicabMz18
import Derived.Deep.RegionLaw
import Derived.Maps.AppendAt
namespace Go.Proofs.Ytbgilndohccicab
open Go.RowKit

/-- The statement's schema. -/
def csL : Sch := [(78, [(118, 108), (97, 114), (98, 114)]), (81, [(118, 119), (97, 114)])]
theorem csL_N : fof csL 78 = [(118, 108), (97, 114), (98, 114)] := rfl
theorem csL_Q : fof csL 81 = [(118, 119), (97, 114)] := rfl
theorem csL_6 : ∀ c ∈ csL, c.2.length ≤ 6 := by intro c hc; simp [csL] at hc; rcases hc with rfl | rfl <;> decide
/-- The graph as the document's heap would have it. -/
def dh (G : GG) : DH := ⟨fun i => (G.R i + 1).toNat, fun x => G.c (x - 1), fun x j => if j = 0 then G.v (x - 1) else if j = 1 then G.a (x - 1) + 1 else if j = 2 then G.b (x - 1) + 1 else 0, G.n⟩
structure GW (G : GG) : Prop where
  R : ∀ i, i < 8 → -1 ≤ G.R i ∧ G.R i < G.n
  a : ∀ i, i < G.n → -1 ≤ G.a i ∧ G.a i < G.n
  b : ∀ i, i < G.n → -1 ≤ G.b i ∧ G.b i < G.n
  c : ∀ i, i < G.n → G.c i = 78 ∨ (G.c i = 81 ∧ G.b i = -1)
  v : ∀ i, i < G.n → -9223372036854775808 ≤ G.v i ∧ G.v i ≤ 9223372036854775807
def inG (G : GG) (o : Nat) : Prop := (dh G).in csL (o + 1)
theorem inG_root {G : GG} {i o : Nat} (hi : i < 8) (h : G.R i = o) : inG G o := .root ⟨i, hi, by show (G.R i + 1).toNat = o + 1; rw [h]; omega, by omega⟩
theorem inG_a {G : GG} (hW : GW G) {x y : Nat} (hx : x < G.n) (h : inG G x) (e : G.a x = y) : inG G y := by
  refine .step h ⟨1, (97, 114), ?_, rfl, ?_, by omega⟩
  · show (fof csL (G.c (x + 1 - 1)))[1]? = _
    rw [Nat.add_sub_cancel]
    rcases hW.c x hx with hc | ⟨hc, _⟩ <;> rw [hc] <;> rfl
  · show G.a (x + 1 - 1) + 1 = _
    rw [Nat.add_sub_cancel, e]; simp
theorem inG_b {G : GG} (hW : GW G) {x y : Nat} (hx : x < G.n) (h : inG G x) (e : G.b x = y) : inG G y := by
  have hc : G.c x = 78 := by
    rcases hW.c x hx with hc | ⟨_, hb⟩
    · exact hc
    · omega
  refine .step h ⟨2, (98, 114), ?_, rfl, ?_, by omega⟩
  · show (fof csL (G.c (x + 1 - 1)))[2]? = _
    rw [Nat.add_sub_cancel, hc]; rfl
  · show G.b (x + 1 - 1) + 1 = _
    rw [Nat.add_sub_cancel, e]; simp
theorem inG_least {G : GG} (hW : GW G) {P : Nat → Prop} (h1 : ∀ i o : Nat, i < 8 → G.R i = o → P o) (h2 : ∀ x y : Nat, x < G.n → P x → (G.a x = y ∨ G.b x = y) → P y) {o : Nat} (h : inG G o) : o < G.n ∧ P o := by
  have key : ∃ q, o + 1 = q + 1 ∧ q < G.n ∧ P q := by
    refine Rch.least (P := fun x => ∃ q, x = q + 1 ∧ q < G.n ∧ P q) ?_ ?_ h
    · rintro x ⟨i, hi, rfl, hx⟩
      have hR := hW.R i hi
      have hx' : (G.R i + 1).toNat ≠ 0 := hx
      refine ⟨(G.R i).toNat, ?_, by omega, h1 i _ hi (by omega)⟩
      show (G.R i + 1).toNat = _
      omega
    · rintro x y ⟨q, rfl, hq, hp⟩ ⟨j, f, hf, hk, hc, hy⟩
      have hf' : (fof csL (G.c q))[j]? = some f := by
        have : (fof csL (G.c (q + 1 - 1)))[j]? = some f := hf
        rw [Nat.add_sub_cancel] at this; exact this
      have hc' : (if j = 0 then G.v q else if j = 1 then G.a q + 1 else if j = 2 then G.b q + 1 else 0) = (y : Int) := by
        have : (if j = 0 then G.v (q + 1 - 1) else if j = 1 then G.a (q + 1 - 1) + 1 else if j = 2 then G.b (q + 1 - 1) + 1 else 0) = (y : Int) := hc
        rw [Nat.add_sub_cancel] at this; exact this
      have hj : (j = 1) ∨ (j = 2) := by
        rcases hW.c q hq with h | ⟨h, _⟩ <;> rw [h] at hf'
        · rw [csL_N] at hf'
          match j, hf' with
          | 0, hf' => simp at hf'; rw [← hf'] at hk; simp at hk
          | 1, _ => exact .inl rfl
          | 2, _ => exact .inr rfl
          | j + 3, hf' => simp at hf'
        · rw [csL_Q] at hf'
          match j, hf' with
          | 0, hf' => simp at hf'; rw [← hf'] at hk; simp at hk
          | 1, _ => exact .inl rfl
          | j + 2, hf' => simp at hf'
      rcases hj with rfl | rfl
      · have ha := hW.a q hq
        have e : G.a q + 1 = y := hc'
        exact ⟨y - 1, by omega, by omega, h2 q (y - 1) hq hp (.inl (by omega))⟩
      · have hb := hW.b q hq
        have e : G.b q + 1 = y := hc'
        exact ⟨y - 1, by omega, by omega, h2 q (y - 1) hq hp (.inr (by omega))⟩
  obtain ⟨q, e, hq, hp⟩ := key
  have : o = q := by omega
  subst this
  exact ⟨hq, hp⟩
/-- The search: marks and the stack. -/
structure DI (G : GG) (T : Nat → Bool) (l : List Int) : Prop where
  snd : ∀ o, o < G.n → T o = true → inG G o
  stk : ∀ x ∈ l, x < 0 ∨ ∃ o : Nat, x = o ∧ o < G.n ∧ inG G o
  ca : ∀ o, o < G.n → T o = true → G.a o < 0 ∨ (∃ y : Nat, G.a o = y ∧ T y = true) ∨ G.a o ∈ l
  cb : ∀ o, o < G.n → T o = true → G.b o < 0 ∨ (∃ y : Nat, G.b o = y ∧ T y = true) ∨ G.b o ∈ l
  rts : ∀ i, i < 8 → G.R i < 0 ∨ (∃ y : Nat, G.R i = y ∧ T y = true) ∨ G.R i ∈ l
theorem mem_snoc {l : List Int} {x y : Int} (h : y ∈ l ++ [x]) : y ∈ l ∨ y = x := by
  rcases List.mem_append.1 h with h | h
  · exact .inl h
  · simp at h; exact .inr h
theorem DI.skip {G : GG} {T : Nat → Bool} {l : List Int} {x : Int} (h : DI G T (l ++ [x])) (hx : x < 0 ∨ ∃ o : Nat, x = o ∧ T o = true) : DI G T l := by
  have key : ∀ y : Int, (y < 0 ∨ (∃ z : Nat, y = z ∧ T z = true) ∨ y ∈ l ++ [x]) → (y < 0 ∨ (∃ z : Nat, y = z ∧ T z = true) ∨ y ∈ l) := by
    intro y hy
    rcases hy with hy | hy | hy
    · exact .inl hy
    · exact .inr (.inl hy)
    · rcases mem_snoc hy with hy | rfl
      · exact .inr (.inr hy)
      · rcases hx with hx | hx
        · exact .inl hx
        · exact .inr (.inl hx)
  exact ⟨h.snd, fun y hy => h.stk y (List.mem_append_left _ hy), fun o ho ht => key _ (h.ca o ho ht), fun o ho ht => key _ (h.cb o ho ht), fun i hi => key _ (h.rts i hi)⟩
theorem DI.mark {G : GG} (hW : GW G) {T : Nat → Bool} {l : List Int} {o : Nat} (h : DI G T (l ++ [(o : Int)])) (ho : o < G.n) : DI G (set1 T o true) (l ++ [G.a o, G.b o]) := by
  have hin : inG G o := by
    rcases h.stk o (by simp) with h' | ⟨q, e, _, hq⟩
    · omega
    · have : o = q := by omega
      rw [this]; exact hq
  have key : ∀ y : Int, (y < 0 ∨ (∃ z : Nat, y = z ∧ T z = true) ∨ y ∈ l ++ [(o : Int)]) → (y < 0 ∨ (∃ z : Nat, y = z ∧ set1 T o true z = true) ∨ y ∈ l ++ [G.a o, G.b o]) := by
    intro y hy
    rcases hy with hy | ⟨z, e, hz⟩ | hy
    · exact .inl hy
    · refine .inr (.inl ⟨z, e, ?_⟩)
      by_cases hzo : z = o
      · subst hzo; rw [set1_self]
      · rw [set1_ne _ _ hzo]; exact hz
    · rcases mem_snoc hy with hy | rfl
      · exact .inr (.inr (List.mem_append_left _ hy))
      · exact .inr (.inl ⟨o, rfl, set1_self _ _ _⟩)
  refine ⟨fun q hq ht => ?_, fun y hy => ?_, fun q hq ht => ?_, fun q hq ht => ?_, fun i hi => key _ (h.rts i hi)⟩
  · by_cases hqo : q = o
    · subst hqo; exact hin
    · rw [set1_ne _ _ hqo] at ht; exact h.snd q hq ht
  · rcases List.mem_append.1 hy with hy | hy
    · exact h.stk y (List.mem_append_left _ hy)
    · simp at hy
      rcases hy with rfl | rfl
      · have := hW.a o ho
        by_cases h0 : G.a o < 0
        · exact .inl h0
        · exact .inr ⟨(G.a o).toNat, by omega, by omega, inG_a hW ho hin (by omega)⟩
      · have := hW.b o ho
        by_cases h0 : G.b o < 0
        · exact .inl h0
        · exact .inr ⟨(G.b o).toNat, by omega, by omega, inG_b hW ho hin (by omega)⟩
  · by_cases hqo : q = o
    · subst hqo; exact .inr (.inr (by simp))
    · rw [set1_ne _ _ hqo] at ht; exact key _ (h.ca q hq ht)
  · by_cases hqo : q = o
    · subst hqo; exact .inr (.inr (by simp))
    · rw [set1_ne _ _ hqo] at ht; exact key _ (h.cb q hq ht)
theorem DI.fin {G : GG} (hW : GW G) {T : Nat → Bool} (h : DI G T []) : ∀ o, o < G.n → (T o = true ↔ inG G o) := by
  intro o ho
  refine ⟨h.snd o ho, fun hin => ?_⟩
  refine (inG_least hW (P := fun o => T o = true) ?_ ?_ hin).2
  · intro i q hi e
    rcases h.rts i hi with h' | ⟨y, e', hy⟩ | h'
    · omega
    · have : q = y := by omega
      rw [this]; exact hy
    · simp at h'
  · intro x y hx hT e
    rcases e with e | e
    · rcases h.ca x hx hT with h' | ⟨z, e', hz⟩ | h'
      · omega
      · have : y = z := by omega
        rw [this]; exact hz
      · simp at h'
    · rcases h.cb x hx hT with h' | ⟨z, e', hz⟩ | h'
      · omega
      · have : y = z := by omega
        rw [this]; exact hz
      · simp at h'
theorem DI.start {G : GG} (hW : GW G) : DI G (fun _ => false) ((List.range 8).map G.R) := by
  refine ⟨fun o _ h => (Bool.false_ne_true h).elim, fun x hx => ?_, fun o _ h => (Bool.false_ne_true h).elim, fun o _ h => (Bool.false_ne_true h).elim, fun i hi => .inr (.inr (List.mem_map.2 ⟨i, List.mem_range.2 hi, rfl⟩))⟩
  obtain ⟨i, hi, rfl⟩ := List.mem_map.1 hx
  have hi' := List.mem_range.1 hi
  have := hW.R i hi'
  by_cases h0 : G.R i < 0
  · exact .inl h0
  · exact .inr ⟨(G.R i).toNat, by omega, by omega, inG_root hi' (by omega)⟩
/-- The marks in block ib. -/
structure TBk (w : World) (ib n : Nat) (T : Nat → Bool) : Prop where
  lt : ib < w.heap.size
  c : ∀ o, o < n → w.cell? ⟨ib, o, none⟩ = some (.bool (T o))
  f : ∀ o, w.frozen? ⟨ib, o, none⟩ = false
theorem TBk.new (w : World) (n : Nat) (e : TypeId) : TBk (w.alloc (.cells (madeCells #[.bool false] n) e)) w.heap.size n (fun _ => false) := by
  have hg := heap_alloc_new w (.cells (madeCells #[.bool false] n) e)
  refine ⟨by simp, fun o ho => ?_, fun o => frozen_of_row _ _ _ _ _ hg⟩
  rw [cell_of_row _ _ o _ e _ hg]
  simp [madeCells, ho, Nat.mod_one]
theorem scOff (w : World) {b o o' : Nat} (v : Value) (h : o' ≠ o) : (w.setCell ⟨b, o, none⟩ v).cell? ⟨b, o', none⟩ = w.cell? ⟨b, o', none⟩ := World.cell?_setCell_other _ _ _ _ (by intro e; injection e with _ e; exact h e.symm)
theorem TBk.set {w : World} {ib n : Nat} {T : Nat → Bool} (h : TBk w ib n T) (y : Nat) : TBk (w.setCell ⟨ib, y, none⟩ (.bool true)) ib n (set1 T y true) := by
  refine ⟨by simpa [World.setCell] using h.lt, fun o ho => ?_, fun o => by simpa using h.f o⟩
  by_cases e : o = y
  · subst e
    have := h.c o ho
    rw [set1_self]
    go_simp
  · rw [set1_ne _ _ e, scOff w _ e]; exact h.c o ho
theorem TBk.keep {w w' : World} {ib n : Nat} {T : Nat → Bool} (h : TBk w ib n T) (hs : ib < w'.heap.size) (e : w'.heap[ib]? = w.heap[ib]?) : TBk w' ib n T :=
  ⟨hs, fun o ho => (World.cell?_of_block (a := ⟨ib, o, none⟩) e).trans (h.c o ho), fun o => (World.frozen?_of_block (a := ⟨ib, o, none⟩) e).trans (h.f o)⟩
/-- The stack. -/
def SK (w : World) (base : Nat) (v : Value) (l : List Int) : Prop := w.ownsRow base 3 1 v l.length (l.map fun x => Value.int .i64 x)
theorem SK.shape {w : World} {base : Nat} {v : Value} {l : List Int} (h : SK w base v l) : (v = .slice none 0 0 ∧ l = []) ∨ ∃ g cap, v = .slice (some ⟨g, 0, none⟩) l.length cap ∧ base ≤ g ∧ g < w.heap.size ∧ l.length ≤ cap ∧ cap ≤ maxLen ∧ ∀ i x, l[i]? = some x → w.cell? ⟨g, i, none⟩ = some (.int .i64 x) := by
  rcases h.2 with ⟨rfl, hn⟩ | ⟨g, cap, cur, rfl, hbg, hg, h1, h2, _⟩
  · exact .inl ⟨rfl, List.length_eq_zero_iff.1 hn⟩
  · refine .inr ⟨g, cap, rfl, hbg, (Array.getElem?_eq_some_iff.1 hg).1, h1, h2, fun i x hx => ?_⟩
    have c := World.ownsRow.cells h (g := g) rfl i (.int .i64 x) (by rw [List.getElem?_map, hx]; rfl)
    rw [addOff] at c; exact c
theorem SK.pop {w : World} {base g cap : Nat} {l : List Int} {x : Int} (h : SK w base (.slice (some ⟨g, 0, none⟩) (l.length + 1) cap) (l ++ [x])) : SK w base (.slice (some ⟨g, 0, none⟩) l.length cap) l := by
  rcases h.2 with ⟨e, _⟩ | ⟨g', cap', cur, e, hbg, hg, h1, h2, h3, h4⟩
  · cases e
  · simp only [Value.slice.injEq, Option.some.injEq, Addr.mk.injEq, and_true, List.length_append, List.length_cons, List.length_nil, Nat.zero_add, true_and] at e
    obtain ⟨rfl, rfl⟩ := e
    simp only [List.length_append, List.length_cons, List.length_nil] at h1
    refine ⟨by simp, .inr ⟨g, cap, cur, rfl, hbg, hg, by omega, h2, h3, ?_⟩⟩
    have e1 : cur.toList.take (l.length * 1) = (cur.toList.take ((l ++ [x]).length * 1)).take (l.length * 1) := by
      rw [List.take_take]; congr 1; simp
    rw [e1, h4, List.map_append, List.take_append_of_le_length (by simp)]
    exact List.take_of_length_le (by simp)
theorem SK.keep {w w' : World} {base : Nat} {v : Value} {l : List Int} (h : SK w base v l) (e : ∀ g, v.ownBlock = some g → w'.heap[g]? = w.heap[g]?) : SK w' base v l := row_keepH h e
end Go.Proofs.Ytbgilndohccicab
namespace Go.Proofs.Ytbgilndohccicab
open Go.RowKit

theorem step_app {P : Program} {ops : Array Oper} {o : Oper} {a : Act} {w : World} {K : Act → World → Prop} {Q : Exit → Act → World → Prop} {E : Prop}
    (hg : o.guard = none) (s x : Operand) (t : TypeId) (hop : o.op = Op.call { callee := Callee.builtin Builtin.append, args := #[s, x], argTypes := #[t, t] })
    (v u v' : Value) (w' : World) (hs : a.eval s = v) (hx : a.eval x = u) (hrun : (Builtin.append_ #[t, t] o.type #[v, u]).run P w = .ok v' w') (hK : K (a.put o.dst v') w') :
    if Region.wanted o (yielded ops a.tmps) = true then Oper.wp P o a w K Q else E := by
  have hw : Region.wanted o (yielded ops a.tmps) = true := by simp [Region.wanted, hg]
  rw [if_pos hw]
  unfold Oper.wp
  simp [execOp, hop, resolve, invoke, builtin, hs, hx, hrun, Result.andThen]
  exact hK
theorem cells_two (w : World) (x y : Value) (T : TypeId) : ∀ (j : Nat) (u : Value), [x, y][j]? = some u → (w.alloc (.cells #[x, y] T)).cell? ((⟨w.heap.size, 0, none⟩ : Addr).add j) = some u := by
  intro j u hj
  match j, hj with
  | 0, hj => simp at hj; subst hj; simp [Addr.add]
  | 1, hj => simp at hj; subst hj; simp [Addr.add]
theorem cells_one (w : World) (x : Value) (T : TypeId) : ∀ (j : Nat) (u : Value), [x][j]? = some u → (w.alloc (.cells #[x] T)).cell? ((⟨w.heap.size, 0, none⟩ : Addr).add j) = some u := by
  intro j u hj
  match j, hj with
  | 0, hj => simp at hj; subst hj; simp [Addr.add]
/-- Two more on the stack. -/
theorem SK.run2 {w : World} {base : Nat} {v : Value} {l : List Int} (h : SK w base v l) (hb : base ≤ w.heap.size) (hl : l.length ≤ 17592186044000) (x y : Int) : ∃ g cap w2,
    (Builtin.append_ #[22, 22] 22 #[v, .slice (some ⟨w.heap.size, 0, none⟩) 2 2]).run Try.prog ((w.alloc (.cells #[.int .i64 x, .int .i64 y] 3)).drew) = .ok (.slice (some ⟨g, 0, none⟩) (l.length + 2) cap) w2 ∧
    SK w2 base (.slice (some ⟨g, 0, none⟩) (l.length + 2) cap) (l ++ [x, y]) ∧ w.grownBy w2 v.ownBlock := by
  obtain ⟨i0, hi, hz0, hz1, hz2⟩ := infoPartsH Try.infoInt
  obtain ⟨v', w2, hr, hown, hg, _, _⟩ := run_append_own_at (P := Try.prog) ((w.alloc (.cells #[.int .i64 x, .int .i64 y] 3)).drew) base 22 22 3 i0 _ 1 8 Try.underlying22 hi hz0 hz1 hz2 rfl (by decide) v l.length (l.map fun x => Value.int .i64 x) (World.ownsRow.alloc h _)
    ⟨w.heap.size, 0, none⟩ 2 2 [.int .i64 x, .int .i64 y] rfl (cells_two w _ _ _) (by intro y hy; simp at hy; rcases hy with rfl | rfl <;> rfl) (by unfold maxLen; omega) (by omega) (by simp; omega)
  obtain ⟨g, cap, ev⟩ : ∃ g cap, v' = .slice (some ⟨g, 0, none⟩) (l.length + 2) cap := by
    rcases hown.2 with ⟨_, e⟩ | ⟨g', cap', cur, e, _⟩
    · omega
    · exact ⟨g', cap', e⟩
  subst ev
  refine ⟨g, cap, w2, hr, ?_, ?_⟩
  · unfold SK; rw [List.length_append, List.map_append]; exact hown
  · have hg' : (w.alloc (.cells #[.int .i64 x, .int .i64 y] 3)).grownBy w2 v.ownBlock := ⟨hg.os, hg.tape, hg.output, hg.size, hg.block⟩
    exact gb_trans (World.grownBy_alloc w _ _) hg'
theorem Try.infoBoolH : (Try.prog.info? 4).map (fun i => (i.zero, i.size, i.bytes)) = some (some (.bool false), 1, 1) := by kernel_rfl
def ThG (G : GG) (w : World) (e : Ending) (w' : World) : Prop := ∃ T, e = .returned (.slice (some ⟨w.heap.size, 0, none⟩) G.n G.n) ∧ TBk w' w.heap.size G.n T ∧ (∀ o, o < G.n → (T o = true ↔ inG G o)) ∧ Below w.heap.size w w'
set_option maxRecDepth 20000 in
set_option maxHeartbeats 2000000 in
theorem gthere_any (gb hb base : Nat) (sz : Int) (nv : Value) (G : GG) (w : World) (h : GP w gb hb sz nv G.R) (hN : ND w base nv G) (hW : GW G) (hn : G.n ≤ 7036874417560) :
    Calls Try.prog 90 #[.pointer (some ⟨gb, 0, none⟩)] w (ThG G w) := by
  have hmk := run_make_row' (P := Try.prog) 177 4 (.bool false) 1 Try.underlying177 Try.infoBoolH rfl .i64 .i64 G.n (by omega) (by omega)
  obtain ⟨iI, hiI, hzI0, hzI1, hzI2⟩ := infoPartsH Try.infoInt
  have hgb := h.lt
  have HH : Hid (GP w gb hb sz nv G.R) := h
  have HW : Hid (GW G) := hW
  obtain ⟨na, nc, hnv⟩ := hN.shape
  subst hnv
  have HND : Hid (ND w base (.slice na G.n nc) G) := hN
  have c2 := h.n
  obtain ⟨n, hnn⟩ : ∃ n, n = G.n := ⟨_, rfl⟩
  have HN : Hid (n = G.n) := hnn
  unfold ThG
  rw [← hnn] at hmk hn c2 ⊢
  have B0 : Below w.heap.size w (w.alloc (.cells (madeCells #[.bool false] n) 4)) := (Below.refl _ _).alloc (Nat.le_refl _) _
  have TB0 := TBk.new w n 4
  clear h hW hN hnn
  go_enter Try.func90, Try.ntmps90
  go_wp2
  go_loopw [4, 5] (fun lv iv wr => ∃ (i : Nat) (la : Option Addr) (lc : Nat), i ≤ 8 ∧ iv = .int .i64 i ∧ lv = .slice la i lc ∧ SK wr (w.heap.size + 1) (.slice la i lc) ((List.range i).map G.R) ∧ TBk wr w.heap.size n (fun _ => false) ∧ Below w.heap.size w wr) (fun lv iv _ => 8 - (intOf iv).toNat)
  case atStart => exact ⟨0, none, 0, by omega, rfl, rfl, World.ownsRow_nil _ _ _ _, TB0, B0⟩
  case round =>
    clear TB0 B0
    obtain ⟨i, la, lc, hi, rfl, rfl, sk, tb, hB⟩ := hrel
    have hll : ((List.range i).map G.R).length = i := by simp
    have htl := tb.lt
    by_cases hlt : i < 8
    · have cr : wr.cell? ⟨gb, 3 + i, none⟩ = some (.int .i64 (G.R i)) := (hB.cell (by exact hgb)).trans (HH.out.r i hlt)
      have hgr : gb < wr.heap.size := Nat.lt_of_lt_of_le hgb hB.size
      have hib : (0 : Int) ≤ (i : Int) ∧ (i : Int) < 8 := by omega
      have skr : wr.ownsRow (w.heap.size + 1) 3 1 (.slice la i lc) i (((List.range i).map G.R).map fun x => Value.int .i64 x) := by
        have := sk; unfold SK at this; rw [hll] at this; exact this
      obtain ⟨x, hx⟩ : ∃ x, x = G.R i := ⟨_, rfl⟩
      rw [← hx] at cr
      have HX : Hid ((List.range (i + 1)).map G.R = (List.range i).map G.R ++ [x]) := by show _ = _; rw [List.range_succ, List.map_append, hx]; rfl
      have HLL : Hid (((List.range i).map G.R).length = i) := hll
      clear hx hll sk
      go_wp2_with (at_builtin; refine wpList_append_own _ rfl _ _ 22 rfl (w.heap.size + 1) 3 iI (.int .i64 0) 1 8 Try.underlying22 hiI hzI0 hzI1 hzI2 rfl (by decide) _ i (((List.range i).map G.R).map fun x => Value.int .i64 x) rfl (skr.alloc _) ⟨wr.heap.size, 0, none⟩ 1 1 [.int .i64 x] rfl rfl ?c1 ?c2 ?c3 ?c4 ?c5 ?_)
      case c1 => exact cells_one _ _ _
      case c2 => intro u hu; simp at hu; subst hu; rfl
      case c3 => unfold maxLen; omega
      case c4 => omega
      case c5 => simp; omega
      intro v' w2 hown hgr2 _
      have hg2 : wr.grownBy w2 (Value.ownBlock (.slice la i lc)) := gb_trans (World.grownBy_alloc _ _ _) hgr2
      have sk2 : SK w2 (w.heap.size + 1) v' ((List.range (i + 1)).map G.R) := by
        unfold SK; rw [HX.out, List.length_append, HLL.out, List.map_append, List.map_map]; exact hown
      have tb2 : TBk w2 w.heap.size n (fun _ => false) := tb.keep (Nat.lt_of_lt_of_le tb.lt hg2.size) (hg2.block _ tb.lt (fun e => by have := (World.ownsRow.lt skr _ e.symm).1; omega))
      have B2 : Below w.heap.size w w2 := hB.grown hg2 (by omega) (fun x hx => by have := (World.ownsRow.lt skr x hx).1; omega)
      obtain ⟨la', lc', hv'⟩ : ∃ a c, v' = .slice a (i + 1) c := by
        rcases hown.2 with ⟨_, e⟩ | ⟨g', cap', cur, e, _⟩
        · omega
        · exact ⟨_, _, e⟩
      subst hv'
      clear hown hgr2 hg2 skr tb hB
      go_wp2
      exact ⟨⟨i + 1, la', lc', by omega, rfl, rfl, sk2, tb2, B2⟩, by simp [intOf]; omega⟩
    · have e8 : i = 8 := by omega
      subst e8
      have HD : Hid (DI G (fun _ => false) ((List.range 8).map G.R)) := DI.start HW.out
      go_wp2
      go_loopg [4] (2 * n + 8) (fun k lv wq => ∃ (l : List Int) (m : Nat) (qa : Option Addr) (qc : Nat) (T : Nat → Bool), lv = .slice qa m qc ∧ SK wq (w.heap.size + 1) (.slice qa m qc) l ∧ Hid (m = l.length) ∧ TBk wq w.heap.size n T ∧ Hid (DI G T l) ∧ Hid (2 * (n - cnt T n) + l.length ≤ k ∧ k ≤ 2 * n + 8) ∧ Below w.heap.size w wq)
      case atStart => exact ⟨_, 8, la, lc, _, rfl, sk, rfl, tb, HD.out, ⟨by rw [hll]; omega, Nat.le_refl _⟩, hB⟩
      case round =>
        clear sk tb hB HD hll htl
        obtain ⟨l, m, qa, qc, T, rfl, sk, HM, tb, HD, HK, hB⟩ := hrel
        have htl := tb.lt
        rcases List.eq_nil_or_concat l with hl | ⟨l', x, hl⟩
        · have hm0 : m = 0 := by rw [HM.out, hl]; rfl
          subst hm0
          have HF : Hid (∀ o, o < G.n → (T o = true ↔ inG G o)) := by
            have := HD.out; rw [hl] at this; exact this.fin HW.out
          clear hl sk HM HD HK
          go_wp2
          go_ret
          exact ⟨T, rfl, tb, by rw [HN.out]; exact HF.out, hB⟩
        · rw [List.concat_eq_append] at hl
          subst hl
          have hm1 : m = l'.length + 1 := by rw [HM.out]; simp
          obtain ⟨q, hq⟩ : ∃ q, q = l'.length := ⟨_, rfl⟩
          rw [← hq] at hm1
          subst hm1
          have HQ : Hid (q = l'.length) := hq
          rcases SK.shape sk with ⟨e, e2⟩ | ⟨g, cap, e, hbg, hgl, hlc, hcm, hcell⟩
          · exact absurd e2 (by simp)
          have hlen : (l' ++ [x]).length = q + 1 := by rw [hq]; simp
          rw [hlen] at e hlc
          injection e with e1 _ e3
          subst e1; subst e3
          have cx : wr.cell? ⟨g, q, none⟩ = some (.int .i64 x) := hcell q x (by rw [hq]; simp)
          have sk' : SK wr (w.heap.size + 1) (.slice (some ⟨g, 0, none⟩) q qc) l' := by
            rw [hq]; rw [hq] at sk; exact SK.pop sk
          have hqk : q ≤ 17592186044000 := by
            have := HK.out.1; have := HK.out.2; rw [hlen] at *; omega
          have hnc : ¬ (qc : Int) < (q : Int) := by omega
          have hmx : (q : Int) + 1 ≤ 9223372036854775807 := by omega
          have HKK : Hid (2 * (n - cnt T n) + (q + 1) ≤ gk ∧ gk ≤ 2 * n + 8) := by have := HK.out; rw [hlen] at this; exact this
          clear hq hcell sk HM HK hlen
          by_cases hneg : x < 0
          · have HD2 : Hid (DI G T l') := HD.out.skip (.inl hneg)
            go_wp2
            go_roundg (gk - 1)
            case measure => have := HKK.out.1; omega
            case rel => exact ⟨l', q, _, _, T, rfl, sk', HQ.out, tb, HD2, ⟨by have := HKK.out.1; rw [← HQ.out]; omega, by have := HKK.out.2; omega⟩, hB⟩
          · obtain ⟨o, rfl⟩ : ∃ o : Nat, x = o := ⟨x.toNat, by omega⟩
            have ho : o < n := by
              rcases HD.out.stk o (by simp) with h' | ⟨q', e, hq', _⟩
              · omega
              · rw [HN.out]; omega
            have to := tb.c o ho
            have tf := tb.f o
            have hob : (0 : Int) ≤ (o : Int) ∧ (o : Int) < (n : Int) := by omega
            cases hT : T o with
            | true =>
              rw [hT] at to
              have HD2 : Hid (DI G T l') := HD.out.skip (.inr ⟨o, rfl, hT⟩)
              clear hT
              go_wp2
              go_roundg (gk - 1)
              case measure => have := HKK.out.1; omega
              case rel => exact ⟨l', q, _, _, T, rfl, sk', HQ.out, tb, HD2, ⟨by have := HKK.out.1; rw [← HQ.out]; omega, by have := HKK.out.2; omega⟩, hB⟩
            | false =>
              rw [hT] at to
              have hoG : o < G.n := by rw [← HN.out]; exact ho
              obtain ⟨ng, hna, hnb, hnl, hnc⟩ := HND.out.cells.2.2 o hoG
              subst hna
              have hng : ng ≠ w.heap.size := by omega
              have hnr : ng < wr.heap.size := Nat.lt_of_lt_of_le hnl hB.size
              have hgr : gb < wr.heap.size := Nat.lt_of_lt_of_le hgb hB.size
              have hgn : gb ≠ w.heap.size := by omega
              have n2 : wr.cell? ⟨ng, o * 4 + 2, none⟩ = some (.int .i64 (G.a o)) := (hB.cell (p := ⟨ng, _, none⟩) hnl).trans hnc.c2
              have n3 : wr.cell? ⟨ng, o * 4 + 3, none⟩ = some (.int .i64 (G.b o)) := (hB.cell (p := ⟨ng, _, none⟩) hnl).trans hnc.c3
              have g2 : wr.cell? ⟨gb, 2, none⟩ = some (.slice (some ⟨ng, 0, none⟩) n nc) := (hB.cell (p := ⟨gb, _, none⟩) hgb).trans c2
              have HD2 : Hid (DI G (set1 T o true) (l' ++ [G.a o, G.b o])) := HD.out.mark HW.out hoG
              have HCN : Hid (cnt T n < cnt (set1 T o true) n ∧ cnt (set1 T o true) n ≤ n) := by
                refine ⟨cnt_more T (set1 T o true) n o (fun i hi h => ?_) ho hT (set1_self _ _ _), cnt_le _ _⟩
                by_cases hio : i = o
                · subst hio; exact set1_self _ _ _
                · rw [set1_ne _ _ hio]; exact h
              obtain ⟨W, hW0⟩ : ∃ W, W = wr.setCell ⟨w.heap.size, o, none⟩ (.bool true) := ⟨_, rfl⟩
              have tb2 : TBk W w.heap.size n (set1 T o true) := by rw [hW0]; exact tb.set o
              have zW : W.heap.size = wr.heap.size := by rw [hW0]; simp
              have sk2 : SK W (w.heap.size + 1) (.slice (some ⟨g, 0, none⟩) q qc) l' := sk'.keep fun g' hg' => by
                rw [hW0]; exact heap_setCell_other _ _ _ _ (by have := (World.ownsRow.lt sk' g' hg').1; show g' ≠ w.heap.size; omega)
              have BW : Below w.heap.size w W := by rw [hW0]; exact hB.setCell (Nat.le_refl _) _
              obtain ⟨y, hy⟩ : ∃ y, y = G.a o := ⟨_, rfl⟩
              obtain ⟨z, hz⟩ : ∃ z, z = G.b o := ⟨_, rfl⟩
              have HYZ : Hid (y = G.a o ∧ z = G.b o) := ⟨hy, hz⟩
              rw [← hy] at n2
              rw [← hz] at n3
              obtain ⟨g4, cap4, w4, hrun, sk4, hg4⟩ := sk2.run2 (by rw [zW]; omega) (by rw [← HQ.out]; exact hqk) y z
              rw [← HQ.out] at hrun sk4
              have tb4 : TBk w4 w.heap.size n (set1 T o true) := tb2.keep (Nat.lt_of_lt_of_le tb2.lt hg4.size) (hg4.block _ tb2.lt (fun e => by have := (World.ownsRow.lt sk2 _ e.symm).1; omega))
              have B4 : Below w.heap.size w w4 := BW.grown hg4 (by rw [zW]; omega) (fun x hx => by have := (World.ownsRow.lt sk2 x hx).1; omega)
              rw [zW, hW0] at hrun
              clear hW0 tb2 sk2 BW hg4 hy hz hT sk' tb HD
              go_wp2
              go_region_law (refine step_app rfl (.tmp 51) (.tmp 68) 22 rfl _ _ _ _ (by simp [Act.eval]) (by simp [Act.eval]) hrun ?_)
              all_goals
                go_wp2
                go_roundg (gk - 1)
                case measure => have := HKK.out.1; omega
                case rel =>
                  refine ⟨l' ++ [y, z], q + 2, _, _, set1 T o true, rfl, sk4, ?_, tb4, ?_, ⟨?_, by have := HKK.out.2; omega⟩, B4⟩
                  · show q + 2 = _; rw [List.length_append, ← HQ.out]; rfl
                  · rw [HYZ.out.1, HYZ.out.2]; exact HD2.out
                  · have := HKK.out.1; have := HCN.out; rw [List.length_append, ← HQ.out]; show _ + (q + 2) ≤ _; omega
end Go.Proofs.Ytbgilndohccicab
