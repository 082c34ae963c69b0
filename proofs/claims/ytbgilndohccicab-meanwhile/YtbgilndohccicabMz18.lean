import Derived.Test.YtbgilndohccicabMz09
import Derived.Test.YtbgilndohccicabMz17
import Derived.Deep.OwnRows
namespace Go.Proofs.Ytbgilndohccicab
open Go.RowKit

/-- The cells of a type's zero value. -/
def zeroH (P : Program) (t : TypeId) : Array Value :=
  match P.info? t with
  | some i => (match i.zero with | some z => z.cells | none => #[])
  | none => #[]
def hpCells (P : Program) (a : Option Addr) (n c : Nat) (z : Int) : Array Value := ((zeroH P 84).setIfInBounds 0 (.slice a n c)).setIfInBounds 1 (.int .i64 z)
set_option maxRecDepth 100000 in
theorem hp_built (a : Option Addr) (n c : Nat) (z : Int) : Try.prog.built 84 [(0, .agg #[.slice a n c]), (1, .int .i64 z)] = some (hpCells Try.prog a n c z) := by kernel_rfl
theorem hp_build (a : Option Addr) (n c : Nat) (z : Int) (w : World) : (Instr.build 84 #[(0, .agg #[.slice a n c]), (1, .int .i64 z)]).run Try.prog w = .ok (.agg (hpCells Try.prog a n c z)) w := run_build w 84 _ _ (hp_built a n c z)
theorem wpList_hpbuild {ops : Array Oper} {Q : Exit → Act → World → Prop} {rest : List Oper} {dst : Option Nat} {ty : TypeId} {pos : String} {after : Array Edge} {act : Act} {w : World} {x y : Operand} (a : Option Addr) (n c : Nat) (z : Int)
    (hx : act.eval x = .agg #[.slice a n c]) (hy : act.eval y = .int .i64 z) (h : wpList Try.prog ops Q rest (act.put dst (.agg (hpCells Try.prog a n c z))) w) :
    wpList Try.prog ops Q (⟨dst, .build 84 #[(0, x), (1, y)], ty, pos, after, none⟩ :: rest) act w := by
  refine wpList_plain rfl fun K hK => ?_
  unfold Oper.wp execOp
  simp only [Sem.run_bind, List.map_toArray, List.map_cons, List.map_nil, hx, hy, hp_build, Result.andThen_ok]
  exact hK _ _ h
def obj0 : List Value := [.int .u8 0, .int .i64 0, .int .i64 0, .int .i64 0, .int .i64 0, .int .i64 0, .int .i64 0, .int .i64 0, .int .i64 0, .int .i64 0, .int .i64 0, .int .i64 0, .int .i64 0]
def heap0 : List Value := [.slice none 0 0, .int .i64 0, .int .i64 0, .int .i64 0, .int .i64 0, .int .i64 0, .int .i64 0, .int .i64 0, .int .i64 0, .int .i64 0] ++ ((List.range 201).flatMap (fun _ => obj0) ++ [.bool false, .slice none 0 0])
set_option maxRecDepth 100000 in
theorem zero_heap : zeroH Try.prog 84 = heap0.toArray := by kernel_rfl
theorem flat_at {α : Type} (f : α → List Value) (m : Nat) (hf : ∀ x, (f x).length = m) : ∀ (l : List α) (i o : Nat), i < l.length → o < m → ∃ x, (l.flatMap f)[i * m + o]? = (f x)[o]? := by
  intro l
  induction l with
  | nil => intro i o h; simp at h
  | cons x l ih =>
    intro i o hi ho
    rw [List.flatMap_cons]
    match i with
    | 0 => exact ⟨x, by rw [Nat.zero_mul, Nat.zero_add, List.getElem?_append_left (by rw [hf]; exact ho)]⟩
    | j + 1 =>
      obtain ⟨y, hy⟩ := ih j o (by simpa using hi) ho
      refine ⟨y, ?_⟩
      rw [List.getElem?_append_right (by rw [hf, Nat.add_mul]; omega), hf, ← hy]
      congr 1
      rw [Nat.add_mul]; omega
theorem flat_len (l : List Nat) : (l.flatMap (fun _ : Nat => obj0)).length = l.length * 13 := by
  induction l with
  | nil => rfl
  | cons x l ih => rw [List.flatMap_cons, List.length_append, ih, List.length_cons]; show 13 + _ = _; omega
theorem objs0_len : ((List.range 201).flatMap (fun _ : Nat => obj0)).length = 2613 := by rw [flat_len, List.length_range]
theorem heap0_obj (i o : Nat) (hi : i < 201) (ho : o < 13) : heap0[10 + i * 13 + o]? = obj0[o]? := by
  unfold heap0
  rw [List.getElem?_append_right (by simp; omega)]
  obtain ⟨x, hx⟩ := flat_at (fun _ : Nat => obj0) 13 (fun _ => rfl) (List.range 201) i o (by simpa using hi) ho
  rw [List.getElem?_append_left (by rw [objs0_len]; simp; omega), ← hx]
  congr 1
  simp; omega
theorem heap0_len : heap0.length = 2625 := by
  unfold heap0
  rw [List.length_append, List.length_append, objs0_len]
  rfl
theorem hp_get (a : Option Addr) (n c : Nat) (z : Int) (o : Nat) (h : 2 ≤ o) : (hpCells Try.prog a n c z)[o]? = heap0[o]? := by
  unfold hpCells
  rw [zero_heap, Array.getElem?_setIfInBounds_ne (by omega), Array.getElem?_setIfInBounds_ne (by omega)]
  simp
theorem HP.new (w : World) (a : Option Addr) (n c : Nat) (z : Int) : HP (w.alloc (.cells (hpCells Try.prog a n c z) 84)) w.heap.size ⟨a, n, c⟩ z (fun _ => 0) (fun _ => 0) (fun _ _ => 0) (fun _ _ => 0) := by
  have hg := heap_alloc_new w (.cells (hpCells Try.prog a n c z) 84)
  have hc : ∀ o, (w.alloc (.cells (hpCells Try.prog a n c z) 84)).cell? ⟨w.heap.size, o, none⟩ = (hpCells Try.prog a n c z)[o]? := fun o => cell_of_row _ _ o _ _ _ hg
  have hs : 2 ≤ (zeroH Try.prog 84).size := by rw [zero_heap]; simp [heap0_len]
  refine ⟨?_, ?_, fun i hi => ?_, fun i hi => ?_, fun i j hi hj => ?_, fun i j hi hj => ?_, fun o => frozen_of_row _ _ _ _ _ hg, ?_, ?_⟩
  · rw [hc]; unfold hpCells; rw [Array.getElem?_setIfInBounds_ne (by omega), Array.getElem?_setIfInBounds_self_of_lt (by omega)]
  · rw [hc]; unfold hpCells; rw [Array.getElem?_setIfInBounds_self_of_lt (by simp; omega)]
  · rw [hc, hp_get _ _ _ _ _ (by omega)]
    have : i = 0 ∨ i = 1 ∨ i = 2 ∨ i = 3 ∨ i = 4 ∨ i = 5 ∨ i = 6 ∨ i = 7 := by omega
    rcases this with rfl | rfl | rfl | rfl | rfl | rfl | rfl | rfl <;> rfl
  · rw [hc, hp_get _ _ _ _ _ (by omega)]
    have := heap0_obj i 0 hi (by omega)
    rw [Nat.add_zero] at this
    rw [this]; rfl
  · rw [hc, hp_get _ _ _ _ _ (by omega)]
    have := heap0_obj i (1 + j) hi (by omega)
    rw [← Nat.add_assoc] at this
    rw [this]
    have : j = 0 ∨ j = 1 ∨ j = 2 ∨ j = 3 ∨ j = 4 ∨ j = 5 := by omega
    rcases this with rfl | rfl | rfl | rfl | rfl | rfl <;> rfl
  · rw [hc, hp_get _ _ _ _ _ (by omega)]
    have := heap0_obj i (7 + j) hi (by omega)
    rw [← Nat.add_assoc] at this
    rw [this]
    have : j = 0 ∨ j = 1 ∨ j = 2 ∨ j = 3 ∨ j = 4 ∨ j = 5 := by omega
    rcases this with rfl | rfl | rfl | rfl | rfl | rfl <;> rfl
  · rw [hc, hp_get _ _ _ _ _ (by omega)]; kernel_rfl
  · rw [hc, hp_get _ _ _ _ _ (by omega)]; kernel_rfl
/-- New's error. -/
def newE (s : ByteArray) (size : Int) : Int := if readE s ≠ 0 then readE s else if size < 1 ∨ 200 < size then 7 else 0
/-- The schema's rows lie in the blocks from lo on, below hi. -/
structure ClsIn (w : World) (lo hi : Nat) (v : Value) (vs : List (Int × SV)) (cs : List (Int × List (Int × Int))) : Prop where
  cls : Cls w lo v vs cs
  top : ∀ b, v.ownBlock = some b → b < hi
  sub : ∀ (i : Nat) (p : Int × SV), vs[i]? = some p → ∀ b, p.2.val.ownBlock = some b → b < hi
theorem ClsIn.of {w : World} {lo : Nat} {v : Value} {vs : List (Int × SV)} {cs : List (Int × List (Int × Int))} (h : Cls w lo v vs cs) : ClsIn w lo w.heap.size v vs cs :=
  ⟨h, fun b hb => (World.ownsRow.lt h.row b hb).2, fun i p hp b hb => by
    have hl := h.len
    obtain ⟨hi, _⟩ := List.getElem?_eq_some_iff.1 hp
    exact (World.ownsRow.lt (h.fld i p _ hp (List.getElem?_eq_getElem (by omega))) b hb).2⟩
theorem ClsIn.keep {w w' : World} {lo hi : Nat} {v : Value} {vs : List (Int × SV)} {cs : List (Int × List (Int × Int))} (h : ClsIn w lo hi v vs cs) (e : ∀ b, lo ≤ b → b < hi → w'.heap[b]? = w.heap[b]?) : ClsIn w' lo hi v vs cs :=
  ⟨⟨row_keepH h.cls.row fun g hg => e g (World.ownsRow.lt h.cls.row g hg).1 (h.top g hg), h.cls.ls, fun i p c h1 h2 => row_keepH (h.cls.fld i p c h1 h2) fun g hg => e g (World.ownsRow.lt (h.cls.fld i p c h1 h2) g hg).1 (h.sub i p h1 g hg)⟩, h.top, h.sub⟩
def PNPost (s : ByteArray) (size : Int) (w : World) (e : Ending) (w' : World) : Prop := Below w.heap.size w w' ∧
  ((newE s size ≠ 0 ∧ e = .returned (.tuple #[.pointer none, .int .i64 (newE s size)])) ∨
   (newE s size = 0 ∧ ∃ hi hb sv vs, e = .returned (.tuple #[.pointer (some ⟨hb, 0, none⟩), .int .i64 0]) ∧ w.heap.size ≤ hi ∧ hi ≤ hb ∧ HP w' hb sv size (fun _ => 0) (fun _ => 0) (fun _ _ => 0) (fun _ _ => 0) ∧ ClsIn w' w.heap.size hi (.slice sv.a sv.n sv.c) vs (readC s)))
set_option maxHeartbeats 1000000 in
set_option maxRecDepth 20000 in
theorem pnew_any (s : ByteArray) (size : Int) (w : World) (hm : s.size ≤ 9223372036854775807) : Calls Try.prog 9 #[.string s, .int .i64 size] w (PNPost s size w) := by
  have R := read_any s w hm
  unfold RPost at R
  unfold PNPost
  by_cases h0 : readE s = 0
  · by_cases h1 : size < 1 ∨ 200 < size
    · have HE : Hid (newE s size = 7) := by show _ = _; unfold newE; rw [if_neg (by simpa using h0), if_pos h1]
      rw [h0] at R
      clear hm h0
      rcases h1 with h1 | h1
      · go_enter Try.func9, Try.ntmps9
        go_wp2_with fail
        refine R.mono ?_
        rintro e w1 ⟨a, n, c, vs, rfl, _, hb1⟩
        go_wp2
        go_ret2
        exact ⟨hb1.alloc hb1.size _, .inl ⟨by rw [HE.out]; decide, by rw [HE.out]; rfl⟩⟩
      · have h1' : ¬ size < 1 := by omega
        go_enter Try.func9, Try.ntmps9
        go_wp2_with fail
        refine R.mono ?_
        rintro e w1 ⟨a, n, c, vs, rfl, _, hb1⟩
        go_wp2
        go_ret2
        exact ⟨hb1.alloc hb1.size _, .inl ⟨by rw [HE.out]; decide, by rw [HE.out]; rfl⟩⟩
    · have HE : Hid (newE s size = 0) := by show _ = _; unfold newE; rw [if_neg (by simpa using h0), if_neg h1]
      have h2 : ¬ size < 1 := by omega
      have h3 : ¬ 200 < size := by omega
      rw [h0] at R
      clear hm h0 h1
      go_enter Try.func9, Try.ntmps9
      go_wp2_with fail
      refine R.mono ?_
      rintro e w1 ⟨a, n, c, vs, rfl, V, hb1⟩
      have HV : Hid (Cls w1 w.heap.size (.slice a n c) vs (readC s)) := V
      clear V R
      go_wp2_with (with_reducible refine wpList_hpbuild a n c size rfl rfl ?_)
      go_ret2
      have BA : Below w1.heap.size w1 ((w1.alloc (.cells #[.slice a n c] 72)).alloc (.cells (hpCells Try.prog a n c size) 84)) := ((Below.refl _ _).alloc (Nat.le_refl _) _).alloc (by simp) _
      refine ⟨hb1.trans (BA.mono hb1.size), .inr ⟨HE.out, w1.heap.size, w1.heap.size + 1, ⟨a, n, c⟩, vs, rfl, hb1.size, by omega, ?_, ?_⟩⟩
      · have := HP.new (w1.alloc (.cells #[.slice a n c] 72)) a n c size
        rw [show (w1.alloc (.cells #[.slice a n c] 72)).heap.size = w1.heap.size + 1 by simp] at this
        exact this
      · exact (ClsIn.of HV.out).keep fun b _ hb => BA.block b hb
  · have HE : Hid (newE s size = readE s) := by show _ = _; unfold newE; rw [if_pos h0]
    obtain ⟨y, hy⟩ : ∃ y, y = readE s := ⟨_, rfl⟩
    have HY : Hid (y = readE s) := hy
    rw [← hy] at R h0
    have hy' : (y == 0) = false := by simpa using h0
    have hy'' : (y != 0) = true := by simpa using h0
    have HY0 : Hid (y ≠ 0) := h0
    clear hm hy
    go_enter Try.func9, Try.ntmps9
    go_wp2_with fail
    refine R.mono ?_
    rintro e w1 ⟨a, n, c, vs, rfl, _, hb1⟩
    clear R
    go_wp2
    go_ret2
    exact ⟨hb1.alloc hb1.size _, .inl ⟨by rw [HE.out, ← HY.out]; exact HY0.out, by rw [HE.out, ← HY.out]; rfl⟩⟩
end Go.Proofs.Ytbgilndohccicab
namespace Go.Proofs.Ytbgilndohccicab
open Go.RowKit

theorem addOff (g j : Nat) : (⟨g, 0, none⟩ : Addr).add j = ⟨g, j, none⟩ := by unfold Addr.add; split <;> simp_all
/-- The graph that the statement keeps: roots, and of each object its class, number and references (-1: none). -/
structure GG where
  R : Nat → Int
  c : Nat → Int
  v : Nat → Int
  a : Nat → Int
  b : Nat → Int
  n : Nat
def nodeV (G : GG) (i : Nat) : List Value := [.int .u8 (G.c i), .int .i64 (G.v i), .int .i64 (G.a i), .int .i64 (G.b i)]
def flatN (G : GG) : List Value := (List.range G.n).flatMap (nodeV G)
theorem flatR_len (f : Nat → List Value) (hf : ∀ i, (f i).length = 4) : ∀ n, ((List.range n).flatMap f).length = n * 4 := by
  intro n
  induction n with
  | zero => rfl
  | succ n ih => rw [List.range_succ, List.flatMap_append, List.length_append, ih]; simp [hf]; omega
theorem flatR_get (f : Nat → List Value) (hf : ∀ i, (f i).length = 4) : ∀ n i o, i < n → o < 4 → ((List.range n).flatMap f)[i * 4 + o]? = (f i)[o]? := by
  intro n
  induction n with
  | zero => intro i o h; omega
  | succ n ih =>
    intro i o hi ho
    rw [List.range_succ, List.flatMap_append]
    rcases Nat.lt_or_ge i n with h | h
    · rw [List.getElem?_append_left (by rw [flatR_len f hf]; omega)]
      exact ih i o h ho
    · have : i = n := by omega
      subst this
      rw [List.getElem?_append_right (by rw [flatR_len f hf]; omega), flatR_len f hf, show i * 4 + o - i * 4 = o by omega]
      simp
theorem flatR_congr {f g : Nat → List Value} {n : Nat} (h : ∀ i, i < n → f i = g i) : (List.range n).flatMap f = (List.range n).flatMap g := by
  induction n with
  | zero => rfl
  | succ n ih => rw [List.range_succ, List.flatMap_append, List.flatMap_append, ih (fun i hi => h i (by omega))]; simp [h n (by omega)]
/-- v is a slice of nodes, made since base, that holds the graph's. -/
def ND (w : World) (base : Nat) (nv : Value) (G : GG) : Prop := w.ownsRow base 146 4 nv G.n (flatN G)
theorem ND.nil (w : World) (base : Nat) (G : GG) (h : G.n = 0) : ND w base (.slice none 0 0) G := by
  unfold ND flatN; rw [h]; exact World.ownsRow_nil _ _ _ _
theorem ND.shape {w : World} {base : Nat} {nv : Value} {G : GG} (h : ND w base nv G) : ∃ a c, nv = .slice a G.n c := by
  rcases h.2 with ⟨rfl, hn⟩ | ⟨g, cap, cur, rfl, _⟩
  · exact ⟨none, 0, by rw [hn]⟩
  · exact ⟨_, _, rfl⟩
theorem ND.below {w w' : World} {base : Nat} {nv : Value} {G : GG} (h : ND w base nv G) (hb : Below w.heap.size w w') : ND w' base nv G := World.ownsRow.kept h (gb_below hb none) (by cases hv : nv.ownBlock <;> simp)
theorem ND.kept {w w' : World} {base b : Nat} {nv : Value} {G : GG} (h : ND w base nv G) (g : w.grownBy w' (some b)) (hb : b < base) : ND w' base nv G := row_kept h g hb
/-- One by one. -/
structure NCell (w : World) (g i : Nat) (G : GG) : Prop where
  c0 : w.cell? ⟨g, i * 4, none⟩ = some (.int .u8 (G.c i))
  c1 : w.cell? ⟨g, i * 4 + 1, none⟩ = some (.int .i64 (G.v i))
  c2 : w.cell? ⟨g, i * 4 + 2, none⟩ = some (.int .i64 (G.a i))
  c3 : w.cell? ⟨g, i * 4 + 3, none⟩ = some (.int .i64 (G.b i))
  fz : ∀ o, w.frozen? ⟨g, o, none⟩ = false
theorem ND.cells {w : World} {base : Nat} {a : Option Addr} {n k : Nat} {G : GG} (h : ND w base (.slice a n k) G) : n = G.n ∧ G.n ≤ maxLen ∧ ∀ i, i < G.n → ∃ g, a = some ⟨g, 0, none⟩ ∧ base ≤ g ∧ g < w.heap.size ∧ NCell w g i G := by
  rcases h.2 with ⟨e, hn⟩ | ⟨g, cap, cur, e, hbg, hg, h1, h2, _⟩
  · cases e; exact ⟨hn.symm, by rw [hn]; exact Nat.zero_le _, fun i hi => by omega⟩
  · cases e
    refine ⟨rfl, by omega, fun i hi => ⟨g, rfl, hbg, (Array.getElem?_eq_some_iff.1 hg).1, ?_⟩⟩
    have c := World.ownsRow.cells h (g := g) rfl
    have e : ∀ o u, o < 4 → (nodeV G i)[o]? = some u → w.cell? ⟨g, i * 4 + o, none⟩ = some u := by
      intro o u ho hu
      rw [← addOff]
      refine c _ _ ?_
      rw [← hu]
      exact flatR_get (nodeV G) (fun _ => rfl) G.n i o hi ho
    exact ⟨e 0 _ (by omega) rfl, e 1 _ (by omega) rfl, e 2 _ (by omega) rfl, e 3 _ (by omega) rfl, fun o => frozen_of_row _ _ _ _ _ hg⟩
theorem flatR_set (f : Nat → List Value) (hf : ∀ i, (f i).length = 4) (x : Value) : ∀ n i o, i < n → o < 4 → ((List.range n).flatMap f).set (i * 4 + o) x = (List.range n).flatMap (fun j => if j = i then (f i).set o x else f j) := by
  intro n
  induction n with
  | zero => intro i o h; omega
  | succ n ih =>
    intro i o hi ho
    rw [List.range_succ, List.flatMap_append, List.flatMap_append]
    rcases Nat.lt_or_ge i n with h | h
    · rw [List.set_append_left _ _ (by rw [flatR_len f hf]; omega), ih i o h ho]
      congr 1
      have hne : n ≠ i := by omega
      simp [hne]
    · have : i = n := by omega
      subst this
      rw [List.set_append_right _ _ (by rw [flatR_len f hf]; omega), flatR_len f hf, show i * 4 + o - i * 4 = o by omega]
      congr 1
      · exact flatR_congr fun j hj => by rw [if_neg (by omega)]
      · simp
/-- A node's cell is set. -/
theorem ND.set {w : World} {base g : Nat} {n k : Nat} {G G' : GG} (h : ND w base (.slice (some ⟨g, 0, none⟩) n k) G) {i o : Nat} (hi : i < G.n) (ho : o < 4) (x : Value) (hn : G'.n = G.n) (he : ∀ j, j < G.n → nodeV G' j = if j = i then (nodeV G i).set o x else nodeV G j) :
    ND (w.setCell ⟨g, i * 4 + o, none⟩ x) base (.slice (some ⟨g, 0, none⟩) n k) G' := by
  have hl := flatR_len (nodeV G) (fun _ => rfl) G.n
  have hflat : flatN G' = (flatN G).set (i * 4 + o) x := by
    unfold flatN
    rw [hn, flatR_set (nodeV G) (fun _ => rfl) x G.n i o hi ho]
    exact flatR_congr he
  rcases h.2 with ⟨e, _⟩ | ⟨g', cap, cur, e, hbg, hg, h1, h2, h3, h4⟩
  · cases e
  · cases e
    unfold ND
    rw [hflat, hn]
    refine ⟨by rw [List.length_set]; exact hl, .inr ⟨g, k, cur.setIfInBounds (i * 4 + o) x, rfl, hbg, ?_, h1, h2, by rw [Array.size_setIfInBounds]; exact h3, ?_⟩⟩
    · exact heap_setCell_same w g (i * 4 + o) cur _ x hg
    · rw [Array.toList_setIfInBounds, List.take_set, h4]
/-- The graph's own block. -/
structure GP (w : World) (gb hb : Nat) (sz : Int) (nv : Value) (R : Nat → Int) : Prop where
  h : w.cell? ⟨gb, 0, none⟩ = some (.pointer (some ⟨hb, 0, none⟩))
  s : w.cell? ⟨gb, 1, none⟩ = some (.int .i64 sz)
  n : w.cell? ⟨gb, 2, none⟩ = some nv
  r : ∀ i, i < 8 → w.cell? ⟨gb, 3 + i, none⟩ = some (.int .i64 (R i))
  t : w.cell? ⟨gb, 11, none⟩ = some (.int .u8 78)
  frz : ∀ o, w.frozen? ⟨gb, o, none⟩ = false
theorem GP.lt {w : World} {gb hb : Nat} {sz : Int} {nv : Value} {R : Nat → Int} (h : GP w gb hb sz nv R) : gb < w.heap.size := World.block_lt_of_cell? w ⟨gb, 0, none⟩ h.h
theorem GP.keep {w w' : World} {gb hb : Nat} {sz : Int} {nv : Value} {R : Nat → Int} (h : GP w gb hb sz nv R) (e : w'.heap[gb]? = w.heap[gb]?) : GP w' gb hb sz nv R :=
  ⟨(World.cell?_of_block (a := ⟨gb, _, none⟩) e).trans h.h, (World.cell?_of_block (a := ⟨gb, _, none⟩) e).trans h.s, (World.cell?_of_block (a := ⟨gb, _, none⟩) e).trans h.n, fun i hi => (World.cell?_of_block (a := ⟨gb, _, none⟩) e).trans (h.r i hi), (World.cell?_of_block (a := ⟨gb, _, none⟩) e).trans h.t, fun o => (World.frozen?_of_block (a := ⟨gb, o, none⟩) e).trans (h.frz o)⟩
theorem GP.below {w w' : World} {gb hb : Nat} {sz : Int} {nv : Value} {R : Nat → Int} (h : GP w gb hb sz nv R) (hb' : Below w.heap.size w w') : GP w' gb hb sz nv R := h.keep (hb'.block gb h.lt)
set_option maxHeartbeats 400000 in
theorem gwords_any (gb hb : Nat) (sz : Int) (nv : Value) (R : Nat → Int) (c : Int) (w : World) (h : GP w gb hb sz nv R) :
    Calls Try.prog 74 #[.pointer (some ⟨gb, 0, none⟩), .int .u8 c] w fun e w' => e = .returned (.int .i64 (if c = 78 then 4 else 3)) ∧ w' = w := by
  have ht := h.t
  have hl := h.lt
  by_cases hc : c = 78
  · have e1 : (c == 78) = true := by simp [hc]
    rw [if_pos hc]
    clear hc h
    go_enter Try.func74, Try.ntmps74
    go_wp2
    go_ret
    exact ⟨rfl, rfl⟩
  · have e1 : (c == 78) = false := by simp [hc]
    rw [if_neg hc]
    clear hc h
    go_enter Try.func74, Try.ntmps74
    go_wp2
    go_ret
    exact ⟨rfl, rfl⟩
end Go.Proofs.Ytbgilndohccicab
