import Derived.Test.YthckelcjncnalabKz39
import Derived.Test.YthckelcjncnalabKz26
import Derived.Test.YthckelcjncnalabKz05
import Derived.Test.YthckelcjncnalabKz28
namespace Go.Proofs.Ythckelcjncnalab
open Go.RowKit

/-- The cells of a type's zero value. -/
def zeroH (P : Program) (t : TypeId) : Array Value :=
  match P.info? t with
  | some i => (match i.zero with | some z => z.cells | none => #[])
  | none => #[]
def hpCells (P : Program) (a : Option Addr) (n c : Nat) (z : Int) : Array Value := ((zeroH P 65).setIfInBounds 0 (.slice a n c)).setIfInBounds 1 (.int .i64 z)
set_option maxRecDepth 100000 in
theorem hp_built (a : Option Addr) (n c : Nat) (z : Int) : Try.prog.built 65 [(0, .agg #[.slice a n c]), (1, .int .i64 z)] = some (hpCells Try.prog a n c z) := by kernel_rfl
theorem hp_build (a : Option Addr) (n c : Nat) (z : Int) (w : World) : (Instr.build 65 #[(0, .agg #[.slice a n c]), (1, .int .i64 z)]).run Try.prog w = .ok (.agg (hpCells Try.prog a n c z)) w := run_build w 65 _ _ (hp_built a n c z)
theorem wpList_hpbuild {ops : Array Oper} {Q : Exit → Act → World → Prop} {rest : List Oper} {dst : Option Nat} {ty : TypeId} {pos : String} {after : Array Edge} {act : Act} {w : World} {x y : Operand} (a : Option Addr) (n c : Nat) (z : Int)
    (hx : act.eval x = .agg #[.slice a n c]) (hy : act.eval y = .int .i64 z) (h : wpList Try.prog ops Q rest (act.put dst (.agg (hpCells Try.prog a n c z))) w) :
    wpList Try.prog ops Q (⟨dst, .build 65 #[(0, x), (1, y)], ty, pos, after, none⟩ :: rest) act w := by
  refine wpList_plain rfl fun K hK => ?_
  unfold Oper.wp execOp
  simp only [Sem.run_bind, List.map_toArray, List.map_cons, List.map_nil, hx, hy, hp_build, Result.andThen_ok]
  exact hK _ _ h
def obj0 : List Value := [.int .u8 0, .int .i64 0, .int .i64 0, .int .i64 0, .int .i64 0, .int .i64 0, .int .i64 0, .int .i64 0, .int .i64 0, .int .i64 0, .int .i64 0, .int .i64 0, .int .i64 0]
def heap0 : List Value := [.slice none 0 0, .int .i64 0, .int .i64 0, .int .i64 0, .int .i64 0, .int .i64 0, .int .i64 0, .int .i64 0, .int .i64 0, .int .i64 0] ++ ((List.range 201).flatMap (fun _ => obj0) ++ [.bool false, .bool false, .slice none 0 0])
set_option maxRecDepth 100000 in
theorem zero_heap : zeroH Try.prog 65 = heap0.toArray := by kernel_rfl
theorem flat_at {α : Type} (f : α → List Value) (m : Nat) (hf : ∀ x, (f x).length = m) : ∀ (l : List α) (i o : Nat), i < l.length → o < m → ∃ x, (l.flatMap f)[i * m + o]? = (f x)[o]? := by
  intro l
  induction l with
  | nil => intro i o h; simp at h
  | cons x l ih =>
    intro i o hi ho
    rw [List.flatMap_cons]
    match i with
    | 0 => exact ⟨x, by rw [Nat.zero_mul, Nat.zero_add, List.getElem?_append_left (by rw [hf]; exact ho)]⟩
    | j + 1 =>
      obtain ⟨y, hy⟩ := ih j o (by simpa using hi) ho
      refine ⟨y, ?_⟩
      rw [List.getElem?_append_right (by rw [hf, Nat.add_mul]; omega), hf, ← hy]
      congr 1
      rw [Nat.add_mul]; omega
theorem flat_len (l : List Nat) : (l.flatMap (fun _ : Nat => obj0)).length = l.length * 13 := by
  induction l with
  | nil => rfl
  | cons x l ih => rw [List.flatMap_cons, List.length_append, ih, List.length_cons]; show 13 + _ = _; omega
theorem objs0_len : ((List.range 201).flatMap (fun _ : Nat => obj0)).length = 2613 := by rw [flat_len, List.length_range]
theorem heap0_obj (i o : Nat) (hi : i < 201) (ho : o < 13) : heap0[10 + i * 13 + o]? = obj0[o]? := by
  unfold heap0
  rw [List.getElem?_append_right (by simp; omega)]
  obtain ⟨x, hx⟩ := flat_at (fun _ : Nat => obj0) 13 (fun _ => rfl) (List.range 201) i o (by simpa using hi) ho
  rw [List.getElem?_append_left (by rw [objs0_len]; simp; omega), ← hx]
  congr 1
  simp; omega
theorem heap0_len : heap0.length = 2626 := by
  unfold heap0
  rw [List.length_append, List.length_append, objs0_len]
  rfl
theorem hp_get (a : Option Addr) (n c : Nat) (z : Int) (o : Nat) (h : 2 ≤ o) : (hpCells Try.prog a n c z)[o]? = heap0[o]? := by
  unfold hpCells
  rw [zero_heap, Array.getElem?_setIfInBounds_ne (by omega), Array.getElem?_setIfInBounds_ne (by omega)]
  simp
theorem HP.new (w : World) (a : Option Addr) (n c : Nat) (z : Int) : HP (w.alloc (.cells (hpCells Try.prog a n c z) 65)) w.heap.size ⟨a, n, c⟩ z (fun _ => 0) (fun _ => 0) (fun _ _ => 0) (fun _ _ => 0) := by
  have hg := heap_alloc_new w (.cells (hpCells Try.prog a n c z) 65)
  have hc : ∀ o, (w.alloc (.cells (hpCells Try.prog a n c z) 65)).cell? ⟨w.heap.size, o, none⟩ = (hpCells Try.prog a n c z)[o]? := fun o => cell_of_row _ _ o _ _ _ hg
  have hs : 2 ≤ (zeroH Try.prog 65).size := by rw [zero_heap]; simp [heap0_len]
  refine ⟨?_, ?_, fun i hi => ?_, fun i hi => ?_, fun i j hi hj => ?_, fun i j hi hj => ?_, fun o => frozen_of_row _ _ _ _ _ hg, ?_, ?_⟩
  · rw [hc]; unfold hpCells; rw [Array.getElem?_setIfInBounds_ne (by omega), Array.getElem?_setIfInBounds_self_of_lt (by omega)]
  · rw [hc]; unfold hpCells; rw [Array.getElem?_setIfInBounds_self_of_lt (by simp; omega)]
  · rw [hc, hp_get _ _ _ _ _ (by omega)]
    have : i = 0 ∨ i = 1 ∨ i = 2 ∨ i = 3 ∨ i = 4 ∨ i = 5 ∨ i = 6 ∨ i = 7 := by omega
    rcases this with rfl | rfl | rfl | rfl | rfl | rfl | rfl | rfl <;> rfl
  · rw [hc, hp_get _ _ _ _ _ (by omega)]
    have := heap0_obj i 0 hi (by omega)
    rw [Nat.add_zero] at this
    rw [this]; rfl
  · rw [hc, hp_get _ _ _ _ _ (by omega)]
    have := heap0_obj i (1 + j) hi (by omega)
    rw [← Nat.add_assoc] at this
    rw [this]
    have : j = 0 ∨ j = 1 ∨ j = 2 ∨ j = 3 ∨ j = 4 ∨ j = 5 := by omega
    rcases this with rfl | rfl | rfl | rfl | rfl | rfl <;> rfl
  · rw [hc, hp_get _ _ _ _ _ (by omega)]
    have := heap0_obj i (7 + j) hi (by omega)
    rw [← Nat.add_assoc] at this
    rw [this]
    have : j = 0 ∨ j = 1 ∨ j = 2 ∨ j = 3 ∨ j = 4 ∨ j = 5 := by omega
    rcases this with rfl | rfl | rfl | rfl | rfl | rfl <;> rfl
  · rw [hc, hp_get _ _ _ _ _ (by omega)]; kernel_rfl
  · rw [hc, hp_get _ _ _ _ _ (by omega)]; kernel_rfl
/-- New's error. -/
def newE (s : ByteArray) (size : Int) : Int := if readE s ≠ 0 then readE s else if size < 1 ∨ 200 < size then 7 else 0
/-- The schema's rows lie in the blocks from lo on, below hi. -/
structure ClsIn (w : World) (lo hi : Nat) (v : Value) (vs : List (Int × SV)) (cs : List (Int × List (Int × Int))) : Prop where
  cls : Cls w lo v vs cs
  top : ∀ b, v.ownBlock = some b → b < hi
  sub : ∀ (i : Nat) (p : Int × SV), vs[i]? = some p → ∀ b, p.2.val.ownBlock = some b → b < hi
theorem ClsIn.of {w : World} {lo : Nat} {v : Value} {vs : List (Int × SV)} {cs : List (Int × List (Int × Int))} (h : Cls w lo v vs cs) : ClsIn w lo w.heap.size v vs cs :=
  ⟨h, fun b hb => (World.ownsRow.lt h.row b hb).2, fun i p hp b hb => by
    have hl := h.len
    obtain ⟨hi, _⟩ := List.getElem?_eq_some_iff.1 hp
    exact (World.ownsRow.lt (h.fld i p _ hp (List.getElem?_eq_getElem (by omega))) b hb).2⟩
theorem ClsIn.keep {w w' : World} {lo hi : Nat} {v : Value} {vs : List (Int × SV)} {cs : List (Int × List (Int × Int))} (h : ClsIn w lo hi v vs cs) (e : ∀ b, lo ≤ b → b < hi → w'.heap[b]? = w.heap[b]?) : ClsIn w' lo hi v vs cs :=
  ⟨⟨row_keepH h.cls.row fun g hg => e g (World.ownsRow.lt h.cls.row g hg).1 (h.top g hg), h.cls.ls, fun i p c h1 h2 => row_keepH (h.cls.fld i p c h1 h2) fun g hg => e g (World.ownsRow.lt (h.cls.fld i p c h1 h2) g hg).1 (h.sub i p h1 g hg)⟩, h.top, h.sub⟩
def PNPost (s : ByteArray) (size : Int) (w : World) (e : Ending) (w' : World) : Prop := Below w.heap.size w w' ∧
  ((newE s size ≠ 0 ∧ e = .returned (.tuple #[.pointer none, .int .i64 (newE s size)])) ∨
   (newE s size = 0 ∧ ∃ hi hb sv vs, e = .returned (.tuple #[.pointer (some ⟨hb, 0, none⟩), .int .i64 0]) ∧ w.heap.size ≤ hi ∧ hi ≤ hb ∧ HP w' hb sv size (fun _ => 0) (fun _ => 0) (fun _ _ => 0) (fun _ _ => 0) ∧ ClsIn w' w.heap.size hi (.slice sv.a sv.n sv.c) vs (readC s)))
set_option maxHeartbeats 1000000 in
set_option maxRecDepth 20000 in
theorem pnew_any (s : ByteArray) (size : Int) (w : World) (hm : s.size ≤ 9223372036854775807) : Calls Try.prog 8 #[.string s, .int .i64 size] w (PNPost s size w) := by
  have R := read_any s w hm
  unfold RPost at R
  unfold PNPost
  by_cases h0 : readE s = 0
  · by_cases h1 : size < 1 ∨ 200 < size
    · have HE : Hid (newE s size = 7) := by show _ = _; unfold newE; rw [if_neg (by simpa using h0), if_pos h1]
      rw [h0] at R
      clear hm h0
      rcases h1 with h1 | h1
      · go_enter Try.func8, Try.ntmps8
        go_wp2_with fail
        refine R.mono ?_
        rintro e w1 ⟨a, n, c, vs, rfl, _, hb1⟩
        go_wp2
        go_ret2
        exact ⟨hb1.alloc hb1.size _, .inl ⟨by rw [HE.out]; decide, by rw [HE.out]; rfl⟩⟩
      · have h1' : ¬ size < 1 := by omega
        go_enter Try.func8, Try.ntmps8
        go_wp2_with fail
        refine R.mono ?_
        rintro e w1 ⟨a, n, c, vs, rfl, _, hb1⟩
        go_wp2
        go_ret2
        exact ⟨hb1.alloc hb1.size _, .inl ⟨by rw [HE.out]; decide, by rw [HE.out]; rfl⟩⟩
    · have HE : Hid (newE s size = 0) := by show _ = _; unfold newE; rw [if_neg (by simpa using h0), if_neg h1]
      have h2 : ¬ size < 1 := by omega
      have h3 : ¬ 200 < size := by omega
      rw [h0] at R
      clear hm h0 h1
      go_enter Try.func8, Try.ntmps8
      go_wp2_with fail
      refine R.mono ?_
      rintro e w1 ⟨a, n, c, vs, rfl, V, hb1⟩
      have HV : Hid (Cls w1 w.heap.size (.slice a n c) vs (readC s)) := V
      clear V R
      go_wp2_with (with_reducible refine wpList_hpbuild a n c size rfl rfl ?_)
      go_ret2
      have BA : Below w1.heap.size w1 ((w1.alloc (.cells #[.slice a n c] 52)).alloc (.cells (hpCells Try.prog a n c size) 65)) := ((Below.refl _ _).alloc (Nat.le_refl _) _).alloc (by simp) _
      refine ⟨hb1.trans (BA.mono hb1.size), .inr ⟨HE.out, w1.heap.size, w1.heap.size + 1, ⟨a, n, c⟩, vs, rfl, hb1.size, by omega, ?_, ?_⟩⟩
      · have := HP.new (w1.alloc (.cells #[.slice a n c] 52)) a n c size
        rw [show (w1.alloc (.cells #[.slice a n c] 52)).heap.size = w1.heap.size + 1 by simp] at this
        exact this
      · exact (ClsIn.of HV.out).keep fun b _ hb => BA.block b hb
  · have HE : Hid (newE s size = readE s) := by show _ = _; unfold newE; rw [if_pos h0]
    obtain ⟨y, hy⟩ : ∃ y, y = readE s := ⟨_, rfl⟩
    have HY : Hid (y = readE s) := hy
    rw [← hy] at R h0
    have hy' : (y == 0) = false := by simpa using h0
    have hy'' : (y != 0) = true := by simpa using h0
    have HY0 : Hid (y ≠ 0) := h0
    clear hm hy
    go_enter Try.func8, Try.ntmps8
    go_wp2_with fail
    refine R.mono ?_
    rintro e w1 ⟨a, n, c, vs, rfl, _, hb1⟩
    clear R
    go_wp2
    go_ret2
    exact ⟨hb1.alloc hb1.size _, .inl ⟨by rw [HE.out, ← HY.out]; exact HY0.out, by rw [HE.out, ← HY.out]; rfl⟩⟩
end Go.Proofs.Ythckelcjncnalab
namespace Go.Proofs.Ythckelcjncnalab
open Go.RowKit

theorem addOffQ (g j : Nat) : (⟨g, 0, none⟩ : Addr).add j = ⟨g, j, none⟩ := by unfold Addr.add; split <;> simp_all
theorem Try.infoI64Q : (Try.prog.info? 2).map (fun i => (i.zero, i.size, i.bytes)) = some (some (.int .i64 0), 1, 8) := by kernel_rfl
/-- The pile's row. -/
def SKq (w : World) (base : Nat) (v : Value) (l : List Int) : Prop := w.ownsRow base 2 1 v l.length (l.map fun x => Value.int .i64 x)
theorem SKq.shape {w : World} {base : Nat} {v : Value} {l : List Int} (h : SKq w base v l) : (v = .slice none 0 0 ∧ l = []) ∨ ∃ g cap, v = .slice (some ⟨g, 0, none⟩) l.length cap ∧ base ≤ g ∧ g < w.heap.size ∧ l.length ≤ cap ∧ cap ≤ maxLen ∧ ∀ i x, l[i]? = some x → w.cell? ⟨g, i, none⟩ = some (.int .i64 x) := by
  rcases h.2 with ⟨rfl, hn⟩ | ⟨g, cap, cur, rfl, hbg, hg, h1, h2, _⟩
  · exact .inl ⟨rfl, List.length_eq_zero_iff.1 hn⟩
  · refine .inr ⟨g, cap, rfl, hbg, (Array.getElem?_eq_some_iff.1 hg).1, h1, h2, fun i x hx => ?_⟩
    have c := World.ownsRow.cells h (g := g) rfl i (.int .i64 x) (by rw [List.getElem?_map, hx]; rfl)
    rw [addOffQ] at c; exact c
theorem SKq.pop {w : World} {base g cap : Nat} {l : List Int} {x : Int} (h : SKq w base (.slice (some ⟨g, 0, none⟩) (l.length + 1) cap) (l ++ [x])) : SKq w base (.slice (some ⟨g, 0, none⟩) l.length cap) l := by
  rcases h.2 with ⟨e, _⟩ | ⟨g', cap', cur, e, hbg, hg, h1, h2, h3, h4⟩
  · cases e
  · simp only [Value.slice.injEq, Option.some.injEq, Addr.mk.injEq, and_true, List.length_append, List.length_cons, List.length_nil, Nat.zero_add, true_and] at e
    obtain ⟨rfl, rfl⟩ := e
    simp only [List.length_append, List.length_cons, List.length_nil] at h1
    refine ⟨by simp, .inr ⟨g, cap, cur, rfl, hbg, hg, by omega, h2, h3, ?_⟩⟩
    have e1 : cur.toList.take (l.length * 1) = (cur.toList.take ((l ++ [x]).length * 1)).take (l.length * 1) := by
      rw [List.take_take]; congr 1; simp
    rw [e1, h4, List.map_append, List.take_append_of_le_length (by simp)]
    exact List.take_of_length_le (by simp)
theorem SKq.keep {w w' : World} {base : Nat} {v : Value} {l : List Int} (h : SKq w base v l) (e : ∀ g, v.ownBlock = some g → w'.heap[g]? = w.heap[g]?) : SKq w' base v l := row_keepH h e
/-- The pile in block b. -/
structure PL (w : World) (b base : Nat) (v : Value) (l : List Int) : Prop where
  c : w.cell? ⟨b, 0, none⟩ = some v
  f : w.frozen? ⟨b, 0, none⟩ = false
  r : SKq w base v l
  lt : b < base
  le : base ≤ w.heap.size
theorem PL.below {w w' : World} {b base : Nat} {v : Value} {l : List Int} (h : PL w b base v l) (B : Below w.heap.size w w') : PL w' b base v l := by
  have hb : b < w.heap.size := Nat.lt_of_lt_of_le h.lt h.le
  exact ⟨(B.cell (p := ⟨b, 0, none⟩) hb).trans h.c, (B.frozen (p := ⟨b, 0, none⟩) hb).trans h.f, h.r.keep fun g hg => B.block g (World.ownsRow.lt h.r g hg).2, h.lt, Nat.le_trans h.le B.size⟩
theorem PL.set {w : World} {b base : Nat} {v v' : Value} {l l' : List Int} (h : PL w b base v l) (r : SKq w base v' l') : PL (w.setCell ⟨b, 0, none⟩ v') b base v' l' := by
  have hb : b < w.heap.size := Nat.lt_of_lt_of_le h.lt h.le
  have hc := h.c
  have hf := h.f
  refine ⟨by go_simp, by go_simp, r.keep fun g hg => heap_setCell_other _ _ _ _ ?_, h.lt, by simpa [World.setCell] using h.le⟩
  show g ≠ b
  have := (World.ownsRow.lt r g hg).1
  have := h.lt
  omega
/-- What a push leaves alone. -/
structure PF (b : Nat) (v : Value) (w w' : World) : Prop where
  os : w'.os = w.os
  tape : w'.tape = w.tape
  output : w'.output = w.output
  size : w.heap.size ≤ w'.heap.size
  blk : ∀ k, k < w.heap.size → k ≠ b → v.ownBlock ≠ some k → w'.heap[k]? = w.heap[k]?
theorem PF.below {B b base : Nat} {v : Value} {l : List Int} {w0 w w' : World} (h : PF b v w w') (hP : PL w b base v l) (hB : B ≤ b) (B0 : Below B w0 w) : Below B w0 w' := by
  refine B0.trans ⟨h.os, h.tape, h.output, h.size, fun k hk => h.blk k (by have := hP.lt; have := hP.le; omega) (by omega) (fun e => ?_)⟩
  have := (World.ownsRow.lt hP.r k e).1
  have := hP.lt
  omega
set_option maxRecDepth 20000 in
set_option maxHeartbeats 1000000 in
theorem ppush_any {w : World} {b base : Nat} {v : Value} {l : List Int} (h : PL w b base v l) (hl : l.length ≤ 1000) (x : Int) :
    Calls Try.prog 61 #[.pointer (some ⟨b, 0, none⟩), .int .i64 x] w fun e w' => e = .returned (.tuple #[]) ∧ ∃ v', PL w' b base v' (l ++ [x]) ∧ PF b v w w' := by
  obtain ⟨iI, hiI, hzI0, hzI1, hzI2⟩ := infoPartsH Try.infoI64Q
  have HH : Hid (PL w b base v l) := h
  have hb : b < w.heap.size := Nat.lt_of_lt_of_le h.lt h.le
  have hc := h.c
  have hf := h.f
  have hle := h.le
  have hlt := h.lt
  have hr := h.r
  unfold SKq at hr
  obtain ⟨n, hn⟩ : ∃ n, n = l.length := ⟨_, rfl⟩
  have HN : Hid (n = l.length) := hn
  rw [← hn] at hr hl
  obtain ⟨va, vc, hv⟩ : ∃ a c, v = .slice a n c := by
    rcases hr.2 with ⟨e, e0⟩ | ⟨g', cap', cur, e, _⟩
    · exact ⟨none, 0, by rw [e, e0]⟩
    · exact ⟨_, _, e⟩
  subst hv
  clear h hn
  go_enter Try.func61, Try.ntmps61
  go_wp2_with (at_builtin; refine wpList_append_own _ rfl _ _ 133 rfl base 2 iI (.int .i64 0) 1 8 Try.underlying133 hiI hzI0 hzI1 hzI2 rfl (by decide) _ n (l.map fun x => Value.int .i64 x) rfl (hr.alloc _) ⟨w.heap.size, 0, none⟩ 1 1 [.int .i64 x] rfl rfl ?c1 ?c2 ?c3 ?c4 ?c5 ?_)
  case c1 =>
    intro j u hj
    match j, hj with
    | 0, hj => simp at hj; subst hj; simp [Addr.add]
  case c2 => intro u hu; simp at hu; subst hu; rfl
  case c3 => unfold maxLen; omega
  case c4 => omega
  case c5 => simp; omega
  intro v' w2 hown hgr _
  obtain ⟨va', vc', hv'⟩ : ∃ a c, v' = .slice a (n + 1) c := by
    rcases hown.2 with ⟨_, e0⟩ | ⟨g', cap', cur, e, _⟩
    · simp at e0
    · exact ⟨_, _, e⟩
  subst hv'
  have hg2 : w.grownBy w2 (Value.ownBlock (.slice va n vc)) := gb_trans (World.grownBy_alloc _ _ _) hgr
  have hnb : some b ≠ Value.ownBlock (.slice va n vc) := fun e => by have := (World.ownsRow.lt hr b e.symm).1; omega
  have eb := hg2.block b hb hnb
  have c2 : w2.cell? ⟨b, 0, none⟩ = some (.slice va n vc) := (World.cell?_of_block (a := ⟨b, 0, none⟩) eb).trans hc
  have f2 : w2.frozen? ⟨b, 0, none⟩ = false := (World.frozen?_of_block (a := ⟨b, 0, none⟩) eb).trans hf
  have hb2 : b < w2.heap.size := Nat.lt_of_lt_of_le hb hg2.size
  have HP2 : Hid (PL (w2.setCell ⟨b, 0, none⟩ (.slice va' (n + 1) vc')) b base (.slice va' (n + 1) vc') (l ++ [x])) := by
    have hb' := hb2
    refine ⟨by go_simp, by go_simp, ?_, hlt, by have := hg2.size; simp [World.setCell]; omega⟩
    have r : SKq w2 base (.slice va' (n + 1) vc') (l ++ [x]) := by unfold SKq; rw [List.length_append, ← HN.out, List.map_append]; exact hown
    exact r.keep fun g hg => heap_setCell_other _ _ _ _ (by show g ≠ b; have := (World.ownsRow.lt r g hg).1; omega)
  have HF : Hid (PF b (.slice va n vc) w (w2.setCell ⟨b, 0, none⟩ (.slice va' (n + 1) vc'))) := ⟨hg2.os, hg2.tape, hg2.output, Nat.le_trans hg2.size (gb_set w2 b 0 (.slice va' (n + 1) vc')).size, fun k hk hkb hkv => ((gb_set w2 b 0 (.slice va' (n + 1) vc')).block k (Nat.lt_of_lt_of_le hk hg2.size) (by simpa using hkb)).trans (hg2.block k hk (fun e => hkv e.symm))⟩
  clear hown hgr hg2 hr HH eb hnb
  go_wp2
  refine bodyPost_end (v := .tuple #[]) (by simp [results, Try.results61, go_sem]) rfl ⟨rfl, _, HP2.out, HF.out⟩
set_option maxRecDepth 20000 in
set_option maxHeartbeats 1000000 in
theorem ppop_any {w : World} {b base : Nat} {v : Value} {l : List Int} (h : PL w b base v l) (hl : l.length ≤ 1000) :
    Calls Try.prog 59 #[.pointer (some ⟨b, 0, none⟩)] w fun e w' => e = .returned (.int .i64 (top l)) ∧ (∃ v', PL w' b base v' l.dropLast) ∧ w.grownBy w' (some b) := by
  have HH : Hid (PL w b base v l) := h
  have hb : b < w.heap.size := Nat.lt_of_lt_of_le h.lt h.le
  have hc := h.c
  have hf := h.f
  rcases h.r.shape with ⟨rfl, rfl⟩ | ⟨g, cap, rfl, hbg, hg, hlc, hcm, hcell⟩
  · clear h
    go_enter Try.func59, Try.ntmps59
    go_wp2
    go_ret
    exact ⟨rfl, ⟨_, HH.out⟩, World.grownBy.refl _ _⟩
  · rcases List.eq_nil_or_concat l with hl0 | ⟨l', x, hl'⟩
    · subst hl0
      simp only [List.length_nil] at hc hlc
      clear h hcell
      go_enter Try.func59, Try.ntmps59
      go_wp2
      go_ret
      exact ⟨rfl, ⟨_, HH.out⟩, World.grownBy.refl _ _⟩
    · rw [List.concat_eq_append] at hl'
      subst hl'
      obtain ⟨q, hq⟩ : ∃ q, q = l'.length := ⟨_, rfl⟩
      have hlen : (l' ++ [x]).length = q + 1 := by rw [hq]; simp
      have cx : w.cell? ⟨g, q, none⟩ = some (.int .i64 x) := hcell q x (by rw [hq]; simp)
      have r' : SKq w base (.slice (some ⟨g, 0, none⟩) q cap) l' := by
        have := h.r; rw [hlen, hq] at this; rw [hq]; exact SKq.pop this
      have HP : Hid (PL (w.setCell ⟨b, 0, none⟩ (.slice (some ⟨g, 0, none⟩) q cap)) b base (.slice (some ⟨g, 0, none⟩) q cap) l') := h.set r'
      rw [hlen] at hc hlc hl
      have et : top (l' ++ [x]) = x := by unfold top; simp
      have ed : (l' ++ [x]).dropLast = l' := List.dropLast_concat ..
      rw [et, ed]
      clear h hcell hq hlen r' et ed
      go_enter Try.func59, Try.ntmps59
      go_wp2
      go_ret
      exact ⟨rfl, ⟨_, HP.out⟩, gb_set _ _ _ _⟩
set_option maxHeartbeats 400000 in
theorem join_any (a s b : Int) (w : World) : Calls Try.prog 60 #[.int .i64 a, .int .u8 s, .int .i64 b] w fun e w' => e = .returned (.int .i64 (joinI a s b)) ∧ w' = w := by
  unfold joinI
  by_cases h1 : s = 43
  · subst h1
    rw [if_pos rfl]
    go_enter Try.func60, Try.ntmps60
    go_wp2
    go_ret
    exact ⟨rfl, rfl⟩
  · have e1 : (s == 43) = false := by simp [h1]
    rw [if_neg h1]
    by_cases h2 : s = 45
    · subst h2
      rw [if_pos rfl]
      clear e1 h1
      go_enter Try.func60, Try.ntmps60
      go_wp2
      go_ret
      exact ⟨rfl, rfl⟩
    · have e2 : (s == 45) = false := by simp [h2]
      rw [if_neg h2]
      clear h1 h2
      go_enter Try.func60, Try.ntmps60
      go_wp2
      go_ret
      exact ⟨rfl, rfl⟩
end Go.Proofs.Ythckelcjncnalab
