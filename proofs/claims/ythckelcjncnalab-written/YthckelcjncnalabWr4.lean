import Derived.Test.YthckelcjncnalabWr3
import Derived.Lib.Strings
namespace Go.Proofs.Ythckelcjncnalab
open Go.RowKit

/-- The cells of a type's zero value. -/
def zeroOf (P : Program) (t : TypeId) : Array Value :=
  match P.info? t with
  | some i => (match i.zero with | some z => z.cells | none => #[])
  | none => #[]
/-- A new heap's cells. -/
def heapCells (P : Program) (a : Option Addr) (n c : Nat) (z : Int) : Array Value := ((zeroOf P 65).setIfInBounds 0 (.slice a n c)).setIfInBounds 1 (.int .i64 z)
set_option maxRecDepth 100000 in
theorem heap_built (a : Option Addr) (n c : Nat) (z : Int) : Try.prog.built 65 [(0, .agg #[.slice a n c]), (1, .int .i64 z)] = some (heapCells Try.prog a n c z) := by kernel_rfl
theorem heap_build (a : Option Addr) (n c : Nat) (z : Int) (w : World) : (Instr.build 65 #[(0, .agg #[.slice a n c]), (1, .int .i64 z)]).run Try.prog w = .ok (.agg (heapCells Try.prog a n c z)) w := run_build w 65 _ _ (heap_built a n c z)

theorem wpList_heapbuild {ops : Array Oper} {Q : Exit → Act → World → Prop} {rest : List Oper} {dst : Option Nat} {ty : TypeId} {pos : String} {after : Array Edge} {act : Act} {w : World} {x y : Operand} (a : Option Addr) (n c : Nat) (z : Int)
    (hx : act.eval x = .agg #[.slice a n c]) (hy : act.eval y = .int .i64 z) (h : wpList Try.prog ops Q rest (act.put dst (.agg (heapCells Try.prog a n c z))) w) :
    wpList Try.prog ops Q (⟨dst, .build 65 #[(0, x), (1, y)], ty, pos, after, none⟩ :: rest) act w := by
  refine wpList_plain rfl fun K hK => ?_
  unfold Oper.wp execOp
  simp only [Sem.run_bind, List.map_toArray, List.map_cons, List.map_nil, hx, hy, heap_build, Result.andThen_ok]
  exact hK _ _ h

set_option maxHeartbeats 400000 in
theorem new_ok (s : ByteArray) (w : World) (hm : s.size ≤ 9223372036854775807) (hE : readE s = 0) :
    Calls Try.prog 8 #[.string s, .int .i64 1] w fun e w' => (∃ p, e = .returned (.tuple #[.pointer (some p), .int .i64 0])) ∧ Below w.heap.size w w' := by
  have R := read_any s w hm
  have R' : Calls Try.prog 19 #[.string s] w fun e w' => ∃ (a : Option Addr) (n c : Nat) (P : Int), e = .returned (.tuple #[.agg #[.slice a n c], .int .i64 0, .int .i64 P]) ∧ Below w.heap.size w w' := by
    refine R.mono ?_
    rintro e w' ⟨a, n, c, vs, he, _, hb⟩
    exact ⟨a, n, c, readP s, by rw [he, hE], hb⟩
  clear R hE
  go_enter Try.func8, Try.ntmps8
  go_wp2_with fail
  refine R'.mono ?_
  rintro e w1 ⟨a, n, c, P, rfl, hb1⟩
  go_wp2_with (with_reducible refine wpList_heapbuild a n c 1 rfl rfl ?_)
  go_ret2
  exact ⟨⟨_, rfl⟩, (hb1.alloc hb1.size _).alloc (by have := hb1.size; simp; omega) _⟩

set_option maxHeartbeats 400000 in
theorem check_rs (s : ByteArray) (w : World) (hm : s.size ≤ 9223372036854775807) (x y : Int) (hx : readE s = x) (hy : readP s = y) :
    Calls Try.prog 7 #[.string s] w fun e w' => e = .returned (.tuple #[.int .i64 x, .int .i64 y]) ∧ Below w.heap.size w w' := by
  subst hx; subst hy
  go_enter Try.func7, Try.ntmps7
  go_wp2_with fail
  refine (read_any s _ hm).mono ?_
  rintro e w1 ⟨a, n, c, vs, rfl, V1, hb1⟩
  go_wp2_with fail
  go_ret2
  exact ⟨rfl, hb1.alloc hb1.size _⟩

theorem first_byte (s : ByteArray) (cs : List (Int × List (Int × Int))) (h : Sch cs) (e : bytesOf s = txS cs) : bytesOf (s.extract 0 1) = [(cs[0]?.getD (0, [])).1] ∧ 1 ≤ s.size := by
  have hlo := h.lo
  obtain ⟨c, r, rfl⟩ : ∃ c r, cs = c :: r := by cases cs with | nil => simp at hlo | cons c r => exact ⟨c, r, rfl⟩
  have hsz : s.size = (txS (c :: r)).length := by rw [← bytesOf_len, e]
  have h1 : 1 ≤ s.size := by rw [hsz]; simp [txS, txC]
  refine ⟨?_, h1⟩
  have : bytesOf (s.extract 0 1) = (bytesOf s).take 1 := by
    simp only [bytesOf]
    rw [Lib.extract_data]; simp
  rw [this, e]
  simp [txS, txC]

set_option maxHeartbeats 1000000 in
theorem written_walk (w : World) (a : Option Addr) (len cap : Nat) (Z : Nat → Int) (hm : len ≤ 9223372036854775807) (hbd : ∀ i, -9223372036854775808 ≤ Z i ∧ Z i ≤ 9223372036854775807)
    (hrow : 0 < len → ∃ g o, a = some ⟨g, o, none⟩ ∧ g < w.heap.size ∧ ∀ i, i < len → w.cell? ⟨g, o + i, none⟩ = some (.int .i64 (Z i))) :
    Calls Try.prog 3 #[.slice a len cap] w fun e w' => e = .returned (.bool true) ∧ Below w.heap.size w w' := by
  have D0 : DS (w.alloc (.cells #[.slice a len cap, .int .i64 0] 25)) w.heap.size a len cap 0 Z := by
    refine ⟨by go_simp, by go_simp, by go_simp, Nat.zero_le _, hm, hbd, fun h0 => ?_⟩
    obtain ⟨g, o, e, hg, hc⟩ := hrow h0
    refine ⟨g, o, e, hg, fun i hi => ?_⟩
    have := hc i hi
    go_simp
  clear hrow hbd hm
  go_enter Try.func3, Try.ntmps3
  go_wp2_with fail
  refine (dclasses_any _ _ a len cap 0 Z D0).mono ?_
  rintro e w1 ⟨⟨s, cs, rfl, hS, hs⟩, g1⟩
  have B1 : Below w.heap.size w w1 := below_of_gb g1 ((Below.refl _ _).alloc (Nat.le_refl _) _) (Nat.le_refl _)
  have W1 := written_ok s cs hS hs
  have W2 := written_brace s (s ++ ⟨#[125]⟩) cs hS hs (by rw [bytesOf_app, hs]; rfl)
  have F := first_byte s cs hS hs
  have W3 := written_twice s (s ++ s.extract 0 1 ++ ⟨#[123, 125]⟩) cs hS hs (by rw [bytesOf_app, bytesOf_app, hs, F.1]; simp; rfl)
  have hsz : s.size ≤ 156 := (readR_run s cs hS hs).2
  have h1 : 1 ≤ s.size := F.2
  have z1 : Hid ((s ++ ⟨#[125]⟩).size ≤ 9223372036854775807) := by
    show (s ++ ⟨#[125]⟩).size ≤ 9223372036854775807
    rw [ByteArray.size_append]; show s.size + 1 ≤ _; omega
  have z2 : Hid ((s ++ s.extract 0 1 ++ ⟨#[123, 125]⟩).size ≤ 9223372036854775807) := by
    show (s ++ s.extract 0 1 ++ ⟨#[123, 125]⟩).size ≤ 9223372036854775807
    rw [ByteArray.size_append, ByteArray.size_append, ByteArray.size_extract]; show s.size + (min 1 s.size - 0) + 2 ≤ _; omega
  have HW1 : Hid _ := W1
  have HW2 : Hid _ := W2
  have HW3 : Hid _ := W3
  have hhi := hS.hi
  have hlo := hS.lo
  clear W1 W2 W3 F hS hs D0 g1
  go_wp2_with fail
  refine (check_rs s _ (by omega) 0 0 HW1.out.1 HW1.out.2.1).mono ?_
  rintro e w2 ⟨rfl, hb2⟩
  have B2 := B1.trans (hb2.mono B1.size)
  clear hb2 B1
  go_wp2_with fail
  refine (new_ok s _ (by omega) HW1.out.1).mono ?_
  rintro e w3 ⟨⟨p, rfl⟩, hb3⟩
  have B3 := B2.trans (hb3.mono B2.size)
  clear hb3 B2
  go_wp2_with fail
  refine (check_rs _ _ z1.out 2 s.size HW2.out.1 HW2.out.2).mono ?_
  rintro e w4 ⟨rfl, hb4⟩
  have B4 := B3.trans (hb4.mono B3.size)
  clear hb4 B3
  have q1 : ((s.size : Int) == (s.size : Int)) = true := by simp
  have q2 : ((s.size : Int) != (s.size : Int)) = false := by simp
  have hsl : (s.extract 0 1).size = 1 := by simp; omega
  by_cases h6 : cs.length = 6
  · have h6' : 6 ≤ cs.length := by omega
    have HW4 : Hid (readE (s ++ s.extract 0 1 ++ ⟨#[123, 125]⟩) = 2 ∧ readP (s ++ s.extract 0 1 ++ ⟨#[123, 125]⟩) = s.size) := by
      have := HW3.out; rw [if_pos h6] at this; exact this
    clear h6
    go_wp2_with fail
    refine (check_rs _ _ z2.out 2 s.size HW4.out.1 HW4.out.2).mono ?_
    rintro e w5 ⟨rfl, hb5⟩
    have B5 := B4.trans (hb5.mono B4.size)
    go_wp2_with fail
    go_ret
    exact ⟨rfl, B5⟩
  · have h6' : cs.length < 6 := by omega
    have HW4 : Hid (readE (s ++ s.extract 0 1 ++ ⟨#[123, 125]⟩) = 3 ∧ readP (s ++ s.extract 0 1 ++ ⟨#[123, 125]⟩) = s.size) := by
      have := HW3.out; rw [if_neg h6] at this; exact this
    clear h6
    go_wp2_with fail
    refine (check_rs _ _ z2.out 3 s.size HW4.out.1 HW4.out.2).mono ?_
    rintro e w5 ⟨rfl, hb5⟩
    have B5 := B4.trans (hb5.mono B4.size)
    go_wp2_with fail
    go_ret
    exact ⟨rfl, B5⟩
end Go.Proofs.Ythckelcjncnalab
