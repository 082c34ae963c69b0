import Derived.Test.YthckelcjncnalaaPk3
namespace Go.Proofs.Ythckelcjncnalaa
open Go.RowKit

theorem conv_row (w : World) (l : List Int) (hm : l.length ≤ 4096) (hl : l ≠ []) : (convert 42 9 (.slice (some ⟨w.heap.size, 0, none⟩) l.length l.length)).run Try.prog (w.alloc (.cells (cellsB l).toArray 5)) = .ok (.string (strOf l)) (w.alloc (.cells (cellsB l).toArray 5)) := by
  refine conv_back (base := 0) ⟨by rw [cellsB_len, Nat.mul_one], .inr ⟨w.heap.size, l.length, _, rfl, Nat.zero_le _, heap_alloc_new w _, Nat.le_refl _, by unfold maxLen; omega, by simp [cellsB_len], ?_⟩⟩ hl
  rw [Nat.mul_one, ← cellsB_len l]; simp
theorem bytes_eq {a b : ByteArray} (h : bytesOf a = bytesOf b) : a = b := by
  have e : ∀ l m : List UInt8, l.map (fun b => (b.toNat : Int)) = m.map (fun b => (b.toNat : Int)) → l = m := by
    intro l
    induction l with
    | nil => intro m hm; cases m with
      | nil => rfl
      | cons y m => simp at hm
    | cons x l ih => intro m hm; cases m with
      | nil => simp at hm
      | cons y m =>
        simp only [List.map_cons, List.cons.injEq] at hm
        have : x.toNat = y.toNat := by omega
        rw [ih m hm.2, UInt8.toNat_inj.1 this]
  have := e _ _ h
  cases a; cases b; simp at this; simp [this]
theorem strOf_size (l : List Int) : (strOf l).size = l.length := by simp [strOf, ByteArray.size]

theorem packPost_short {s r : ByteArray} {w w' : World} (h : ¬ 200 < s.size) (hr : bytesOf r = packL (bytesOf s)) (hb : Below w.heap.size w w') : PackPost s w (.returned (.tuple #[.string r, .int .i64 0])) w' :=
  ⟨⟨r, by rw [if_neg h], by rw [if_neg h, hr]⟩, hb⟩
theorem packPost_long {s : ByteArray} {w w' : World} (h : 200 < s.size) (hb : Below w.heap.size w w') : PackPost s w (.returned (.tuple #[.string ⟨#[]⟩, .int .i64 1])) w' :=
  ⟨⟨_, by rw [if_pos h], by rw [if_pos h]; rfl⟩, hb⟩
end Go.Proofs.Ythckelcjncnalaa
