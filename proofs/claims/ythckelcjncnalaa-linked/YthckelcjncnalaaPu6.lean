import Derived.Test.YthckelcjncnalaaPu5
namespace Go.Proofs.Ythckelcjncnalaa
open Go.RowKit

/-- A number wrapped to a kind. -/
def wrK (k v : Int) : Int := if k = 98 then v % 256 else if k = 104 then (v + 32768) % 65536 - 32768 else if k = 119 then (v + 2147483648) % 4294967296 - 2147483648 else v
theorem ret_i64 {a b : Int} (h : a = b) : Ending.returned (.int .i64 a) = .returned (.int .i64 b) := by rw [h]
theorem wrap_i16 (v : Int) : IntKind.i16.wrap v = (v + 32768) % 65536 - 32768 := by
  simp [IntKind.wrap, IntKind.bits, IntKind.signed]; split <;> omega
theorem wrK_bd (k v : Int) (h1 : -9223372036854775808 ≤ v) (h2 : v ≤ 9223372036854775807) : -9223372036854775808 ≤ wrK k v ∧ wrK k v ≤ 9223372036854775807 := by
  unfold wrK; split
  · omega
  · split
    · omega
    · split <;> omega
theorem gb_below_drewN (w : World) (n : Nat) : Below w.heap.size w (w.drewN n) := ⟨rfl, rfl, rfl, Nat.le_refl _, fun _ _ => rfl⟩
end Go.Proofs.Ythckelcjncnalaa
