import Derived.Test.YthckelcjncnalaaSc1
import Derived.Laws.BitsLemmas
import Derived.Laws.Bits64
namespace Go.Proofs.Ythckelcjncnalaa
open Go.RowKit

theorem wraps_u64 (n : Int) (h₀ : 0 ≤ n) (h₁ : n < 2 ^ 64) : IntKind.u64.wrap n = n := by rw [IntKind.wrap_u64]; omega
theorem mask_zero (v g : Int) (n : Nat) (M : Int) (hn : n = 8 ∧ M = 256 ∨ n = 16 ∧ M = 65536 ∨ n = 32 ∧ M = 4294967296) (hd : (v - g) % M = 0) : bits BinOp.and IntKind.u64 (IntKind.u64.wrap (IntKind.u64.wrap v - IntKind.u64.wrap g)) (M - 1) = 0 := by
  have hx : IntKind.u64.wrap (IntKind.u64.wrap v - IntKind.u64.wrap g) = (v % 18446744073709551616 - g % 18446744073709551616) % 18446744073709551616 := by rw [IntKind.wrap_u64, IntKind.wrap_u64, IntKind.wrap_u64]
  rw [hx]
  rcases hn with ⟨rfl, rfl⟩ | ⟨rfl, rfl⟩ | ⟨rfl, rfl⟩
  · have h := bits_mask .u64 64 (by decide) wraps_u64 8 (by decide) ((v % 18446744073709551616 - g % 18446744073709551616) % 18446744073709551616) (by omega) (by omega)
    have e : ((2 : Int) ^ 8 - 1) = 256 - 1 := by decide
    have e2 : ((2 : Int) ^ 8) = 256 := by decide
    rw [e, e2] at h
    rw [h]; omega
  · have h := bits_mask .u64 64 (by decide) wraps_u64 16 (by decide) ((v % 18446744073709551616 - g % 18446744073709551616) % 18446744073709551616) (by omega) (by omega)
    have e : ((2 : Int) ^ 16 - 1) = 65536 - 1 := by decide
    have e2 : ((2 : Int) ^ 16) = 65536 := by decide
    rw [e, e2] at h
    rw [h]; omega
  · have h := bits_mask .u64 64 (by decide) wraps_u64 32 (by decide) ((v % 18446744073709551616 - g % 18446744073709551616) % 18446744073709551616) (by omega) (by omega)
    have e : ((2 : Int) ^ 32 - 1) = 4294967296 - 1 := by decide
    have e2 : ((2 : Int) ^ 32) = 4294967296 := by decide
    rw [e, e2] at h
    rw [h]; omega
set_option maxHeartbeats 400000 in
theorem fits_any (v g lo hi : Int) (n : Nat) (m : Int) (w : World) (h3 : lo ≤ g) (h4 : g ≤ hi) (hm : n = 8 ∧ m = 256 ∨ n = 16 ∧ m = 65536 ∨ n = 32 ∧ m = 4294967296) (hd : (v - g) % m = 0) :
    Calls Try.prog 19 #[.int .i64 v, .int .i64 g, .int .i64 lo, .int .i64 hi, .int .u64 m] w fun e w' => e = .returned (.bool true) ∧ w' = w := by
  have hz := mask_zero v g n m hm hd
  have hm' : m = 256 ∨ m = 65536 ∨ m = 4294967296 := by omega
  clear hd hm
  go_enter Try.func19, Try.ntmps19
  go_wp2
  go_ret
  exact ⟨rfl, rfl⟩
end Go.Proofs.Ythckelcjncnalaa
