import Derived.Test.YthckelcjncnalaaDoorMa3
import Derived.Test.YthckelcjncnalaaDoorGs2
namespace Go.Proofs.YthckelcjncnalaaDoor
open Go.RowKit

set_option maxHeartbeats 400000 in
theorem check_any (s : ByteArray) (w : World) (hm : s.size ≤ 9223372036854775807) :
    Calls Tryd.prog 5 #[.string s] w fun e w' => e = .returned (.tuple #[.int .i64 (readE s), .int .i64 (readP s)]) ∧ Below w.heap.size w w' := by
  go_enter Tryd.func5, Tryd.ntmps5
  go_wp2_with (go_at_call 9; refine (read_any s _ hm).mono ?_; rintro e w1 ⟨a, n, c, vs, rfl, V1, hb1⟩)
  go_ret2
  exact ⟨rfl, hb1.alloc hb1.size _⟩

/-- Schema answers as Read does. -/
theorem schema_rs (s : ByteArray) (w : World) (hm : s.size ≤ 9223372036854775807) (hE : Ends w) :
    Calls Tryd.prog 6 #[.string s] w fun e w' => ∃ (a : Option Addr) (n c : Nat), e = .returned (.tuple #[.slice a n c, .int .i64 (readE s), .int .i64 (readP s)]) ∧ Below w.heap.size w w' := by
  refine (schema_any s w hm hE).mono ?_
  rintro e w' ⟨a, n, c, x, y, he, hS, _, hb⟩
  obtain ⟨hx, hy⟩ := agree s x y hS
  exact ⟨a, n, c, by rw [he, hx, hy], hb⟩

set_option maxHeartbeats 400000 in
theorem checks_walk (s : ByteArray) (w : World) (hm : s.size ≤ 9223372036854775807) (hE : Ends w) :
    Calls Tryd.prog 3 #[.string s] w fun e w' => e = .returned (.bool true) ∧ Below w.heap.size w w' := by
  have HE : Hid (Ends w) := hE
  have q1 : (readE s == readE s) = true := by simp
  have q2 : (readP s == readP s) = true := by simp
  clear hE
  go_enter Tryd.func3, Tryd.ntmps3
  go_wp2_with (first | (go_at_call 5; refine (check_any s _ hm).mono ?_; rintro e w1 ⟨rfl, hb1⟩) | (go_at_call 6; refine (schema_rs s _ hm (HE.out.below hb1)).mono ?_; rintro e w2 ⟨a, n, c, rfl, hb2⟩))
  go_ret
  exact ⟨rfl, hb1.trans (hb2.mono hb1.size)⟩
end Go.Proofs.YthckelcjncnalaaDoor
