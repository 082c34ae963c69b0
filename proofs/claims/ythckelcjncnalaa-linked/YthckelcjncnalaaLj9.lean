import Derived.Test.YthckelcjncnalaaLj7
import Derived.Test.YthckelcjncnalaaLj8
namespace Go.Proofs.Ythckelcjncnalaa
open Go.RowKit

set_option maxRecDepth 20000 in
set_option maxHeartbeats 1000000 in
theorem linked_walk (size : Int) (h1 : -9223372036854775808 ≤ size) (h2 : size ≤ 9223372036854775807) (a : Option Addr) (len cap : Nat) (O : Nat → StV) (w : World) (hS : ScL w a len O) (hlen : len + 1 ≤ 4398046511104) :
    Calls Try.prog 5 #[.int .i64 size, .slice a len cap] w fun e w' => e = .returned (.bool true) ∧ Below w.heap.size w w' := by
  have C := begun_any size h1 h2 w
  have HS : Hid (ScL w a len O) := hS
  clear hS h1 h2
  go_enter Try.func5, Try.ntmps5
  go_wp2_with fail
  refine C.mono ?_
  rintro e w1 ⟨gb, lo, hi, hb, sv, vs, sz, rfl, G1⟩
  have C1 := gscript_any G1 a len cap O HS.out hlen
  clear C G1
  go_wp2_with fail
  refine C1.mono ?_
  rintro e w2 ⟨rfl, G2⟩
  obtain ⟨B2, nv, p, G, L, hm⟩ := id G2
  have C2 := glook_any L (by omega)
  have HG2 : Hid (GSt w.heap.size gb lo hi hb sv vs sz len w w2) := G2
  have HL : Hid (LK w2 w.heap.size gb lo hi hb sv vs sz nv p G) := L
  clear C1 G2 B2 L
  go_wp2_with fail
  refine C2.mono ?_
  rintro e w3 ⟨rfl, B3⟩
  have C3 := gwalk_any (HG2.out.ok (HL.out.bB B3) (HL.out.below B3) hm) (by omega)
  clear C2 B3 HG2 HL
  go_wp2_with fail
  refine C3.mono ?_
  rintro e w4 ⟨rfl, G4⟩
  have HG4 : Hid (GSt w.heap.size gb lo hi hb sv vs sz len w w4) := G4
  clear C3 G4
  go_wp2
  go_ret
  exact ⟨rfl, HG4.out.1⟩
end Go.Proofs.Ythckelcjncnalaa
