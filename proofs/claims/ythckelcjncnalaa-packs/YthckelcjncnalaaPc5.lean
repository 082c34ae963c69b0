import Derived.Test.YthckelcjncnalaaPk5
import Derived.Test.YthckelcjncnalaaPc4
namespace Go.Proofs.Ythckelcjncnalaa
open Go.RowKit

set_option maxHeartbeats 400000 in
set_option maxRecDepth 20000 in
theorem runp_any (c : ByteArray) (w : World) (hm : c.size ≤ 9223372036854775807) :
    Calls Try.prog 10 #[.string c] w (UnpPost c w) := by
  go_enter Try.func10, Try.ntmps10
  go_wp2
  go_loopw [4] (fun i wr => ∃ k : Nat, 3 ≤ k ∧ k ≤ 5 ∧ i = .int .i64 k ∧ Hid (Tried c k) ∧ Below w.heap.size w wr) (fun i _ => 5 - (intOf i).toNat)
  case atStart => exact ⟨3, Nat.le_refl _, by omega, rfl, fun f _ _ => by omega, Below.refl _ _⟩
  case round =>
    obtain ⟨k, hk1, hk3, rfl, HT, B⟩ := hrel
    by_cases h3 : k = 5
    · subst h3
      have H34 : Hid (unpF (bytesOf c) 3 = false ∧ unpF (bytesOf c) 4 = false) := ⟨HT.out 3 (by omega) (by omega), HT.out 4 (by omega) (by omega)⟩
      go_wp2
      go_ret2
      exact unpPost_none H34.out.1 H34.out.2 B
    by_cases hsh : c.size < k + 4
    · have H34 : Hid (unpF (bytesOf c) 3 = false ∧ unpF (bytesOf c) 4 = false) := by
        have e := unp_false_short (c := c) (f := k) hsh
        rcases (by omega : k = 3 ∨ k = 4) with rfl | rfl
        · exact ⟨e, unp_false_short (by omega)⟩
        · exact ⟨HT.out 3 (by omega) (by omega), e⟩
      go_wp2
      go_ret2
      exact unpPost_none H34.out.1 H34.out.2 B
    have hex : (c.extract k (c.size - 4)).size = c.size - 4 - k := by rw [ByteArray.size_extract]; omega
    go_wp2_with fail
    refine (rpack_any _ wr (by rw [hex]; omega)).mono ?_
    rintro e w2 ⟨⟨r, rfl, hr⟩, hb2⟩
    have B2 := B.trans (hb2.mono B.size)
    rw [hex] at hr ⊢
    by_cases hlo : 200 < c.size - 4 - k
    · have HT' : Hid (Tried c (k + 1)) := HT.out.step (unp_false_long (by omega) (by omega))
      rw [if_pos hlo] at hr ⊢
      clear HT hb2 hr
      go_wp2
      exact ⟨⟨k + 1, by omega, by omega, rfl, HT', B2⟩, by simp [intOf]; omega⟩
    · rw [if_neg hlo] at hr ⊢
      have hu : unpF (bytesOf c) k = (r.toList == c.toList) := unp_eq (by omega) (by omega) hr
      clear hb2 hr hex
      cases hq : (r.toList == c.toList) with
      | true =>
        rw [hq] at hu
        have HU : Hid (unpF (bytesOf c) k = true) := hu
        clear hu
        go_wp2
        go_ret2
        refine unpPost_some ?_ HU.out B2
        rcases (by omega : k = 3 ∨ k = 4) with rfl | rfl
        · exact .inl rfl
        · exact .inr ⟨rfl, HT.out 3 (by omega) (by omega)⟩
      | false =>
        rw [hq] at hu
        have HT' : Hid (Tried c (k + 1)) := HT.out.step hu
        clear hu HT
        go_wp2
        exact ⟨⟨k + 1, by omega, by omega, rfl, HT', B2⟩, by simp [intOf]; omega⟩

set_option maxHeartbeats 400000 in
set_option maxRecDepth 20000 in
theorem packs_walk (s : ByteArray) (w : World) (hm : s.size ≤ 9223372036854775807) : Calls Try.prog 3 #[.string s] w fun e w' => e = .returned (.bool true) ∧ Below w.heap.size w w' := by
  go_enter Try.func3, Try.ntmps3
  go_wp2_with fail
  refine (mpack_any s w hm).mono ?_
  rintro e w1 ⟨⟨r1, rfl, hr1⟩, hb1⟩
  obtain ⟨x, hx⟩ : ∃ x : Int, x = if 200 < s.size then 1 else 0 := ⟨_, rfl⟩
  rw [← hx]
  have HX : Hid (x = if 200 < s.size then 1 else 0) := hx
  clear hx
  go_wp2_with fail
  refine (rpack_any s w1 hm).mono ?_
  rintro e w2 ⟨⟨r2, rfl, hr2⟩, hb2⟩
  have hr : r2 = r1 := bytes_eq (hr2.trans hr1.symm)
  have B2 := hb1.trans (hb2.mono hb1.size)
  rw [← HX.out]
  subst hr
  clear hr1 hr2 hb1 hb2
  go_wp2
  go_ret
  exact ⟨rfl, B2⟩
set_option maxHeartbeats 400000 in
set_option maxRecDepth 20000 in
theorem unpacks_walk (c : ByteArray) (w : World) (hm : c.size ≤ 9223372036854775807) : Calls Try.prog 4 #[.string c] w fun e w' => e = .returned (.bool true) ∧ Below w.heap.size w w' := by
  go_enter Try.func4, Try.ntmps4
  go_wp2_with fail
  refine (munp_any c w hm).mono ?_
  rintro e w1 ⟨⟨r1, x1, rfl, hr1⟩, hb1⟩
  go_wp2_with fail
  refine (runp_any c w1 hm).mono ?_
  rintro e w2 ⟨⟨r2, x2, rfl, hr2⟩, hb2⟩
  have hr : r2 = r1 ∧ x2 = x1 := by
    rcases hr1 with ⟨l, h1, h2, h3⟩ | ⟨h1, h2, h3⟩ <;> rcases hr2 with ⟨m, g1, g2, g3⟩ | ⟨g1, g2, g3⟩
    · rw [h1] at g1; cases g1; exact ⟨bytes_eq (g2.trans h2.symm), by rw [g3, h3]⟩
    · rw [h1] at g1; cases g1
    · rw [h1] at g1; cases g1
    · exact ⟨bytes_eq (g2.trans h2.symm), by rw [g3, h3]⟩
  have B2 := hb1.trans (hb2.mono hb1.size)
  obtain ⟨rfl, rfl⟩ := hr
  clear hr1 hr2 hb1 hb2
  go_wp2
  go_ret
  exact ⟨rfl, B2⟩
end Go.Proofs.Ythckelcjncnalaa
