import Derived.Test.YthckelcjncnalaaPk4
namespace Go.Proofs.Ythckelcjncnalaa
open Go.RowKit

theorem bytesOf_extract (s : ByteArray) (a b : Nat) : bytesOf (s.extract a b) = ((bytesOf s).drop a).take (b - a) := by
  simp only [bytesOf, ByteArray.data_extract, Array.toList_extract, List.extract_eq_take_drop, List.map_take, List.map_drop]
theorem unp_false_short {c : ByteArray} {f : Nat} (h : c.size < f + 4) : unpF (bytesOf c) f = false := by
  simp only [unpF, bytesOf_len]; rw [decide_eq_false (by omega)]; rfl
theorem unp_false_long {c : ByteArray} {f : Nat} (h : f + 4 ≤ c.size) (h2 : 200 < c.size - 4 - f) : unpF (bytesOf c) f = false := by
  simp only [unpF, bytesOf_len, List.length_take, List.length_drop]
  rw [decide_eq_false (p := min _ _ ≤ 200) (by omega)]; simp
theorem unp_eq {c r : ByteArray} {f : Nat} (h : f + 4 ≤ c.size) (h2 : ¬ 200 < c.size - 4 - f) (hr : bytesOf r = packL (bytesOf (c.extract f (c.size - 4)))) : unpF (bytesOf c) f = (r.toList == c.toList) := by
  simp only [unpF, bytesOf_len, List.length_take, List.length_drop]
  rw [decide_eq_true h, decide_eq_true (p := min _ _ ≤ 200) (by omega), ← bytesOf_extract, ← hr]
  simp only [Bool.true_and]
  by_cases e : r = c
  · subst e; simp
  · have : bytesOf r ≠ bytesOf c := fun h => e (bytes_eq h)
    have h2 : r.toList ≠ c.toList := fun h => this (by
      rw [ByteArray.toList_eq, ByteArray.toList_eq] at h
      simp only [bytesOf, h])
    rw [beq_eq_false_iff_ne.2 this, beq_eq_false_iff_ne.2 h2]
def UnpPost (c : ByteArray) (w : World) (e : Ending) (w' : World) : Prop :=
  (∃ (r : ByteArray) (x : Int), e = .returned (.tuple #[.string r, .int .i64 x]) ∧ ((∃ l, unpackL (bytesOf c) = some l ∧ bytesOf r = l ∧ x = 0) ∨ (unpackL (bytesOf c) = none ∧ bytesOf r = [] ∧ x = 16))) ∧ Below w.heap.size w w'
theorem unpPost_none {c : ByteArray} {w w' : World} (h3 : unpF (bytesOf c) 3 = false) (h4 : unpF (bytesOf c) 4 = false) (hb : Below w.heap.size w w') : UnpPost c w (.returned (.tuple #[.string ⟨#[]⟩, .int .i64 16])) w' :=
  ⟨⟨_, _, rfl, .inr ⟨by rw [unpackL, if_neg (by rw [h3]; decide), if_neg (by rw [h4]; decide)], rfl, rfl⟩⟩, hb⟩
theorem unpPost_some {c : ByteArray} {w w' : World} {f : Nat} (hf : f = 3 ∨ (f = 4 ∧ unpF (bytesOf c) 3 = false)) (h : unpF (bytesOf c) f = true) (hb : Below w.heap.size w w') : UnpPost c w (.returned (.tuple #[.string (c.extract f (c.size - 4)), .int .i64 0])) w' := by
  refine ⟨⟨_, _, rfl, .inl ⟨_, ?_, rfl, rfl⟩⟩, hb⟩
  rw [bytesOf_extract]
  rcases hf with rfl | ⟨rfl, h3⟩
  · rw [unpackL, if_pos h, bytesOf_len]
  · rw [unpackL, if_neg (by rw [h3]; decide), if_pos h, bytesOf_len]

/-- The fourth place on is tried where the third has failed. -/
def Tried (c : ByteArray) (k : Nat) : Prop := ∀ f, 3 ≤ f → f < k → unpF (bytesOf c) f = false
theorem Tried.step {c : ByteArray} {k : Nat} (h : Tried c k) (hk : unpF (bytesOf c) k = false) : Tried c (k + 1) := fun f h3 hf => by
  by_cases e : f = k
  · rw [e]; exact hk
  · exact h f h3 (by omega)

set_option maxHeartbeats 400000 in
set_option maxRecDepth 20000 in
theorem punp_any (c : ByteArray) (w : World) (hm : c.size ≤ 9223372036854775807) :
    Calls Try.prog 22 #[.string c] w (UnpPost c w) := by
  go_enter Try.func22, Try.ntmps22
  go_wp2_with fail
  refine (digits_any 200 _ (by decide)).mono ?_
  rintro e w1 ⟨v1, rfl, D1, B1⟩
  obtain ⟨g, cp, rfl, _, _, _⟩ := D1.cells (vint_ne _)
  have hl2 : (vint 200).length = 2 := rfl
  rw [hl2]
  clear D1 hl2
  have hs1 := B1.size
  go_wp2
  go_loopw [5] (fun i wr => ∃ k : Nat, 1 ≤ k ∧ k ≤ 3 ∧ i = .int .i64 k ∧ Hid (Tried c (k + 2)) ∧ Below w.heap.size w wr) (fun i _ => 3 - (intOf i).toNat)
  case atStart => exact ⟨1, Nat.le_refl _, by omega, rfl, fun f _ _ => by omega, B1⟩
  case round =>
    obtain ⟨k, hk1, hk3, rfl, HT, B⟩ := hrel
    by_cases h3 : k = 3
    · subst h3
      have H34 : Hid (unpF (bytesOf c) 3 = false ∧ unpF (bytesOf c) 4 = false) := ⟨HT.out 3 (by omega) (by omega), HT.out 4 (by omega) (by omega)⟩
      go_wp2
      go_ret2
      exact unpPost_none H34.out.1 H34.out.2 B
    by_cases hsh : c.size < k + 2 + 4
    · have H34 : Hid (unpF (bytesOf c) 3 = false ∧ unpF (bytesOf c) 4 = false) := by
        have e := unp_false_short (c := c) (f := k + 2) hsh
        rcases (by omega : k = 1 ∨ k = 2) with rfl | rfl
        · exact ⟨e, unp_false_short (by omega)⟩
        · exact ⟨HT.out 3 (by omega) (by omega), e⟩
      go_wp2
      go_ret2
      exact unpPost_none H34.out.1 H34.out.2 B
    have hex : (c.extract (2 + k) (c.size - 4)).size = c.size - 4 - (2 + k) := by rw [ByteArray.size_extract]; omega
    go_wp2_with fail
    refine (ppack_any _ wr (by rw [hex]; omega)).mono ?_
    rintro e w2 ⟨⟨r, rfl, hr⟩, hb2⟩
    have B2 := B.trans (hb2.mono B.size)
    rw [hex] at hr ⊢
    by_cases hlo : 200 < c.size - 4 - (2 + k)
    · have hT : Tried c (k + 1 + 2) := HT.out.step (unp_false_long (by omega) (by omega))
      rw [if_pos hlo] at hr ⊢
      have HT' : Hid (Tried c (k + 1 + 2)) := hT
      clear hT HT hb2 hr
      go_wp2
      exact ⟨⟨k + 1, by omega, by omega, rfl, HT', B2⟩, by simp [intOf]; omega⟩
    · rw [if_neg hlo] at hr ⊢
      have hu : unpF (bytesOf c) (2 + k) = (r.toList == c.toList) := unp_eq (by omega) (by omega) hr
      clear hb2 hr hex
      cases hq : (r.toList == c.toList) with
      | true =>
        rw [hq] at hu
        have HU : Hid (unpF (bytesOf c) (2 + k) = true) := hu
        clear hu
        go_wp2
        go_ret2
        refine unpPost_some ?_ HU.out B2
        rcases (by omega : k = 1 ∨ k = 2) with rfl | rfl
        · exact .inl rfl
        · exact .inr ⟨rfl, HT.out 3 (by omega) (by omega)⟩
      | false =>
        rw [hq] at hu
        have HT' : Hid (Tried c (k + 1 + 2)) := HT.out.step (by rw [Nat.add_comm k 2]; exact hu)
        clear hu HT
        go_wp2
        exact ⟨⟨k + 1, by omega, by omega, rfl, HT', B2⟩, by simp [intOf]; omega⟩

set_option maxHeartbeats 400000 in
theorem mpack_any (s : ByteArray) (w : World) (hm : s.size ≤ 9223372036854775807) : Calls Try.prog 7 #[.string s] w (PackPost s w) := by
  go_enter Try.func7, Try.ntmps7
  go_wp2_with fail
  refine (ppack_any s w hm).mono ?_
  rintro e w2 ⟨⟨r, rfl, hr⟩, hb2⟩
  have HR : Hid (PackPost s w (.returned (.tuple #[.string r, .int .i64 (if 200 < s.size then 1 else 0)])) w2) := ⟨⟨r, rfl, hr⟩, hb2⟩
  clear hr hb2
  obtain ⟨x, hx⟩ : ∃ x : Int, x = if 200 < s.size then 1 else 0 := ⟨_, rfl⟩
  rw [← hx] at HR ⊢
  clear hx
  go_wp2
  go_ret2
  exact HR.out
set_option maxHeartbeats 400000 in
theorem munp_any (c : ByteArray) (w : World) (hm : c.size ≤ 9223372036854775807) : Calls Try.prog 9 #[.string c] w (UnpPost c w) := by
  go_enter Try.func9, Try.ntmps9
  go_wp2_with fail
  refine (punp_any c w hm).mono ?_
  rintro e w2 ⟨⟨r, x, rfl, hr⟩, hb2⟩
  have HR : Hid (UnpPost c w (.returned (.tuple #[.string r, .int .i64 x])) w2) := ⟨⟨r, x, rfl, hr⟩, hb2⟩
  clear hr hb2
  go_wp2
  go_ret2
  exact HR.out

end Go.Proofs.Ythckelcjncnalaa
