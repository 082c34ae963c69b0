import Derived.Test.YthckelcjncnalabWr1
namespace Go.Proofs.Ythckelcjncnalab
open Go.RowKit

def pickI (c n : Int) : Int := (if c < 0 then -(c + 1) else c) % n
theorem pickI_bd (c n : Int) (h : 0 < n) : 0 ≤ pickI c n ∧ pickI c n < n := ⟨Int.emod_nonneg _ (by omega), Int.emod_lt_of_pos _ h⟩

set_option maxHeartbeats 400000 in
theorem pick_any (c n : Int) (w : World) (hn : 0 < n) (hn' : n ≤ 9223372036854775807) (h1 : -9223372036854775808 ≤ c) (h2 : c ≤ 9223372036854775807) :
    Calls Try.prog 11 #[.int .i64 c, .int .i64 n] w fun e w' => e = .returned (.int .i64 (pickI c n)) ∧ w' = w := by
  by_cases h : c < 0
  · have e : pickI c n = -((c + 1).tmod n) := by
      rw [← Int.neg_tmod, Int.tmod_eq_emod_of_nonneg (by omega : 0 ≤ -(c + 1))]; simp [pickI, h]
    rw [e]
    go_enter Try.func11, Try.ntmps11
    go_wp2
    go_ret
    exact ⟨rfl, rfl⟩
  · have e : pickI c n = c % n := by simp [pickI, h]
    rw [e]
    go_enter Try.func11, Try.ntmps11
    go_wp2
    go_ret
    exact ⟨rfl, rfl⟩

theorem conv_one (w : World) (x : Int) : (convert 37 9 (.slice (some ⟨w.heap.size, 0, none⟩) 1 1)).run Try.prog (w.alloc (.cells #[.int .u8 x] 5)) = .ok (.string ⟨#[UInt8.ofNat x.toNat]⟩) (w.alloc (.cells #[.int .u8 x] 5)) := by
  rw [run_convert_bytes_string _ 37 9 5 _ _ _ Try.underlying37 Try.underlying5 Try.underlying9, run_bytesToString _ _ 1 1 [x] (by go_simp)]
  rfl
theorem bytesOf_one (x : Int) (h0 : 0 ≤ x) (h1 : x ≤ 255) : bytesOf ⟨#[UInt8.ofNat x.toNat]⟩ = [x] := by
  simp only [bytesOf, List.map_cons, List.map_nil]
  congr 1
  simp; omega

set_option maxHeartbeats 400000 in
theorem letter_any (a k : Int) (w : World) (ha : a = 65 ∨ a = 97) (h0 : 0 ≤ k) (h1 : k < 26) :
    Calls Try.prog 18 #[.int .u8 a, .int .i64 k] w fun e w' => (∃ s, e = .returned (.string s) ∧ bytesOf s = [a + k]) ∧ Below w.heap.size w w' := by
  have hb : a + k ≤ 255 := by omega
  have hb0 : 0 ≤ a := by omega
  have hcv := conv_one w (a + k)
  go_enter Try.func18, Try.ntmps18
  go_wp2
  go_ret
  exact ⟨⟨_, rfl, bytesOf_one _ (by omega) hb⟩, (Below.refl _ _).alloc (Nat.le_refl _) _⟩

theorem below_drew {B : Nat} {a w : World} (h : Below B a w) (n : Nat) : Below B a (w.drewN n) := ⟨h.os, h.tape, h.output, h.size, h.block⟩
/-- The dice in block b, over numbers Z that came in. -/
structure DS (w : World) (b : Nat) (a : Option Addr) (len cap k : Nat) (Z : Nat → Int) : Prop where
  c0 : w.cell? ⟨b, 0, none⟩ = some (.slice a len cap)
  c1 : w.cell? ⟨b, 1, none⟩ = some (.int .i64 k)
  f1 : w.frozen? ⟨b, 1, none⟩ = false
  le : k ≤ len
  m : len ≤ 9223372036854775807
  bd : ∀ i, -9223372036854775808 ≤ Z i ∧ Z i ≤ 9223372036854775807
  row : 0 < len → ∃ g o, a = some ⟨g, o, none⟩ ∧ g < b ∧ ∀ i, i < len → w.cell? ⟨g, o + i, none⟩ = some (.int .i64 (Z i))

theorem DS.blt {w : World} {b : Nat} {a : Option Addr} {len cap k : Nat} {Z : Nat → Int} (h : DS w b a len cap k Z) : b < w.heap.size := World.block_lt_of_cell? w ⟨b, 0, none⟩ h.c0
theorem DS.kept {w w' : World} {b : Nat} {a : Option Addr} {len cap k : Nat} {Z : Nat → Int} (h : DS w b a len cap k Z) (hb : Below w.heap.size w w') : DS w' b a len cap k Z := by
  have hl := h.blt
  refine ⟨(hb.cell (by exact hl)).trans h.c0, (hb.cell (by exact hl)).trans h.c1, (hb.frozen (by exact hl)).trans h.f1, h.le, h.m, h.bd, fun h0 => ?_⟩
  obtain ⟨g, o, e, hg, hc⟩ := h.row h0
  exact ⟨g, o, e, hg, fun i hi => (hb.cell (by show g < w.heap.size; omega)).trans (hc i hi)⟩
theorem DS.drewN {w : World} {b : Nat} {a : Option Addr} {len cap k : Nat} {Z : Nat → Int} (h : DS w b a len cap k Z) (n : Nat) : DS (w.drewN n) b a len cap k Z := h.kept (below_drew (Below.refl _ _) n)
theorem DS.inc {w : World} {b : Nat} {a : Option Addr} {len cap k : Nat} {Z : Nat → Int} (h : DS w b a len cap k Z) (hk : k < len) : DS (w.setCell ⟨b, 1, none⟩ (.int .i64 ((k : Int) + 1))) b a len cap (k + 1) Z := by
  obtain ⟨c0, c1, f1, le, m, bd, row⟩ := h
  refine ⟨by go_simp, by go_simp, by go_simp, hk, m, bd, fun h0 => ?_⟩
  obtain ⟨g, o, e, hg, hc⟩ := row h0
  refine ⟨g, o, e, hg, fun i hi => ?_⟩
  have := hc i hi
  have hne : g ≠ b := by omega
  go_simp

set_option maxHeartbeats 400000 in
theorem dnext_any (w : World) (b : Nat) (a : Option Addr) (len cap k : Nat) (Z : Nat → Int) (n : Int) (h : DS w b a len cap k Z) (hn : 0 < n) (hn' : n ≤ 9223372036854775807) :
    Calls Try.prog 17 #[.pointer (some ⟨b, 0, none⟩), .int .i64 n] w fun e w' => (∃ d : Nat, e = .returned (.int .i64 d) ∧ (d : Int) < n) ∧ (∃ k', DS w' b a len cap k' Z) ∧ w.grownBy w' (some b) := by
  by_cases hk : k < len
  · obtain ⟨g, o, rfl, hg, hc⟩ := h.row (by omega)
    have hck := hc k hk
    have hz := h.bd k
    have H : Hid (DS w b (some ⟨g, o, none⟩) len cap k Z) := h
    have hp := pickI_bd (Z k) n hn
    have HP : Hid (0 ≤ pickI (Z k) n ∧ pickI (Z k) n < n) := hp
    obtain ⟨c0, c1, f1, le, m, bd, row⟩ := h
    clear row bd hc hp
    have hlt : (k : Int) < (len : Int) := by omega
    go_enter Try.func17, Try.ntmps17
    go_wp2
    go_quiet (fail)
    go_wp2
    go_quiet ((go_at_call 11; exact (pick_any _ _ _ hn hn' hz.1 hz.2).mono fun _ _ h => ⟨h.1, _, h.2⟩))
    go_wp2
    go_ret
    obtain ⟨p0, p1⟩ := HP.out
    obtain ⟨d, hd⟩ := Int.eq_ofNat_of_zero_le p0
    refine ⟨⟨d, by rw [← hd]; rfl, by omega⟩, ⟨k + 1, ?_⟩, ?_⟩
    · exact (H.out.drewN _).inc hk
    · exact gb_trans (gb_drewN _ _ _) (gb_set _ _ _ _)
  · have H : Hid (DS w b a len cap k Z) := h
    obtain ⟨c0, c1, f1, le, m, bd, row⟩ := h
    have hge : len ≤ k := by omega
    clear row bd hk
    go_enter Try.func17, Try.ntmps17
    go_wp2
    go_quiet (fail)
    go_wp2
    go_ret
    exact ⟨⟨0, rfl, by omega⟩, ⟨k, H.out.drewN _⟩, gb_drewN _ _ _⟩
end Go.Proofs.Ythckelcjncnalab
