import Derived.Test.YthckelcjncnalabKz05
import Derived.Deep.RegionWith
namespace Go.Proofs.Ythckelcjncnalab
open Go.RowKit

def pickI (c n : Int) : Int := (if c < 0 then -(c + 1) else c) % n
theorem pickI_bd (c n : Int) (h : 0 < n) : 0 ≤ pickI c n ∧ pickI c n < n := ⟨Int.emod_nonneg _ (by omega), Int.emod_lt_of_pos _ h⟩

set_option maxHeartbeats 400000 in
theorem pick_any (c n : Int) (w : World) (hn : 0 < n) (hn' : n ≤ 9223372036854775807) (h1 : -9223372036854775808 ≤ c) (h2 : c ≤ 9223372036854775807) :
    Calls Try.prog 11 #[.int .i64 c, .int .i64 n] w fun e w' => e = .returned (.int .i64 (pickI c n)) ∧ w' = w := by
  by_cases h : c < 0
  · have e : pickI c n = -((c + 1).tmod n) := by
      rw [← Int.neg_tmod, Int.tmod_eq_emod_of_nonneg (by omega : 0 ≤ -(c + 1))]; simp [pickI, h]
    rw [e]
    go_enter Try.func11, Try.ntmps11
    go_wp2
    go_ret
    exact ⟨rfl, rfl⟩
  · have e : pickI c n = c % n := by simp [pickI, h]
    rw [e]
    go_enter Try.func11, Try.ntmps11
    go_wp2
    go_ret
    exact ⟨rfl, rfl⟩

theorem conv_one (w : World) (x : Int) : (convert 37 9 (.slice (some ⟨w.heap.size, 0, none⟩) 1 1)).run Try.prog (w.alloc (.cells #[.int .u8 x] 5)) = .ok (.string ⟨#[UInt8.ofNat x.toNat]⟩) (w.alloc (.cells #[.int .u8 x] 5)) := by
  rw [run_convert_bytes_string _ 37 9 5 _ _ _ Try.underlying37 Try.underlying5 Try.underlying9, run_bytesToString _ _ 1 1 [x] (by go_simp)]
  rfl
theorem bytesOf_one (x : Int) (h0 : 0 ≤ x) (h1 : x ≤ 255) : bytesOf ⟨#[UInt8.ofNat x.toNat]⟩ = [x] := by
  simp only [bytesOf, List.map_cons, List.map_nil]
  congr 1
  simp; omega

theorem below_drew {B : Nat} {a w : World} (h : Below B a w) (n : Nat) : Below B a (w.drewN n) := ⟨h.os, h.tape, h.output, h.size, h.block⟩
/-- The dice lie in block b, over numbers Z that came in. -/
structure DS (w : World) (b : Nat) (a : Option Addr) (len cap k : Nat) (Z : Nat → Int) : Prop where
  c0 : w.cell? ⟨b, 0, none⟩ = some (.slice a len cap)
  c1 : w.cell? ⟨b, 1, none⟩ = some (.int .i64 k)
  f1 : w.frozen? ⟨b, 1, none⟩ = false
  le : k ≤ len
  m : len ≤ 9223372036854775807
  bd : ∀ i, -9223372036854775808 ≤ Z i ∧ Z i ≤ 9223372036854775807
  row : 0 < len → ∃ g o, a = some ⟨g, o, none⟩ ∧ g < b ∧ ∀ i, i < len → w.cell? ⟨g, o + i, none⟩ = some (.int .i64 (Z i))

theorem DS.blt {w : World} {b : Nat} {a : Option Addr} {len cap k : Nat} {Z : Nat → Int} (h : DS w b a len cap k Z) : b < w.heap.size := World.block_lt_of_cell? w ⟨b, 0, none⟩ h.c0
theorem DS.kept {w w' : World} {b : Nat} {a : Option Addr} {len cap k : Nat} {Z : Nat → Int} (h : DS w b a len cap k Z) (hb : Below w.heap.size w w') : DS w' b a len cap k Z := by
  have hl := h.blt
  refine ⟨(hb.cell (by exact hl)).trans h.c0, (hb.cell (by exact hl)).trans h.c1, (hb.frozen (by exact hl)).trans h.f1, h.le, h.m, h.bd, fun h0 => ?_⟩
  obtain ⟨g, o, e, hg, hc⟩ := h.row h0
  exact ⟨g, o, e, hg, fun i hi => (hb.cell (by show g < w.heap.size; omega)).trans (hc i hi)⟩
theorem DS.drewN {w : World} {b : Nat} {a : Option Addr} {len cap k : Nat} {Z : Nat → Int} (h : DS w b a len cap k Z) (n : Nat) : DS (w.drewN n) b a len cap k Z := h.kept (below_drew (Below.refl _ _) n)
theorem DS.inc {w : World} {b : Nat} {a : Option Addr} {len cap k : Nat} {Z : Nat → Int} (h : DS w b a len cap k Z) (hk : k < len) : DS (w.setCell ⟨b, 1, none⟩ (.int .i64 ((k : Int) + 1))) b a len cap (k + 1) Z := by
  obtain ⟨c0, c1, f1, le, m, bd, row⟩ := h
  refine ⟨by go_simp, by go_simp, by go_simp, hk, m, bd, fun h0 => ?_⟩
  obtain ⟨g, o, e, hg, hc⟩ := row h0
  refine ⟨g, o, e, hg, fun i hi => ?_⟩
  have := hc i hi
  have hne : g ≠ b := by omega
  go_simp

set_option maxHeartbeats 400000 in
theorem dnext_any (w : World) (b : Nat) (a : Option Addr) (len cap k : Nat) (Z : Nat → Int) (n : Int) (h : DS w b a len cap k Z) (hn : 0 < n) (hn' : n ≤ 9223372036854775807) :
    Calls Try.prog 17 #[.pointer (some ⟨b, 0, none⟩), .int .i64 n] w fun e w' => (∃ d : Nat, e = .returned (.int .i64 d) ∧ (d : Int) < n) ∧ (∃ k', DS w' b a len cap k' Z) ∧ w.grownBy w' (some b) := by
  by_cases hk : k < len
  · obtain ⟨g, o, rfl, hg, hc⟩ := h.row (by omega)
    have hck := hc k hk
    have hz := h.bd k
    have H : Hid (DS w b (some ⟨g, o, none⟩) len cap k Z) := h
    have hp := pickI_bd (Z k) n hn
    have HP : Hid (0 ≤ pickI (Z k) n ∧ pickI (Z k) n < n) := hp
    obtain ⟨c0, c1, f1, le, m, bd, row⟩ := h
    clear row bd hc hp
    have hlt : (k : Int) < (len : Int) := by omega
    go_enter Try.func17, Try.ntmps17
    go_wp2
    go_quiet (fail)
    go_wp2
    go_quiet ((go_at_call 11; exact (pick_any _ _ _ hn hn' hz.1 hz.2).mono fun _ _ h => ⟨h.1, _, h.2⟩))
    go_wp2
    go_ret
    obtain ⟨p0, p1⟩ := HP.out
    obtain ⟨d, hd⟩ := Int.eq_ofNat_of_zero_le p0
    refine ⟨⟨d, by rw [← hd]; rfl, by omega⟩, ⟨k + 1, ?_⟩, ?_⟩
    · exact (H.out.drewN _).inc hk
    · exact gb_trans (gb_drewN _ _ _) (gb_set _ _ _ _)
  · have H : Hid (DS w b a len cap k Z) := h
    obtain ⟨c0, c1, f1, le, m, bd, row⟩ := h
    have hge : len ≤ k := by omega
    clear row bd hk
    go_enter Try.func17, Try.ntmps17
    go_wp2
    go_quiet (fail)
    go_wp2
    go_ret
    exact ⟨⟨0, rfl, by omega⟩, ⟨k, H.out.drewN _⟩, gb_drewN _ _ _⟩
theorem conv_cell (W : World) (b : Nat) (x : Int) (h : W.cell? ⟨b, 0, none⟩ = some (.int .u8 x)) : (convert 37 9 (.slice (some ⟨b, 0, none⟩) 1 1)).run Try.prog W = .ok (.string ⟨#[UInt8.ofNat x.toNat]⟩) W := by
  rw [run_convert_bytes_string _ 37 9 5 _ _ _ Try.underlying37 Try.underlying5 Try.underlying9, run_bytesToString _ _ 1 1 [x] (by go_simp)]
  rfl
def dgS (r : Nat) : ByteArray := ⟨#[UInt8.ofNat (48 + (r : Int)).toNat]⟩
theorem conv_dig (W : World) (b r : Nat) (h : W.cell? ⟨b, 0, none⟩ = some (.int .u8 (48 + (r : Int)))) : (convert 37 9 (.slice (some ⟨b, 0, none⟩) 1 1)).run Try.prog W = .ok (.string (dgS r)) W := conv_cell W b _ h
theorem dgS_bytes (r : Nat) (h : r < 10) : bytesOf (dgS r) = [48 + (r : Int)] := bytesOf_one _ (by omega) (by omega)
set_option maxHeartbeats 1000000 in
set_option maxRecDepth 20000 in
theorem digits_any : ∀ n : Nat, n < 1000000000 → ∀ w : World, Calls Try.prog 54 #[.int .i64 n] w fun e w' => (∃ s, e = .returned (.string s) ∧ bytesOf s = dgL n) ∧ Below w.heap.size w w' := by
  intro n
  induction n using Nat.strongRecOn with
  | ind n ih =>
    intro hn w
    by_cases h : n < 10
    · have hcv := conv_one w (48 + (n : Int))
      have HD : Hid (dgL n = [48 + (n : Int)]) := dgL_lt h
      have hb : 48 + (n : Int) ≤ 255 := by omega
      have h' : (n : Int) < 10 := by omega
      clear ih
      go_enter Try.func54, Try.ntmps54
      go_wp2
      go_ret
      exact ⟨⟨_, rfl, by rw [HD.out]; exact bytesOf_one _ (by omega) hb⟩, (Below.refl _ _).alloc (Nat.le_refl _) _⟩
    · have HD : Hid (dgL n = dgL (n / 10) ++ [48 + ((n % 10 : Nat) : Int)]) := dgL_ge h
      have C := ih (n / 10) (by omega) (by omega)
      have e1 : (n : Int).tdiv 10 = ((n / 10 : Nat) : Int) := by rw [Int.tdiv_eq_ediv_of_nonneg (by omega)]; omega
      have e2 : (n : Int).tmod 10 = ((n % 10 : Nat) : Int) := by rw [Int.tmod_eq_emod_of_nonneg (by omega)]; omega
      have h' : ¬ (n : Int) < 10 := by omega
      obtain ⟨q, hq⟩ : ∃ q, q = n / 10 := ⟨_, rfl⟩
      obtain ⟨r, hr⟩ : ∃ r, r = n % 10 := ⟨_, rfl⟩
      have hr10 : r < 10 := by omega
      rw [← hq] at C e1 HD
      rw [← hr] at e2 HD
      have HL : Hid ((dgL q).length ≤ 9) := dgL_len 8 q (by simp; omega)
      have hq9 : q < 1000000000 := by omega
      have x1 : IntKind.i64.wrap (q : Int) = q := by rw [IntKind.wrap_i64]; omega
      have x2 : IntKind.i64.wrap (48 + (r : Int)) = 48 + r := by rw [IntKind.wrap_i64]; omega
      have x3 : IntKind.u8.wrap (48 + (r : Int)) = 48 + r := by rw [IntKind.wrap_u8]; omega
      have hcv := conv_dig (w.alloc (.cells #[.int .u8 (48 + (r : Int))] 5)).drew w.heap.size r (by go_simp)
      have C' : ∀ W : World, Calls Try.prog 54 #[.int .i64 q] W fun e w' => (∃ s, e = .returned (.string s) ∧ Hid (bytesOf s = dgL q) ∧ s.size ≤ 9) ∧ Below W.heap.size W w' := fun W => (C W).mono fun e w' ⟨⟨s, h1, h2⟩, h3⟩ => ⟨⟨s, h1, h2, by rw [← bytesOf_len, h2]; exact HL.out⟩, h3⟩
      have hd1 : (dgS r).size = 1 := rfl
      clear ih hq hr h hn C
      go_enter Try.func54, Try.ntmps54
      go_wp2
      go_region_with (go_at_call 54; refine (C' _).mono ?_; rintro e w1 ⟨⟨s, rfl, hs, hz⟩, B1⟩; have hcw := conv_dig (w1.alloc (.cells #[.int .u8 (48 + (r : Int))] 5)) w1.heap.size r (by go_simp); (first | (have hlt : w.heap.size < w1.heap.size := (by have := B1.size; simp at this; omega); have hcx := conv_dig w1 w.heap.size r ((B1.cell (p := ⟨w.heap.size, 0, none⟩) (by show w.heap.size < _; simp)).trans (by go_simp))) | skip))
      all_goals
        go_wp2
        go_ret
        have B2 : Below w.heap.size w w1 := by
          first
            | exact (Below.refl _ w).drew.trans B1
            | exact (((Below.refl _ w).alloc (Nat.le_refl _) _).drew).trans (B1.mono (by simp))
        refine ⟨⟨_, rfl, by rw [bytesOf_app, hs.out, dgS_bytes r hr10, HD.out]⟩, ?_⟩
        with_reducible repeat first | exact B2 | apply Below.drew | (refine Below.alloc ?_ B2.size _)
end Go.Proofs.Ythckelcjncnalab
