import Derived.Test.YthckelcjncnalabKz45
import Derived.Test.YthckelcjncnalabKz47
namespace Go.Proofs.Ythckelcjncnalab
open Go.RowKit

theorem wrK_119i (v : Int) : wrK 119 v = wrap32 v := by unfold wrap32; rfl
theorem wrK_fit32 (w : Int) (h1 : -2147483648 ≤ w) (h2 : w ≤ 2147483647) : wrK 119 w = w := by
  have : wrK 119 w = (w + 2147483648) % 4294967296 - 2147483648 := rfl
  rw [this]; omega
theorem wrap64_104 (n : Int) : wrap64 (wrK 104 n) = wrK 104 n := by
  have : wrK 104 n = (n + 32768) % 65536 - 32768 := rfl
  rw [this]; unfold wrap64; omega
theorem wrap64_119 (n : Int) : wrap64 (wrK 119 n) = wrK 119 n := by
  have : wrK 119 n = (n + 2147483648) % 4294967296 - 2147483648 := rfl
  rw [this]; unfold wrap64; omega
theorem sum_short (v w : Int) (d : Nat) : SumS v w (d + 1) (bytesOf ⟨#[120, 45, 121, 42, 50]⟩) (wrap64 (v - wrap64 (w * 2))) := by
  have e : bytesOf ⟨#[120, 45, 121, 42, 50]⟩ = [120] ++ 45 :: ([121] ++ 42 :: dgL 2) := by rw [dgL_lt (by omega)]; rfl
  rw [e]
  exact Smm.sub (Smm.one (Prd.one Fac.x)) (Prd.more (Prd.one Fac.y) (Fac.num 2 (by omega)))
set_option maxHeartbeats 4000000 in
set_option maxRecDepth 20000 in
theorem reckoned_walk (W : World) (a : Option Addr) (len cap : Nat) (Z : Nat → Int) (v w0 : Int) (hv1 : -9223372036854775808 ≤ v) (hv2 : v ≤ 9223372036854775807) (hm : len ≤ 9223372036854775807) (hbd : ∀ i, -9223372036854775808 ≤ Z i ∧ Z i ≤ 9223372036854775807)
    (hrow : 0 < len → ∃ g o, a = some ⟨g, o, none⟩ ∧ g < W.heap.size ∧ ∀ i, i < len → W.cell? ⟨g, o + i, none⟩ = some (.int .i64 (Z i))) :
    Calls Try.prog 5 #[.slice a len cap, .int .i64 v, .int .i64 w0] W fun e W' => e = .returned (.bool true) ∧ Below W.heap.size W W' := by
  obtain ⟨W1, hW1⟩ : ∃ W1, W1 = W.alloc (.cells #[.slice a len cap, .int .i64 0] 25) := ⟨_, rfl⟩
  have D0 : DS W1 W.heap.size a len cap 0 Z := by
    rw [hW1]
    refine ⟨by go_simp, by go_simp, by go_simp, Nat.zero_le _, hm, hbd, fun h0 => ?_⟩
    obtain ⟨g, o, e, hg, hc⟩ := hrow h0
    exact ⟨g, o, e, hg, fun i hi => by have := hc i hi; go_simp⟩
  have B0 : Below W.heap.size W W1 := by rw [hW1]; exact (Below.refl _ _).alloc (Nat.le_refl _) _
  clear hrow hbd
  have PN : ∀ W2 : World, Calls Try.prog 8 #[.string rS, .int .i64 9] W2 fun e w' => Below W2.heap.size W2 w' ∧ ∃ hi hb sv vs, e = .returned (.tuple #[.pointer (some ⟨hb, 0, none⟩), .int .i64 0]) ∧ W2.heap.size ≤ hi ∧ hi ≤ hb ∧ HP w' hb sv 9 q0.R q0.K q0.N q0.F ∧ ClsIn w' W2.heap.size hi (.slice sv.a sv.n sv.c) vs rC := by
    intro W2
    have P := pnew_any rS 9 W2 (by decide)
    unfold PNPost at P
    rw [rS_cs] at P
    refine P.mono ?_
    rintro e w' ⟨B, h⟩
    rcases h with ⟨h, _⟩ | ⟨_, h⟩
    · exact absurd rS_ok h
    · exact ⟨B, h⟩
  obtain ⟨w, hw⟩ : ∃ w, w = wrap64 (wrap32 w0) := ⟨_, rfl⟩
  have hw1 : -2147483648 ≤ w := by rw [hw]; unfold wrap64 wrap32; omega
  have hw2 : w ≤ 2147483647 := by rw [hw]; unfold wrap64 wrap32; omega
  have CS := sum_all v w hv1 hv2 (by omega) (by omega) 2 (by omega) W1 W.heap.size a len cap 0 Z D0
  have HD0 : Hid (DS W1 W.heap.size a len cap 0 Z) := D0
  clear D0 hm
  go_enter Try.func5, Try.ntmps5
  go_wp2_with fail
  rw [← hW1, ← hw]
  clear hW1 hw
  refine CS.mono ?_
  rintro e w2 ⟨⟨s, n, rfl, hs, hz, n1, n2⟩, _, G2⟩
  have L2 : Below W.heap.size W w2 := below_of_gb G2 B0 (Nat.le_refl _)
  have hz3 : s.size ≤ 3000 := Nat.le_trans hz (sB_le 2 (by omega))
  clear CS hz G2
  by_cases h150 : (150 : Int) < (s.size : Int)
  · have HS : Hid (SumS v w 3 (bytesOf ⟨#[120, 45, 121, 42, 50]⟩) (wrap64 (v - w * 2))) := by
      have := sum_short v w 2
      rw [show wrap64 (w * 2) = w * 2 by unfold wrap64; omega] at this
      exact this
    have C := PN w2
    clear PN hs
    go_wp2_with fail
    refine C.mono ?_
    rintro e w3 ⟨L3, hi, hb, sv, vs, rfl, t1, t2, hp1, cl1⟩
    have tB : W.heap.size ≤ hb := by have := L2.size; omega
    have L3' : Below W.heap.size W w3 := L2.trans (L3.mono L2.size)
    have C4 := rmake (B := W.heap.size) hp1 cl1 tB t2
    clear C L3
    go_wp2_with fail
    refine C4.mono ?_
    rintro e w4 ⟨rfl, ⟨q, S4⟩, g4⟩
    have L4 := below_of_gb g4 L3' tB
    have C5 := rput S4 120 0 108 rfl rfl (by decide) v hv1 hv2
    clear C4 g4 L3'
    go_wp2_with fail
    refine C5.mono ?_
    rintro e w5 ⟨rfl, S5, g5⟩
    have L5 := below_of_gb g5 L4 tB
    have C6 := rput S5 121 1 119 rfl rfl (by decide) w (by omega) (by omega)
    clear C5 g5 L4
    go_wp2_with fail
    refine C6.mono ?_
    rintro e w6 ⟨rfl, S6, g6⟩
    have L6 := below_of_gb g6 L5 tB
    have C7 := rbegin S6 (v := v) (y := w) (by simp [set2]; rfl) (by rw [set2_self]; exact wrK_fit32 w hw1 hw2) (d := 3) (by omega) HS.out (⟨#[80, 123, 97, 58, 104, 61]⟩ ++ ⟨#[120, 45, 121, 42, 50]⟩ ++ ⟨#[44, 98, 58, 108, 44, 120, 58, 98, 44, 121, 58, 119, 61, 120, 33, 125]⟩) (by rw [bytesOf_app, bytesOf_app, List.append_assoc]; rfl) (by rw [ByteArray.size_append, ByteArray.size_append]; show 6 + _ + 16 ≤ 200; decide)
    clear C6 g6 L5 S4 S5
    go_wp2_with fail
    refine C7.mono ?_
    rintro e w7 ⟨rfl, ⟨p, base, mv, p1, p2, E7, hH⟩, g7⟩
    have L7 := below_of_gb g7 L6 tB
    obtain ⟨l1, l2, A97, A98, A120, A121⟩ := hH.out
    have C8 := rpeek E7 l1 l2 97 (wrK 104 (wrap64 (v - w * 2))) 0 A97
    clear C7 g7 L6 S6
    go_wp2_with fail
    refine C8.mono ?_
    rintro e w8 ⟨rfl, E8, B8⟩
    have L8 := L7.trans (B8.mono L7.size)
    have C9 := rpeek E8 l1 l2 98 0 0 A98
    clear C8 B8 L7 E7
    go_wp2_with fail
    refine C9.mono ?_
    rintro e w9 ⟨rfl, E9, B9⟩
    have L9 := L8.trans (B9.mono L8.size)
    have C10 := rpeek E9 l1 l2 120 (wrK 98 v) 0 A120
    clear C9 B9 L8 E8
    go_wp2_with fail
    refine C10.mono ?_
    rintro e w10 ⟨rfl, E10, B10⟩
    have L10 := L9.trans (B10.mono L9.size)
    have x16 : IntKind.i16.wrap (wrap64 (v - w * 2)) = wrK 104 (wrap64 (v - w * 2)) := wrap_i16 _
    have y16 : wrap64 (wrK 104 (wrap64 (v - w * 2))) = wrK 104 (wrap64 (v - w * 2)) := wrap64_104 _
    have x8 : v % 256 = wrK 98 v := rfl
    clear C10 B10 L9 E9
    by_cases hfit : wrK 119 v = v
    · have C11 := rpeek E10 l1 l2 121 v 0 (by rw [A121, if_neg (by simpa using hfit), hfit])
      have x32 : wrap32 v = v := by rw [← wrK_119i]; exact hfit
      have y32 : wrap64 v = v := by unfold wrap64; omega
      clear A97 A98 A120 A121 hH E10
      generalize wrK 104 (wrap64 (v - w * 2)) = A1 at x16 y16 ⊢
      generalize wrK 98 v = A2 at x8 ⊢
      go_wp2_with fail
      refine C11.mono ?_
      rintro e w11 ⟨rfl, _, B11⟩
      have L11 := L10.trans (B11.mono L10.size)
      clear C11 B11 L10 hfit
      go_wp2
      go_ret
      exact ⟨rfl, L11⟩
    · have C11 := rpeek E10 l1 l2 121 0 15 (by rw [A121, if_pos hfit])
      have x32 : (v != wrap64 (wrap32 v)) = true := by
        have : wrap64 (wrap32 v) = wrK 119 v := by rw [← wrK_119i, wrap64_119]
        rw [this]; simp; exact fun h => hfit h.symm
      clear A97 A98 A120 A121 hH E10
      generalize wrK 104 (wrap64 (v - w * 2)) = A1 at x16 y16 ⊢
      generalize wrK 98 v = A2 at x8 ⊢
      go_wp2_with fail
      refine C11.mono ?_
      rintro e w11 ⟨rfl, _, B11⟩
      have L11 := L10.trans (B11.mono L10.size)
      clear C11 B11 L10 hfit
      go_wp2
      go_ret
      exact ⟨rfl, L11⟩
  · have HS : Hid (SumS v w 3 (bytesOf s) n) := hs
    have C := PN w2
    clear PN hs
    go_wp2_with fail
    refine C.mono ?_
    rintro e w3 ⟨L3, hi, hb, sv, vs, rfl, t1, t2, hp1, cl1⟩
    have tB : W.heap.size ≤ hb := by have := L2.size; omega
    have L3' : Below W.heap.size W w3 := L2.trans (L3.mono L2.size)
    have C4 := rmake (B := W.heap.size) hp1 cl1 tB t2
    clear C L3
    go_wp2_with fail
    refine C4.mono ?_
    rintro e w4 ⟨rfl, ⟨q, S4⟩, g4⟩
    have L4 := below_of_gb g4 L3' tB
    have C5 := rput S4 120 0 108 rfl rfl (by decide) v hv1 hv2
    clear C4 g4 L3'
    go_wp2_with fail
    refine C5.mono ?_
    rintro e w5 ⟨rfl, S5, g5⟩
    have L5 := below_of_gb g5 L4 tB
    have C6 := rput S5 121 1 119 rfl rfl (by decide) w (by omega) (by omega)
    clear C5 g5 L4
    go_wp2_with fail
    refine C6.mono ?_
    rintro e w6 ⟨rfl, S6, g6⟩
    have L6 := below_of_gb g6 L5 tB
    have C7 := rbegin S6 (v := v) (y := w) (by simp [set2]; rfl) (by rw [set2_self]; exact wrK_fit32 w hw1 hw2) (d := 3) (by omega) HS.out (⟨#[80, 123, 97, 58, 104, 61]⟩ ++ s ++ ⟨#[44, 98, 58, 108, 44, 120, 58, 98, 44, 121, 58, 119, 61, 120, 33, 125]⟩) (by rw [bytesOf_app, bytesOf_app, List.append_assoc]; rfl) (by rw [ByteArray.size_append, ByteArray.size_append]; show 6 + _ + 16 ≤ 200; omega)
    clear C6 g6 L5 S4 S5
    go_wp2_with fail
    refine C7.mono ?_
    rintro e w7 ⟨rfl, ⟨p, base, mv, p1, p2, E7, hH⟩, g7⟩
    have L7 := below_of_gb g7 L6 tB
    obtain ⟨l1, l2, A97, A98, A120, A121⟩ := hH.out
    have C8 := rpeek E7 l1 l2 97 (wrK 104 (n)) 0 A97
    clear C7 g7 L6 S6
    go_wp2_with fail
    refine C8.mono ?_
    rintro e w8 ⟨rfl, E8, B8⟩
    have L8 := L7.trans (B8.mono L7.size)
    have C9 := rpeek E8 l1 l2 98 0 0 A98
    clear C8 B8 L7 E7
    go_wp2_with fail
    refine C9.mono ?_
    rintro e w9 ⟨rfl, E9, B9⟩
    have L9 := L8.trans (B9.mono L8.size)
    have C10 := rpeek E9 l1 l2 120 (wrK 98 v) 0 A120
    clear C9 B9 L8 E8
    go_wp2_with fail
    refine C10.mono ?_
    rintro e w10 ⟨rfl, E10, B10⟩
    have L10 := L9.trans (B10.mono L9.size)
    have x16 : IntKind.i16.wrap (n) = wrK 104 (n) := wrap_i16 _
    have y16 : wrap64 (wrK 104 (n)) = wrK 104 (n) := wrap64_104 _
    have x8 : v % 256 = wrK 98 v := rfl
    clear C10 B10 L9 E9
    by_cases hfit : wrK 119 v = v
    · have C11 := rpeek E10 l1 l2 121 v 0 (by rw [A121, if_neg (by simpa using hfit), hfit])
      have x32 : wrap32 v = v := by rw [← wrK_119i]; exact hfit
      have y32 : wrap64 v = v := by unfold wrap64; omega
      clear A97 A98 A120 A121 hH E10
      generalize wrK 104 (n) = A1 at x16 y16 ⊢
      generalize wrK 98 v = A2 at x8 ⊢
      go_wp2_with fail
      refine C11.mono ?_
      rintro e w11 ⟨rfl, _, B11⟩
      have L11 := L10.trans (B11.mono L10.size)
      clear C11 B11 L10 hfit
      go_wp2
      go_ret
      exact ⟨rfl, L11⟩
    · have C11 := rpeek E10 l1 l2 121 0 15 (by rw [A121, if_pos hfit])
      have x32 : (v != wrap64 (wrap32 v)) = true := by
        have : wrap64 (wrap32 v) = wrK 119 v := by rw [← wrK_119i, wrap64_119]
        rw [this]; simp; exact fun h => hfit h.symm
      clear A97 A98 A120 A121 hH E10
      generalize wrK 104 (n) = A1 at x16 y16 ⊢
      generalize wrK 98 v = A2 at x8 ⊢
      go_wp2_with fail
      refine C11.mono ?_
      rintro e w11 ⟨rfl, _, B11⟩
      have L11 := L10.trans (B11.mono L10.size)
      clear C11 B11 L10 hfit
      go_wp2
      go_ret
      exact ⟨rfl, L11⟩
end Go.Proofs.Ythckelcjncnalab
