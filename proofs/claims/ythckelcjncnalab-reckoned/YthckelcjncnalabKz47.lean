import Derived.Test.YthckelcjncnalabKz46
namespace Go.Proofs.Ythckelcjncnalab
open Go.RowKit

/-- How long the texts may grow. -/
def fB : Nat → Nat
  | 0 => 9
  | d + 1 => (3 * (2 * fB d + 1) + 2) + 2
def pB (d : Nat) : Nat := 2 * fB d + 1
def sB (d : Nat) : Nat := 3 * pB d + 2
theorem fB_pos (d : Nat) : 9 ≤ fB d := by
  induction d with
  | zero => exact Nat.le_refl _
  | succ d ih => rw [fB]; omega
/-- What a maker of texts does: the text is of the form, and its value is as meant. -/
def MkC (fn : Nat) (v w : Int) (d : Nat) (F : List Int → Int → Prop) (B : Nat) : Prop := ∀ (W : World) (b : Nat) (a : Option Addr) (len cap k : Nat) (Z : Nat → Int), DS W b a len cap k Z →
  Calls Try.prog fn #[.pointer (some ⟨b, 0, none⟩), .int .i64 v, .int .i64 w, .int .i64 d] W fun e W' =>
    (∃ s n, e = .returned (.tuple #[.string s, .int .i64 n]) ∧ Hid (F (bytesOf s) n) ∧ s.size ≤ B ∧ -9223372036854775808 ≤ n ∧ n ≤ 9223372036854775807) ∧ (∃ k', DS W' b a len cap k' Z) ∧ W.grownBy W' (some b)
theorem dnext_rs {w : World} {b : Nat} {a : Option Addr} {len cap k : Nat} {Z : Nat → Int} (n : Int) (h : DS w b a len cap k Z) (hn : 0 < n) (hn' : n ≤ 9223372036854775807) :
    Calls Try.prog 17 #[.pointer (some ⟨b, 0, none⟩), .int .i64 n] w fun e w' => (∃ d : Nat, e = .returned (.int .i64 d) ∧ (d : Int) < n) ∧ (∃ k', DS w' b a len cap k' Z) ∧ w.grownBy w' (some b) := dnext_any w b a len cap k Z n h hn hn'
theorem DS.below {w w' : World} {b : Nat} {a : Option Addr} {len cap k : Nat} {Z : Nat → Int} (h : DS w b a len cap k Z) (hb : Below w.heap.size w w') : DS w' b a len cap k Z := h.kept hb
theorem fac7 (v w : Int) (S : List Int → Int → Prop) : Fac v w S (bytesOf ⟨#[55]⟩) 7 := by
  have e : bytesOf ⟨#[55]⟩ = dgL 7 := by rw [dgL_lt (by omega)]; rfl
  rw [e]; exact Fac.num 7 (by omega)
theorem wrap64_bd (x : Int) : -9223372036854775808 ≤ wrap64 x ∧ wrap64 x ≤ 9223372036854775807 := by unfold wrap64; omega
theorem bytesOf_sep (s t : ByteArray) (c : UInt8) : bytesOf (s ++ ⟨#[c]⟩ ++ t) = bytesOf s ++ (c.toNat : Int) :: bytesOf t := by
  rw [bytesOf_app, bytesOf_app, List.append_assoc]; rfl
theorem size_sep (s t : ByteArray) (c : UInt8) : (s ++ ⟨#[c]⟩ ++ t).size = s.size + 1 + t.size := by
  rw [ByteArray.size_append, ByteArray.size_append]; rfl
theorem sB_le (d : Nat) (h : d ≤ 2) : sB d ≤ 3000 := by
  have : d = 0 ∨ d = 1 ∨ d = 2 := by omega
  rcases this with rfl | rfl | rfl <;> decide
theorem fB_sB (d : Nat) : fB (d + 1) = sB d + 2 := rfl
set_option maxHeartbeats 2000000 in
set_option maxRecDepth 20000 in
theorem factor_mk (v w : Int) (hv1 : -9223372036854775808 ≤ v) (hv2 : v ≤ 9223372036854775807) (hw1 : -9223372036854775808 ≤ w) (hw2 : w ≤ 9223372036854775807) (d : Nat) (hd : d ≤ 2) (hS : ∀ d', d = d' + 1 → MkC 12 v w d' (SumS v w (d' + 1)) (sB d')) :
    MkC 40 v w d (Fac v w (SumS v w d)) (fB d) := by
  intro W b a len cap k Z h
  have hfB := fB_pos d
  have C1 := dnext_rs 4 h (by omega) (by omega)
  have C2 := fun (W : World) (k : Nat) (h : DS W b a len cap k Z) => dnext_rs 1000000000 h (by omega) (by omega)
  clear h
  go_enter Try.func40, Try.ntmps40
  go_wp2_with fail
  refine C1.mono ?_
  rintro e w1 ⟨⟨c, rfl, hc⟩, ⟨k1, D1⟩, G1⟩
  clear C1
  have hc4 : c = 0 ∨ c = 1 ∨ c = 2 ∨ c = 3 := by omega
  clear hc
  rcases hc4 with rfl | rfl | rfl | rfl
  · have D2 := C2 w1 k1 D1
    clear C2 hS
    go_wp2_with fail
    refine D2.mono ?_
    rintro e w2 ⟨⟨n, rfl, hn⟩, ⟨k2, D3⟩, G2⟩
    clear D2
    have hn9 : n < 1000000000 := by omega
    go_wp2_with fail
    refine (digits_any n hn9 _).mono ?_
    rintro e w3 ⟨⟨s, rfl, hs⟩, B3⟩
    have HS : Hid (bytesOf s = dgL n) := hs
    clear hs
    go_wp2
    go_ret2
    exact ⟨⟨s, n, rfl, by show Fac _ _ _ _ _; rw [HS.out]; exact Fac.num n hn9, Nat.le_trans (by rw [← bytesOf_len, HS.out]; exact dgL_len 8 n (by simpa using hn9)) hfB, by omega, by omega⟩, ⟨k2, D3.below B3⟩, gb_trans (gb_trans G1 G2) (gb_below B3 _)⟩
  · clear C2 hS
    go_wp2
    go_ret2
    exact ⟨⟨⟨#[120]⟩, v, rfl, Fac.x, by show 1 ≤ _; omega, hv1, hv2⟩, ⟨k1, D1⟩, G1⟩
  · clear C2 hS
    go_wp2
    go_ret2
    exact ⟨⟨⟨#[121]⟩, w, rfl, Fac.y, by show 1 ≤ _; omega, hw1, hw2⟩, ⟨k1, D1⟩, G1⟩
  · have HD1 : Hid (DS w1 b a len cap k1 Z) := D1
    have hb1 := D1.blt
    obtain ⟨c0, c1, f1, le, m, bd, row⟩ := D1
    clear C2 row bd
    cases d with
    | zero =>
      clear hS
      go_wp2
      go_quiet (fail)
      go_wp2
      go_ret2
      exact ⟨⟨⟨#[55]⟩, 7, rfl, fac7 v w _, by show 1 ≤ _; omega, by omega, by omega⟩, ⟨k1, HD1.out.drewN _⟩, gb_trans G1 (gb_drewN _ _ _)⟩
    | succ d =>
      have CS := hS d rfl
      have hd0 : (((d + 1 : Nat) : Int) == 0) = false := by simp; omega
      have hd1 : ((d + 1 : Nat) : Int) - 1 = (d : Int) := by omega
      by_cases hk : len ≤ k1
      · have hk' : (len : Int) ≤ (k1 : Int) := by omega
        clear hS CS
        go_wp2
        go_quiet (fail)
        go_wp2
        go_ret2
        exact ⟨⟨⟨#[55]⟩, 7, rfl, fac7 v w _, by show 1 ≤ _; omega, by omega, by omega⟩, ⟨k1, HD1.out.drewN _⟩, gb_trans G1 (gb_drewN _ _ _)⟩
      · have hk' : ¬ (len : Int) ≤ (k1 : Int) := by omega
        clear hS
        go_wp2
        go_quiet (fail)
        go_wp2_with fail
        refine (CS _ b a len cap k1 Z (HD1.out.drewN nq)).mono ?_
        rintro e w2 ⟨⟨s, n, rfl, hs, hz, n1, n2⟩, ⟨k2, D2⟩, G2⟩
        have hz3 : s.size ≤ 3000 := Nat.le_trans hz (sB_le d (by omega))
        clear CS
        go_wp2
        go_ret2
        refine ⟨⟨⟨#[40]⟩ ++ s ++ ⟨#[41]⟩, n, rfl, ?_, ?_, n1, n2⟩, ⟨k2, D2⟩, gb_trans (gb_trans G1 (gb_drewN _ _ _)) G2⟩
        · show Fac _ _ _ _ _
          rw [bytesOf_app, bytesOf_app]
          exact Fac.par hs.out
        · rw [fB_sB, ← bytesOf_len, bytesOf_app, bytesOf_app, List.length_append, List.length_append, bytesOf_len s]
          show 1 + s.size + 1 ≤ _
          omega
set_option maxHeartbeats 2000000 in
set_option maxRecDepth 20000 in
theorem product_mk (v w : Int) (d : Nat) (hd : d ≤ 2) (F : List Int → Int → Prop) (hF : MkC 40 v w d F (fB d)) : MkC 22 v w d (Prd F) (pB d) := by
  intro W b a len cap k Z h
  have hB : fB d ≤ 1000 := by
    have : d = 0 ∨ d = 1 ∨ d = 2 := by omega
    rcases this with rfl | rfl | rfl <;> decide
  have hpB : pB d = 2 * fB d + 1 := rfl
  have C1 := hF W b a len cap k Z h
  have C2 := fun (W : World) (k : Nat) (h : DS W b a len cap k Z) => dnext_rs 2 h (by omega) (by omega)
  have C3 := fun (W : World) (k : Nat) (h : DS W b a len cap k Z) => hF W b a len cap k Z h
  clear h hF
  go_enter Try.func22, Try.ntmps22
  go_wp2_with fail
  refine C1.mono ?_
  rintro e w1 ⟨⟨s, n, rfl, hs, hz, n1, n2⟩, ⟨k1, D1⟩, G1⟩
  have D2 := C2 w1 k1 D1
  clear C1 C2
  go_wp2_with fail
  refine D2.mono ?_
  rintro e w2 ⟨⟨c, rfl, hc⟩, ⟨k2, D3⟩, G2⟩
  have D4 := C3 w2 k2 D3
  clear D2 C3 D1
  have G12 := gb_trans G1 G2
  have hzp : s.size ≤ pB d := by omega
  have hsz : s.size ≤ 1000 := by omega
  have hc2 : c = 0 ∨ c = 1 := by omega
  clear hc G1 G2
  rcases hc2 with rfl | rfl
  · clear D4
    go_wp2
    refine wp_loop_rounds 1 ?_; rw [rounds_succ]
    go_wp2
    go_ret2
    exact ⟨⟨s, n, rfl, Prd.one hs.out, hzp, n1, n2⟩, ⟨k2, D3⟩, G12⟩
  · by_cases h20 : s.size < 20
    · have h20' : (s.size : Int) < 20 := by omega
      go_wp2_with fail
      refine wp_loop_rounds 2 ?_; rw [rounds_succ]
      go_wp2_with fail
      refine D4.mono ?_
      rintro e w3 ⟨⟨t, m, rfl, ht, hzt, m1, m2⟩, ⟨k3, D5⟩, G3⟩
      have hszt : t.size ≤ 1000 := by omega
      clear D4
      go_wp2_with fail
      rw [rounds_succ]
      go_wp2
      go_ret2
      refine ⟨⟨_, _, rfl, ?_, ?_, (wrap64_bd _).1, (wrap64_bd _).2⟩, ⟨k3, D5⟩, gb_trans G12 G3⟩
      · show Prd F _ _
        rw [bytesOf_sep]
        exact Prd.more (Prd.one hs.out) ht.out
      · rw [size_sep]; omega
    · have h20' : ¬ (s.size : Int) < 20 := by omega
      clear D4
      go_wp2
      refine wp_loop_rounds 1 ?_; rw [rounds_succ]
      go_wp2
      go_ret2
      exact ⟨⟨s, n, rfl, Prd.one hs.out, hzp, n1, n2⟩, ⟨k2, D3⟩, G12⟩
set_option maxHeartbeats 2000000 in
set_option maxRecDepth 20000 in
theorem sum_mk (v w : Int) (d : Nat) (hd : d ≤ 2) (P : List Int → Int → Prop) (hP : MkC 22 v w d P (pB d)) : MkC 12 v w d (Smm P) (sB d) := by
  intro W b a len cap k Z h
  have hsB : sB d = 3 * pB d + 2 := rfl
  have hsB' := sB_le d hd
  have C1 := hP W b a len cap k Z h
  have C2 := fun (W : World) (k : Nat) (h : DS W b a len cap k Z) => dnext_rs 3 h (by omega) (by omega)
  have C3 := fun (W : World) (k : Nat) (h : DS W b a len cap k Z) => hP W b a len cap k Z h
  have C4 := fun (W : World) (k : Nat) (h : DS W b a len cap k Z) => dnext_rs 2 h (by omega) (by omega)
  clear h hP
  go_enter Try.func12, Try.ntmps12
  go_wp2_with fail
  refine C1.mono ?_
  rintro e w1 ⟨⟨s, n, rfl, hs, hz, n1, n2⟩, ⟨k1, D1⟩, G1⟩
  have D2 := C2 w1 k1 D1
  clear C1 C2
  go_wp2_with fail
  refine D2.mono ?_
  rintro e w2 ⟨⟨c, rfl, hc⟩, ⟨k2, D3⟩, G2⟩
  clear D2 D1
  have hc3 : c ≤ 2 := by omega
  have hc4 : s.size + c * (pB d + 1) ≤ sB d := by
    have : c = 0 ∨ c = 1 ∨ c = 2 := by omega
    rcases this with rfl | rfl | rfl <;> omega
  have HS0 : Hid (Smm P (bytesOf s) n) := Smm.one hs.out
  have G12 := gb_trans G1 G2
  clear G1 G2 hs hz hc
  go_wp2_with fail
  go_loopw [10, 11, 12] (fun s10 s11 s12 wr => ∃ (s : ByteArray) (n : Int) (c : Nat), s10 = .string s ∧ s11 = .int .i64 n ∧ s12 = .int .i64 c ∧ Hid (Smm P (bytesOf s) n) ∧ s.size + c * (pB d + 1) ≤ sB d ∧ -9223372036854775808 ≤ n ∧ n ≤ 9223372036854775807 ∧ c ≤ 2 ∧ (∃ k', DS wr b a len cap k' Z) ∧ W.grownBy wr (some b)) (fun _ _ s12 _ => (intOf s12).toNat)
  case atStart => exact ⟨s, n, c, rfl, rfl, rfl, HS0, hc4, n1, n2, hc3, ⟨k2, D3⟩, G12⟩
  case round =>
    clear HS0 hc4 n1 n2 hc3 D3 G12
    obtain ⟨s, n, c, rfl, rfl, rfl, hs, hz, n1, n2, hc, ⟨k3, D3⟩, G3⟩ := hrel
    have hsz : s.size ≤ 3000 := by omega
    by_cases hc0 : c = 0
    · subst hc0
      go_wp2
      go_ret2
      exact ⟨⟨s, n, rfl, hs, by omega, n1, n2⟩, ⟨k3, D3⟩, G3⟩
    · have hcp : (0 : Int) < (c : Int) := by omega
      have hcm : (c : Int) - 1 = ((c - 1 : Nat) : Int) := by omega
      by_cases h30 : (s.size : Int) < 30
      · have D4 := C4 wr k3 D3
        go_wp2_with fail
        refine D4.mono ?_
        rintro e w4 ⟨⟨mi, rfl, hmi⟩, ⟨k4, D5⟩, G4⟩
        have D6 := C3 w4 k4 D5
        clear D4 C3 C4
        go_wp2_with fail
        refine D6.mono ?_
        rintro e w5 ⟨⟨t, m, rfl, ht, hzt, m1, m2⟩, ⟨k5, D7⟩, G5⟩
        clear D6
        have G6 := gb_trans (gb_trans G3 G4) G5
        have hszt : t.size ≤ 3000 := by omega
        obtain ⟨q, rfl⟩ : ∃ q, c = q + 1 := ⟨c - 1, by omega⟩
        have hq : s.size + 1 + t.size + q * (pB d + 1) ≤ sB d := by rw [Nat.add_mul] at hz; omega
        have hmi2 : mi = 0 ∨ mi = 1 := by omega
        clear hmi hcm
        rcases hmi2 with rfl | rfl
        · go_wp2
          go_roundw
          case rel => exact ⟨_, _, q, rfl, rfl, by go_num, by show Smm P _ _; rw [bytesOf_sep]; exact Smm.add hs.out ht.out, by rw [size_sep]; exact hq, (wrap64_bd _).1, (wrap64_bd _).2, by omega, ⟨k5, D7⟩, G6⟩
          case measure => simp [intOf]; try omega
        · go_wp2
          go_roundw
          case rel => exact ⟨_, _, q, rfl, rfl, by go_num, by show Smm P _ _; rw [bytesOf_sep]; exact Smm.sub hs.out ht.out, by rw [size_sep]; exact hq, (wrap64_bd _).1, (wrap64_bd _).2, by omega, ⟨k5, D7⟩, G6⟩
          case measure => simp [intOf]; try omega
      · go_wp2
        go_ret2
        exact ⟨⟨s, n, rfl, hs, by omega, n1, n2⟩, ⟨k3, D3⟩, G3⟩
theorem sum_all (v w : Int) (hv1 : -9223372036854775808 ≤ v) (hv2 : v ≤ 9223372036854775807) (hw1 : -9223372036854775808 ≤ w) (hw2 : w ≤ 9223372036854775807) : ∀ d, d ≤ 2 → MkC 12 v w d (SumS v w (d + 1)) (sB d) := by
  intro d
  induction d with
  | zero => exact fun hd => sum_mk v w 0 hd _ (product_mk v w 0 hd _ (factor_mk v w hv1 hv2 hw1 hw2 0 hd fun d' h => by omega))
  | succ d ih => exact fun hd => sum_mk v w (d + 1) hd _ (product_mk v w (d + 1) hd _ (factor_mk v w hv1 hv2 hw1 hw2 (d + 1) hd fun d' h => by
      obtain rfl : d = d' := by omega
      exact ih (by omega)))
end Go.Proofs.Ythckelcjncnalab
