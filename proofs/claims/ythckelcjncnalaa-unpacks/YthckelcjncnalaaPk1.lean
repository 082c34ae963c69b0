import Derived.WalkKit
namespace Go.Proofs.Ythckelcjncnalaa

/-- One turn of the register. -/
def lf (z : BitVec 32) : BitVec 32 := (z >>> 1) ^^^ (if z.getLsbD 0 then 3988292384#32 else 0#32)
theorem lf_xor (a b : BitVec 32) : lf (a ^^^ b) = lf a ^^^ lf b := by
  have h : ((a ^^^ b) >>> 1) = (a >>> 1) ^^^ (b >>> 1) := BitVec.ushiftRight_xor_distrib a b 1
  simp only [lf, h, BitVec.getLsbD_xor]
  generalize a >>> 1 = x
  generalize b >>> 1 = y
  apply BitVec.eq_of_getLsbD_eq
  intro i hi
  cases a.getLsbD 0 <;> cases b.getLsbD 0 <;> simp only [Bool.xor_false, Bool.xor_true, Bool.not_false, Bool.not_true, if_true, if_false, Bool.false_eq_true, BitVec.getLsbD_xor, BitVec.getLsbD_zero] <;> cases x.getLsbD i <;> cases y.getLsbD i <;> cases (3988292384#32).getLsbD i <;> rfl
theorem lf_zero : lf 0#32 = 0#32 := by decide
theorem lf_inj {a : BitVec 32} (h : lf a = 0#32) : a = 0#32 := by
  have h31 : (lf a).getLsbD 31 = a.getLsbD 0 := by
    simp only [lf, BitVec.getLsbD_xor, BitVec.getLsbD_ushiftRight]
    cases h0 : a.getLsbD 0 <;> simp
  have h0 : a.getLsbD 0 = false := by rw [← h31, h]; rfl
  have hs : a >>> 1 = 0#32 := by
    have := h; simp only [lf, h0] at this; simpa using this
  apply BitVec.eq_of_getLsbD_eq
  intro i hi
  rcases i with _ | i
  · rw [h0]; rfl
  · have := congrArg (fun z => BitVec.getLsbD z i) hs
    simp only [BitVec.getLsbD_ushiftRight] at this
    rw [Nat.add_comm i 1, this]; simp
def lfN : Nat → BitVec 32 → BitVec 32
  | 0, z => z
  | n + 1, z => lf (lfN n z)
theorem lfN_xor (n : Nat) (a b : BitVec 32) : lfN n (a ^^^ b) = lfN n a ^^^ lfN n b := by
  induction n with
  | zero => rfl
  | succ n ih => simp only [lfN, ih, lf_xor]
theorem lfN_zero (n : Nat) : lfN n 0#32 = 0#32 := by
  induction n with
  | zero => rfl
  | succ n ih => simp only [lfN, ih, lf_zero]
theorem lfN_inj (n : Nat) {a : BitVec 32} (h : lfN n a = 0#32) : a = 0#32 := by
  induction n with
  | zero => exact h
  | succ n ih => exact ih (lf_inj h)
theorem lfN_lf (n : Nat) (a : BitVec 32) : lfN n (lf a) = lf (lfN n a) := by
  induction n with
  | zero => rfl
  | succ n ih => simp only [lfN, ih]
theorem xor_eq_zero {a b : BitVec 32} (h : a ^^^ b = 0#32) : a = b := BitVec.xor_eq_zero_iff.1 h
theorem lfN_eq (n : Nat) {a b : BitVec 32} (h : lfN n a = lfN n b) : a = b := by
  apply xor_eq_zero; apply lfN_inj n; rw [lfN_xor, h, BitVec.xor_self]

def bv (b : Bool) : BitVec 32 := if b then 1#32 else 0#32
def bt (b : Bool) : BitVec 32 := if b then 2147483648#32 else 0#32
/-- The program's register behind n bits. -/
def prS (b : Nat → Bool) : Nat → BitVec 32
  | 0 => 4294967295#32
  | n + 1 => lf (prS b n ^^^ bv (b n))
/-- The document's. -/
def rfC (b : Nat → Bool) : Nat → BitVec 32
  | 0 => 0#32
  | n + 1 => lf (rfC b n) ^^^ bt (Bool.xor (b n) (decide (n < 32)))
def dfD : Nat → BitVec 32
  | 0 => 4294967295#32
  | n + 1 => lf (dfD n) ^^^ (if n < 32 then lfN 32 2147483648#32 else 0#32)
theorem bt_xor (a b : Bool) : bt (Bool.xor a b) = bt a ^^^ bt b := by cases a <;> cases b <;> rfl
theorem top_one : lfN 32 2147483648#32 = lf 1#32 := by decide
theorem lf_bv (b : Bool) : lfN 32 (bt b) = lf (bv b) := by
  cases b
  · simp only [bt, bv, Bool.false_eq_true, if_false, lfN_zero, lf_zero]
  · simp only [bt, bv, if_true, top_one]
theorem df_eq (b : Nat → Bool) (n : Nat) : lfN 32 (rfC b n) ^^^ prS b n = dfD n := by
  induction n with
  | zero => simp only [rfC, prS, dfD, lfN_zero, BitVec.zero_xor]
  | succ n ih =>
    simp only [rfC, prS, dfD, lfN_xor, bt_xor, lf_bv, lfN_lf, lf_xor, ← ih]
    have e : lf (bv (decide (n < 32))) = (if n < 32 then lfN 32 2147483648#32 else 0#32) := by
      by_cases h : n < 32
      · simp only [h, decide_true, if_true, top_one, bv]
      · simp only [h, decide_false, if_false, bv, Bool.false_eq_true, lf_zero]
    rw [e]
    generalize lf (lfN 32 (rfC b n)) = x
    generalize lf (bv (b n)) = y
    generalize lf (prS b n) = z
    generalize (if n < 32 then lfN 32 2147483648#32 else 0#32) = u
    apply xor_eq_zero
    ext i hi
    simp only [BitVec.getElem_xor, BitVec.getElem_zero]
    cases x[i] <;> cases y[i] <;> cases z[i] <;> cases u[i] <;> rfl
theorem df_32 : dfD 32 = 0#32 := by kernel_rfl
theorem df_more (k : Nat) : dfD (k + 32) = 0#32 := by
  induction k with
  | zero => rw [Nat.zero_add]; exact df_32
  | succ k ih =>
    have : k + 1 + 32 = (k + 32) + 1 := by omega
    rw [this, dfD, ih, lf_zero, if_neg (by omega)]; rfl
theorem prS_more (b : Nat → Bool) (N : Nat) (hb : ∀ k, N ≤ k → b k = false) (j : Nat) : prS b (N + j) = lfN j (prS b N) := by
  induction j with
  | zero => rfl
  | succ j ih => rw [← Nat.add_assoc, prS, hb _ (by omega), ih]; simp [bv, lfN]
theorem crc_meet (b : Nat → Bool) (N : Nat) (hb : ∀ k, N ≤ k → b k = false) : rfC b (N + 32) = prS b N := by
  apply lfN_eq 32
  rw [← prS_more b N hb 32]
  apply xor_eq_zero
  rw [df_eq, df_more]
/-- The first n bits alone count. -/
theorem prS_congr {b c : Nat → Bool} (n : Nat) (h : ∀ k, k < n → b k = c k) : prS b n = prS c n := by
  induction n with
  | zero => rfl
  | succ n ih => simp only [prS, ih (fun k hk => h k (by omega)), h n (by omega)]
theorem prS_one {b c : Nat → Bool} (k0 : Nat) (h : ∀ k, k ≠ k0 → b k = c k) (h0 : b k0 = !c k0) (j : Nat) : prS b (k0 + 1 + j) ^^^ prS c (k0 + 1 + j) = lfN j (lf 1#32) := by
  induction j with
  | zero =>
    rw [Nat.add_zero, prS, prS, prS_congr k0 (fun k hk => h k (by omega)), h0, ← lf_xor]
    simp only [lfN]; congr 1
    generalize prS c k0 = z
    apply xor_eq_zero
    cases c k0 <;> (simp only [bv, Bool.not_false, Bool.not_true, if_true, if_false, Bool.false_eq_true]; ext i hi; simp only [BitVec.getElem_xor, BitVec.getElem_zero]; cases z[i] <;> cases (1#32)[i] <;> rfl)
  | succ j ih =>
    rw [← Nat.add_assoc, prS, prS, h _ (by omega), ← lf_xor, lfN, ← ih]
    congr 1
    generalize prS b (k0 + 1 + j) = x
    generalize prS c (k0 + 1 + j) = y
    generalize bv (c (k0 + 1 + j)) = u
    apply xor_eq_zero
    ext i hi; simp only [BitVec.getElem_xor, BitVec.getElem_zero]; cases x[i] <;> cases y[i] <;> cases u[i] <;> rfl
theorem prS_differs {b c : Nat → Bool} (k0 n : Nat) (hk : k0 < n) (h : ∀ k, k ≠ k0 → b k = c k) (h0 : b k0 = !c k0) : prS b n ≠ prS c n := by
  intro he
  have e := prS_one k0 h h0 (n - (k0 + 1))
  rw [show k0 + 1 + (n - (k0 + 1)) = n by omega, he, BitVec.xor_self] at e
  have := lf_inj (lfN_inj _ e.symm)
  exact absurd this (by decide)

/-- Bytes as numbers. -/
def isB (l : List Int) : Prop := ∀ x ∈ l, 0 ≤ x ∧ x ≤ 255
def bitAt (l : List Int) (k : Nat) : Bool := (l[k / 8]?.getD 0).toNat.testBit (k % 8)
def crcL (l : List Int) : BitVec 32 := ~~~ prS (bitAt l) (8 * l.length)
def vint (n : Nat) : List Int := if n < 128 then [(n : Int)] else [((n % 128 + 128 : Nat) : Int), ((n / 128 : Nat) : Int)]
def headL (l : List Int) : List Int := [82, 77] ++ vint l.length ++ l
def tail4 (c : Nat) : List Int := [((c % 256 : Nat) : Int), ((c / 256 % 256 : Nat) : Int), ((c / 65536 % 256 : Nat) : Int), ((c / 16777216 : Nat) : Int)]
def packL (l : List Int) : List Int := headL l ++ tail4 (crcL (headL l)).toNat
def unpF (code : List Int) (f : Nat) : Bool := decide (f + 4 ≤ code.length) && decide (((code.drop f).take (code.length - 4 - f)).length ≤ 200) && (packL ((code.drop f).take (code.length - 4 - f)) == code)
def unpackL (code : List Int) : Option (List Int) := if unpF code 3 = true then some ((code.drop 3).take (code.length - 4 - 3)) else if unpF code 4 = true then some ((code.drop 4).take (code.length - 4 - 4)) else none

theorem bitAt_end (l : List Int) (k : Nat) (h : 8 * l.length ≤ k) : bitAt l k = false := by
  simp only [bitAt]; rw [List.getElem?_eq_none (by omega)]; simp
theorem crc_ref (l : List Int) : rfC (bitAt l) (8 * l.length + 32) = prS (bitAt l) (8 * l.length) := crc_meet _ _ (bitAt_end l)
theorem vint_len (n : Nat) : (vint n).length = if n < 128 then 1 else 2 := by unfold vint; split <;> rfl
theorem tail4_len (c : Nat) : (tail4 c).length = 4 := rfl
theorem tail4_inj {c d : Nat} (h : tail4 c = tail4 d) : c = d := by
  simp only [tail4, List.cons.injEq, and_true, Int.natCast_inj] at h; omega
theorem headL_len (l : List Int) : (headL l).length = 2 + (if l.length < 128 then 1 else 2) + l.length := by
  simp only [headL, List.length_append, vint_len, List.length_cons, List.length_nil]
theorem packL_len (l : List Int) : (packL l).length = 6 + (if l.length < 128 then 1 else 2) + l.length := by
  simp only [packL, List.length_append, headL_len, tail4_len]; omega
theorem packL_vint (l : List Int) (j : Nat) (h : j < (vint l.length).length) : (packL l)[2 + j]? = (vint l.length)[j]? := by
  simp only [packL, headL, List.append_assoc]
  rw [List.getElem?_append_right (by simp), List.getElem?_append_left (by simpa using h)]; simp
theorem packL_third (l : List Int) : (packL l)[2]? = some (if l.length < 128 then (l.length : Int) else ((l.length % 128 + 128 : Nat) : Int)) := by
  rw [packL_vint l 0 (by rw [vint_len]; split <;> decide)]; unfold vint; split <;> rfl
theorem packL_fourth (l : List Int) (h : ¬ l.length < 128) : (packL l)[3]? = some ((l.length / 128 : Nat) : Int) := by
  rw [packL_vint l 1 (by rw [vint_len, if_neg h]; decide)]; unfold vint; rw [if_neg h]; rfl
theorem packL_mid (l : List Int) : ((packL l).drop (2 + (vint l.length).length)).take l.length = l := by
  simp only [packL, headL]
  rw [show 2 + (vint l.length).length = (([82, 77] : List Int) ++ vint l.length).length by simp; omega, List.append_assoc, List.drop_left, List.take_left]
/-- A packing is one of one text. -/
theorem packL_same {l m : List Int} (h : (packL l).take 4 = (packL m).take 4) : l.length = m.length := by
  have e2 : (packL l)[2]? = (packL m)[2]? := by
    have := congrArg (fun z : List Int => z[2]?) h; simpa [List.getElem?_take] using this
  have e3 : (packL l)[3]? = (packL m)[3]? := by
    have := congrArg (fun z : List Int => z[3]?) h; simpa [List.getElem?_take] using this
  rw [packL_third, packL_third] at e2
  by_cases a : l.length < 128 <;> by_cases b : m.length < 128
  · simp only [a, b, if_true, Option.some.injEq] at e2; omega
  · simp only [a, b, if_true, if_false, Option.some.injEq] at e2; omega
  · simp only [a, b, if_true, if_false, Option.some.injEq] at e2; omega
  · rw [packL_fourth l a, packL_fourth m b] at e3
    simp only [a, b, if_false, Option.some.injEq] at e2 e3; omega
theorem unpF_of (code : List Int) (f : Nat) (h : unpF code f = true) : f + 4 ≤ code.length ∧ ((code.drop f).take (code.length - 4 - f)).length ≤ 200 ∧ packL ((code.drop f).take (code.length - 4 - f)) = code := by
  simp only [unpF, Bool.and_eq_true, decide_eq_true_eq, beq_iff_eq] at h; exact ⟨h.1.1, h.1.2, h.2⟩
theorem unpack_some {code l : List Int} (h : unpackL code = some l) : l.length ≤ 200 ∧ packL l = code := by
  unfold unpackL at h
  split at h
  · have := unpF_of code 3 (by assumption); simp only [Option.some.injEq] at h; subst h; exact this.2
  · split at h
    · have := unpF_of code 4 (by assumption); simp only [Option.some.injEq] at h; subst h; exact this.2
    · simp at h
theorem unpack_pack (l : List Int) (hl : l.length ≤ 200) : unpackL (packL l) = some l := by
  have hm := packL_mid l
  have hn := packL_len l
  by_cases a : l.length < 128
  · rw [vint_len, if_pos a] at hm
    rw [if_pos a] at hn
    have e : (packL l).length - 4 - 3 = l.length := by omega
    have : unpF (packL l) 3 = true := by
      simp only [unpF, e, hm, Bool.and_eq_true, decide_eq_true_eq, beq_self_eq_true, and_true]; omega
    rw [unpackL, if_pos this, e, hm]
  · rw [vint_len, if_neg a] at hm
    rw [if_neg a] at hn
    have e : (packL l).length - 4 - 4 = l.length := by omega
    have h4 : unpF (packL l) 4 = true := by
      simp only [unpF, e, hm, Bool.and_eq_true, decide_eq_true_eq, beq_self_eq_true, and_true]; exact ⟨by omega, hl⟩
    have h3 : ¬ unpF (packL l) 3 = true := by
      intro h
      have := (unpF_of _ _ h).2.2
      have hq := packL_same (l := ((packL l).drop 3).take ((packL l).length - 4 - 3)) (m := l) (by rw [this])
      have hl2 : (((packL l).drop 3).take ((packL l).length - 4 - 3)).length = l.length + 1 := by rw [List.length_take, List.length_drop]; omega
      rw [hl2] at hq; omega
    rw [unpackL, if_neg h3, if_pos h4, e, hm]
theorem unpack_none {code : List Int} (h : ∀ l : List Int, l.length ≤ 200 → packL l ≠ code) : unpackL code = none := by
  cases e : unpackL code with
  | none => rfl
  | some l => exact absurd (unpack_some e).2 (h l (unpack_some e).1)
theorem unpack_cut (l : List Int) : unpackL ((packL l).take ((packL l).length - 1)) = none := by
  apply unpack_none
  intro m _ hc
  have hn := packL_len l
  have hm := packL_len m
  have h7 : 7 ≤ (packL l).length := by rw [hn]; split <;> omega
  have := packL_same (l := m) (m := l) (by rw [hc, List.take_take]; congr 1; omega)
  rw [this, ← hn, hc, List.length_take] at hm
  omega
/-- One bit turned. -/
def flipL (c : List Int) (k : Nat) : List Int := c.set (k / 8) (((c[k / 8]?.getD 0).toNat ^^^ 2 ^ (k % 8) : Nat) : Int)
theorem flip_bit (c : List Int) (k0 k : Nat) (h : k0 / 8 < c.length) : bitAt (flipL c k0) k = Bool.xor (bitAt c k) (decide (k0 = k)) := by
  unfold bitAt flipL
  rw [List.getElem?_set]
  by_cases e : k0 / 8 = k / 8
  · simp only [e, if_true, (show k / 8 < c.length by omega), Option.getD_some, Int.toNat_natCast, Nat.testBit_xor, Nat.testBit_two_pow]
    congr 1
    by_cases e2 : k0 = k
    · subst e2; simp
    · simp only [e2, decide_false]; exact decide_eq_false (by omega)
  · rw [if_neg e]
    have : k0 ≠ k := fun h => e (by rw [h])
    simp [this]
theorem bitAt_app (a b : List Int) (k : Nat) (h : k < 8 * a.length) : bitAt (a ++ b) k = bitAt a k := by
  unfold bitAt; rw [List.getElem?_append_left (by omega)]
theorem flip_ne (c : List Int) (k0 : Nat) (h : k0 / 8 < c.length) : flipL c k0 ≠ c := by
  intro e
  have := flip_bit c k0 k0 h
  rw [e] at this; simp at this
theorem unpack_flip (l : List Int) (k0 : Nat) (hk : k0 < 8 * (packL l).length) : unpackL (flipL (packL l) k0) = none := by
  apply unpack_none
  intro m _ hc
  have hlen : (packL m).length = (packL l).length := by rw [hc]; simp [flipL]
  have hh : (headL m).length = (headL l).length := by
    simp only [packL, List.length_append, tail4_len] at hlen; omega
  have hin : k0 / 8 < (packL l).length := by omega
  have hpl : (packL l).length = (headL l).length + 4 := by simp only [packL, List.length_append, tail4_len]
  by_cases a : k0 < 8 * (headL l).length
  · have ht : tail4 (crcL (headL m)).toNat = tail4 (crcL (headL l)).toNat := by
      have := congrArg (List.drop (headL l).length) hc
      rw [packL, ← hh, List.drop_left, flipL, List.drop_set_of_lt (by omega), hh, packL, List.drop_left] at this
      exact this
    have hcc : crcL (headL m) = crcL (headL l) := BitVec.eq_of_toNat_eq (tail4_inj ht)
    simp only [crcL, hh] at hcc
    have hp : prS (bitAt (headL m)) (8 * (headL l).length) = prS (bitAt (headL l)) (8 * (headL l).length) := by
      have := congrArg (fun z => ~~~ z) hcc; simpa using this
    have e1 : prS (bitAt (packL m)) (8 * (headL l).length) = prS (bitAt (headL m)) (8 * (headL l).length) := prS_congr _ fun k h => bitAt_app _ _ _ (by omega)
    have e2 : prS (bitAt (packL l)) (8 * (headL l).length) = prS (bitAt (headL l)) (8 * (headL l).length) := prS_congr _ fun k h => bitAt_app _ _ _ (by omega)
    refine prS_differs (b := bitAt (packL m)) (c := bitAt (packL l)) k0 _ a ?_ ?_ (by rw [e1, e2, hp])
    · intro k hk; rw [hc, flip_bit _ _ _ hin]; simp [Ne.symm hk]
    · rw [hc, flip_bit _ _ _ hin]; simp
  · have ht : headL m = headL l := by
      have := congrArg (List.take (headL l).length) hc
      rw [packL, ← hh, List.take_left, flipL, List.take_set_of_le (by omega), hh, packL, List.take_left] at this
      exact this
    have : packL m = packL l := by rw [packL, ht, packL]
    exact flip_ne (packL l) k0 hin (by rw [← hc, this])
end Go.Proofs.Ythckelcjncnalaa
