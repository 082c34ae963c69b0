import Derived.Test.YthckelcjncnalaaPk2
namespace Go.Proofs.Ythckelcjncnalaa
open Go.RowKit

def crcB (l : List Int) (k : Nat) : Bool := Bool.xor (bitAt l k) (decide (k < 32))
theorem or_top (x : BitVec 32) (β : Bool) : x >>> 1 ||| bt β = x >>> 1 ^^^ bt β := by
  apply BitVec.eq_of_getLsbD_eq
  intro i hi
  rw [BitVec.getLsbD_or, BitVec.getLsbD_xor, BitVec.getLsbD_ushiftRight]
  by_cases h : i = 31
  · subst h
    rw [BitVec.getLsbD_of_ge _ _ (by decide)]; simp
  · have : (bt β).getLsbD i = false := by
      cases β
      · simp [bt]
      · simp only [bt, if_true, BitVec.getLsbD, BitVec.toNat_ofNat]
        rw [show 2147483648 % 2 ^ 32 = 2 ^ 31 by decide, Nat.testBit_two_pow]; simp; omega
    rw [this]; simp
theorem shr1_nat (z : BitVec 32) : (z.toNat : Int) / (2 : Int) = ((z >>> 1).toNat : Int) := by
  rw [BitVec.toNat_ushiftRight, Nat.shiftRight_eq_div_pow]; rfl
theorem bits_or32 (a b : BitVec 32) : bits .or .u32 (a.toNat : Int) (b.toNat : Int) = ((a ||| b).toNat : Int) := by
  rw [u32_or_nat _ _ a.isLt b.isLt, BitVec.toNat_or]
theorem r_mid (C : BitVec 32) (β : Bool) : bits .or .u32 ((C.toNat : Int) / 2) (((bv β).toNat : Int) * 2147483648 % 4294967296) = ((C >>> 1 ^^^ bt β).toNat : Int) := by
  have e : ((bv β).toNat : Int) * 2147483648 % 4294967296 = ((bt β).toNat : Int) := by cases β <;> rfl
  rw [e, shr1_nat, bits_or32, or_top]
theorem r_odd (C : BitVec 32) (β : Bool) (B : Int) (hB : B = (bv β).toNat) (h : C.toNat % 2 = 1) :
    bits .xor .u32 (bits .or .u32 ((C.toNat : Int) / 2) (B * 2147483648 % 4294967296)) 3988292384 = ((lf C ^^^ bt β).toNat : Int) := by
  rw [hB, r_mid, show (3988292384 : Int) = ((3988292384#32 : BitVec 32).toNat : Int) from rfl, bits_xor32]
  have e : C.getLsbD 0 = true := by simp [BitVec.getLsbD, Nat.testBit_zero, h]
  simp only [lf, e, if_true]
  rw [BitVec.xor_assoc, BitVec.xor_comm (bt β), ← BitVec.xor_assoc]
theorem r_even (C : BitVec 32) (β : Bool) (B : Int) (hB : B = (bv β).toNat) (h : ¬ C.toNat % 2 = 1) :
    bits .or .u32 ((C.toNat : Int) / 2) (B * 2147483648 % 4294967296) = ((lf C ^^^ bt β).toNat : Int) := by
  rw [hB, r_mid]
  have e : C.getLsbD 0 = false := by simp [BitVec.getLsbD, Nat.testBit_zero]; omega
  simp only [lf, e, if_false, Bool.false_eq_true, BitVec.xor_zero]
theorem r_odd0 (C : BitVec 32) (β : Bool) (hB : β = false) (h : C.toNat % 2 = 1) :
    bits .xor .u32 (bits .or .u32 ((C.toNat : Int) / 2) 0) 3988292384 = ((lf C ^^^ bt β).toNat : Int) := r_odd C β 0 (by rw [hB]; rfl) h
theorem r_even0 (C : BitVec 32) (β : Bool) (hB : β = false) (h : ¬ C.toNat % 2 = 1) :
    bits .or .u32 ((C.toNat : Int) / 2) 0 = ((lf C ^^^ bt β).toNat : Int) := r_even C β 0 (by rw [hB]; rfl) h
theorem and_one (n : Nat) (h : n < 4294967296) : bits .and .u32 (n : Int) 1 = ((n % 2 : Nat) : Int) := by
  rw [show (1 : Int) = ((1 : Nat) : Int) from rfl, u32_and_nat n 1 h (by decide), nat_mask1]
theorem b_in (s : ByteArray) (k : Nat) (h : k / 8 < s.size) : bits .and .u32 ((s[k / 8].toNat : Int) % 4294967296 / 2 ^ (k % 8)) 1 = ((bv (bitAt (bytesOf s) k)).toNat : Int) := by
  have hb : s[k / 8].toNat < 256 := s[k / 8].toNat_lt
  have e : (s[k / 8].toNat : Int) % 4294967296 / 2 ^ (k % 8) = ((s[k / 8].toNat / 2 ^ (k % 8) : Nat) : Int) := by
    rw [Int.emod_eq_of_lt (by omega) (by omega)]; simp
  have hd : s[k / 8].toNat / 2 ^ (k % 8) ≤ s[k / 8].toNat := Nat.div_le_self _ _
  rw [e, and_one _ (by omega)]
  unfold bitAt; rw [bytesOf_get s _ h, Option.getD_some, Int.toNat_natCast, Nat.testBit_eq_decide_div_mod_eq]
  by_cases hh : s[k / 8].toNat / 2 ^ (k % 8) % 2 = 1
  · simp [hh, bv]
  · have : s[k / 8].toNat / 2 ^ (k % 8) % 2 = 0 := by omega
    simp [this, bv]
theorem b_not (β : Bool) : bits .xor .u32 ((bv β).toNat : Int) 1 = ((bv (!β)).toNat : Int) := by cases β <;> decide
theorem b_flip (s : ByteArray) (k : Nat) (h : k / 8 < s.size) : bits .xor .u32 (bits .and .u32 ((s[k / 8].toNat : Int) % 4294967296 / 2 ^ (k % 8)) 1) 1 = ((bv (!bitAt (bytesOf s) k)).toNat : Int) := by
  rw [b_in s k h, b_not]
theorem rfC_next (b : Nat → Bool) (k : Nat) : rfC b (k + 1) = lf (rfC b k) ^^^ bt (Bool.xor (b k) (decide (k < 32))) := rfl
theorem int_eq {k : IntKind} {a b : Int} (h : a = b) : Value.int k a = .int k b := by rw [h]

set_option maxHeartbeats 400000 in
theorem crcr_any (s : ByteArray) (w : World) (hm : s.size ≤ 4096) :
    Calls Try.prog 21 #[.string s] w fun e w' => e = .returned (.int .u32 (crcL (bytesOf s)).toNat) ∧ w' = w := by
  go_enter Try.func21, Try.ntmps21
  go_wp2
  go_loop [3, 4] (fun c i => ∃ k : Nat, k ≤ 8 * s.size + 32 ∧ i = .int .i64 k ∧ c = .int .u32 (rfC (bitAt (bytesOf s)) k).toNat) (fun _ i => 8 * s.size + 32 - (intOf i).toNat)
  case atStart => exact ⟨0, Nat.zero_le _, rfl, rfl⟩
  case round =>
    obtain ⟨k, hk, rfl, rfl⟩ := hrel
    by_cases hlt : k < 8 * s.size + 32
    · have hand := and_one (rfC (bitAt (bytesOf s)) k).toNat (rfC (bitAt (bytesOf s)) k).isLt
      by_cases hodd : (rfC (bitAt (bytesOf s)) k).toNat % 2 = 1
      · rw [hodd] at hand
        have HO : Hid ((rfC (bitAt (bytesOf s)) k).toNat % 2 = 1) := hodd
        clear hodd
        by_cases h8 : k < 8 * s.size
        · have hk8 : k / 8 < s.size := by omega
          by_cases h32 : k < 32
          · go_wp2
            exact ⟨⟨k + 1, by omega, rfl, int_eq ((r_odd _ _ _ (b_flip s k hk8) HO.out).trans (by rw [rfC_next]; simp [h32]))⟩, by simp [intOf]; omega⟩
          · go_wp2
            exact ⟨⟨k + 1, by omega, rfl, int_eq ((r_odd _ _ _ (b_in s k hk8) HO.out).trans (by rw [rfC_next]; simp [h32]))⟩, by simp [intOf]; omega⟩
        · have hbe := bitAt_end (bytesOf s) k (by rw [bytesOf_len]; omega)
          by_cases h32 : k < 32
          · go_wp2
            exact ⟨⟨k + 1, by omega, rfl, int_eq ((r_odd _ true _ (by decide) HO.out).trans (by rw [rfC_next]; simp [h32, hbe]))⟩, by simp [intOf]; omega⟩
          · go_wp2
            exact ⟨⟨k + 1, by omega, rfl, int_eq ((r_odd0 _ false rfl HO.out).trans (by rw [rfC_next]; simp [h32, hbe]))⟩, by simp [intOf]; omega⟩
      · rw [show (rfC (bitAt (bytesOf s)) k).toNat % 2 = 0 by omega] at hand
        have HO : Hid (¬ (rfC (bitAt (bytesOf s)) k).toNat % 2 = 1) := hodd
        clear hodd
        by_cases h8 : k < 8 * s.size
        · have hk8 : k / 8 < s.size := by omega
          by_cases h32 : k < 32
          · go_wp2
            exact ⟨⟨k + 1, by omega, rfl, int_eq ((r_even _ _ _ (b_flip s k hk8) HO.out).trans (by rw [rfC_next]; simp [h32]))⟩, by simp [intOf]; omega⟩
          · go_wp2
            exact ⟨⟨k + 1, by omega, rfl, int_eq ((r_even _ _ _ (b_in s k hk8) HO.out).trans (by rw [rfC_next]; simp [h32]))⟩, by simp [intOf]; omega⟩
        · have hbe := bitAt_end (bytesOf s) k (by rw [bytesOf_len]; omega)
          by_cases h32 : k < 32
          · go_wp2
            exact ⟨⟨k + 1, by omega, rfl, int_eq ((r_even _ true _ (by decide) HO.out).trans (by rw [rfC_next]; simp [h32, hbe]))⟩, by simp [intOf]; omega⟩
          · go_wp2
            exact ⟨⟨k + 1, by omega, rfl, int_eq ((r_even0 _ false rfl HO.out).trans (by rw [rfC_next]; simp [h32, hbe]))⟩, by simp [intOf]; omega⟩
    · obtain rfl : k = 8 * s.size + 32 := by omega
      have hx : bits .xor .u32 (rfC (bitAt (bytesOf s)) (8 * s.size + 32)).toNat 4294967295 = (crcL (bytesOf s)).toNat := by
        have e := crc_ref (bytesOf s)
        rw [bytesOf_len] at e
        rw [e, show (4294967295 : Int) = ((4294967295#32 : BitVec 32).toNat : Int) from rfl, bits_xor32, crcL, bytesOf_len, show (4294967295#32 : BitVec 32) = BitVec.allOnes 32 from rfl, BitVec.xor_allOnes]
      have hq : ¬ ((8 * s.size + 32 : Nat) : Int) < (s.size : Int) * 8 + 32 := by omega
      go_wp2
      go_ret
      exact ⟨rfl, rfl⟩
end Go.Proofs.Ythckelcjncnalaa
