import Derived.Test.YtmikmnchaeblpaaProg
import Derived.Test.YtmikmnchaeblpaaPk1
import Derived.WalkKit
import Derived.WalkSpells
import Derived.WalkLawsBesides
import Derived.Laws.BitsAllLaws
import Derived.Laws.Shifts
import Derived.Deep.QuietTactic
import Derived.BigQuiet
namespace Go.Proofs.Ytmikmnchaeblpaa
open Go.RowKit

theorem bits_xor32 (a b : BitVec 32) : bits .xor .u32 (a.toNat : Int) (b.toNat : Int) = ((a ^^^ b).toNat : Int) := by
  rw [u32_xor_nat _ _ a.isLt b.isLt, BitVec.toNat_xor]
theorem lf_odd (z : BitVec 32) (h : z.toNat % 2 = 1) : lf z = BitVec.ofNat 32 (z.toNat / 2) ^^^ 3988292384#32 := by
  have e : z.getLsbD 0 = true := by simp [BitVec.getLsbD, Nat.testBit_zero, h]
  have e2 : z >>> 1 = BitVec.ofNat 32 (z.toNat / 2) := by
    apply BitVec.eq_of_toNat_eq
    have := z.isLt
    rw [BitVec.toNat_ushiftRight, BitVec.toNat_ofNat, Nat.shiftRight_eq_div_pow, Nat.mod_eq_of_lt (by omega)]
  unfold lf; rw [e, e2]; rfl
theorem lf_even (z : BitVec 32) (h : ¬ z.toNat % 2 = 1) : lf z = BitVec.ofNat 32 (z.toNat / 2) := by
  have e : z.getLsbD 0 = false := by simp [BitVec.getLsbD, Nat.testBit_zero]; omega
  have e2 : z >>> 1 = BitVec.ofNat 32 (z.toNat / 2) := by
    apply BitVec.eq_of_toNat_eq
    have := z.isLt
    rw [BitVec.toNat_ushiftRight, BitVec.toNat_ofNat, Nat.shiftRight_eq_div_pow, Nat.mod_eq_of_lt (by omega)]
  unfold lf; rw [e, e2]; simp
theorem half_nat (z : BitVec 32) : (BitVec.ofNat 32 (z.toNat / 2)).toNat = z.toNat / 2 := by
  have := z.isLt
  rw [BitVec.toNat_ofNat, Nat.mod_eq_of_lt (by omega)]
theorem step_bit (b : Nat → Bool) (n j : Nat) (v : BitVec 32) (h : b n = v.getLsbD j) : lf (prS b n ^^^ (v >>> j)) = prS b (n + 1) ^^^ (v >>> (j + 1)) := by
  have key : lf (bv (b n)) ^^^ lf (v >>> j) = v >>> (j + 1) := by
    rw [← lf_xor]
    have e0 : (bv (b n) ^^^ (v >>> j)).getLsbD 0 = false := by
      rw [BitVec.getLsbD_xor, BitVec.getLsbD_ushiftRight, Nat.add_zero, ← h]; cases b n <;> rfl
    unfold lf
    rw [e0, BitVec.ushiftRight_xor_distrib, ← BitVec.shiftRight_add]
    have : bv (b n) >>> 1 = 0#32 := by cases b n <;> rfl
    rw [this]; simp
  rw [prS, lf_xor, lf_xor, BitVec.xor_assoc, ← key]
  congr 1
  rw [← BitVec.xor_assoc, BitVec.xor_self, BitVec.zero_xor]
theorem shr8 (n : Nat) (h : n < 256) : BitVec.ofNat 32 n >>> 8 = 0#32 := by
  apply BitVec.eq_of_toNat_eq
  rw [BitVec.toNat_ushiftRight, BitVec.toNat_ofNat, Nat.shiftRight_eq_div_pow, Nat.mod_eq_of_lt (by omega)]
  simp; omega
theorem byte_bit (l : List Int) (k j : Nat) (hj : j < 8) (h0 : 0 ≤ l[k]?.getD 0) (h1 : l[k]?.getD 0 ≤ 255) : bitAt l (8 * k + j) = (BitVec.ofNat 32 (l[k]?.getD 0).toNat).getLsbD j := by
  unfold bitAt
  rw [show (8 * k + j) / 8 = k by omega, show (8 * k + j) % 8 = j by omega, BitVec.getLsbD, BitVec.toNat_ofNat, Nat.mod_eq_of_lt (by omega)]

def crcIn (l : List Int) (k j : Nat) : BitVec 32 := prS (bitAt l) (8 * k + j) ^^^ (BitVec.ofNat 32 (l[k]?.getD 0).toNat >>> j)
theorem crcIn_start (l : List Int) (k : Nat) (h0 : 0 ≤ l[k]?.getD 0) (h1 : l[k]?.getD 0 ≤ 255) : bits .xor .u32 ((prS (bitAt l) (8 * k)).toNat : Int) (l[k]?.getD 0) = ((crcIn l k 0).toNat : Int) := by
  have e : (l[k]?.getD 0) = ((BitVec.ofNat 32 (l[k]?.getD 0).toNat).toNat : Int) := by
    rw [BitVec.toNat_ofNat, Nat.mod_eq_of_lt (by omega)]; omega
  rw [e, bits_xor32]; simp [crcIn]
theorem crcIn_end (l : List Int) (k : Nat) (h0 : 0 ≤ l[k]?.getD 0) (h1 : l[k]?.getD 0 ≤ 255) : crcIn l k 8 = prS (bitAt l) (8 * (k + 1)) := by
  unfold crcIn; rw [shr8 _ (by omega), BitVec.xor_zero]; rfl
theorem crcIn_step (l : List Int) (k j : Nat) (hj : j < 8) (h0 : 0 ≤ l[k]?.getD 0) (h1 : l[k]?.getD 0 ≤ 255) : lf (crcIn l k j) = crcIn l k (j + 1) :=
  step_bit _ _ _ _ (byte_bit l k j hj h0 h1)
theorem crcIn_odd (l : List Int) (k j : Nat) (hj : j < 8) (h0 : 0 ≤ l[k]?.getD 0) (h1 : l[k]?.getD 0 ≤ 255) (h : (crcIn l k j).toNat % 2 = 1) : bits .xor .u32 (((crcIn l k j).toNat : Int) / 2) 3988292384 = ((crcIn l k (j + 1)).toNat : Int) := by
  rw [← crcIn_step l k j hj h0 h1, lf_odd _ h, ← bits_xor32, half_nat]; rfl
theorem crcIn_even (l : List Int) (k j : Nat) (hj : j < 8) (h0 : 0 ≤ l[k]?.getD 0) (h1 : l[k]?.getD 0 ≤ 255) (h : ¬ (crcIn l k j).toNat % 2 = 1) : ((crcIn l k j).toNat : Int) / 2 = ((crcIn l k (j + 1)).toNat : Int) := by
  rw [← crcIn_step l k j hj h0 h1, lf_even _ h, half_nat]; rfl

theorem crc_not (z : BitVec 32) : bits .xor .u32 IntKind.u32.max (z.toNat : Int) = ((~~~z).toNat : Int) := by
  have : IntKind.u32.max = ((4294967295#32 : BitVec 32).toNat : Int) := by decide
  rw [this, bits_xor32, show (4294967295#32 : BitVec 32) = BitVec.allOnes 32 from rfl, BitVec.allOnes_xor]
theorem ret_int {k : IntKind} {a b : Int} (h : a = b) : Ending.returned (.int k a) = .returned (.int k b) := by rw [h]
set_option maxHeartbeats 400000 in
theorem crcp_any (g cap : Nat) (l : List Int) (w : World) (hb : isB l) (hm : l.length ≤ 4096) (hc : ∀ i, i < l.length → w.cell? ⟨g, i, none⟩ = some (.int .u8 (l[i]?.getD 0))) :
    Calls Try.prog 40 #[.slice (some ⟨g, 0, none⟩) l.length cap] w fun e w' => e = .returned (.int .u32 (crcL l).toNat) ∧ w' = w := by
  obtain ⟨n, hn⟩ : ∃ n, n = l.length := ⟨_, rfl⟩
  have hbd : ∀ k : Nat, 0 ≤ l[k]?.getD 0 ∧ l[k]?.getD 0 ≤ 255 := by
    intro k
    cases e : l[k]? with
    | none => simp
    | some x => exact hb x (List.mem_of_getElem? e)
  have HB : Hid (∀ k : Nat, 0 ≤ l[k]?.getD 0 ∧ l[k]?.getD 0 ≤ 255) := hbd
  rw [← hn] at hm hc ⊢
  have HN : Hid (n = l.length) := hn
  clear hn hb hbd
  go_enter Try.func40, Try.ntmps40
  go_wp2
  go_loop [3, 10] (fun c i => ∃ k : Nat, k ≤ n ∧ i = .int .i64 k ∧ c = .int .u32 (prS (bitAt l) (8 * k)).toNat) (fun _ i => n - (intOf i).toNat)
  case atStart => exact ⟨0, Nat.zero_le _, rfl, rfl⟩
  case round =>
    obtain ⟨k, hk, rfl, rfl⟩ := hrel
    by_cases hlt : k < n
    · have hck := hc k hlt
      have hb0 := (HB.out k).1
      have hb1 := (HB.out k).2
      have hst := crcIn_start l k hb0 hb1
      go_wp2
      go_loop [3, 6] (fun c j => ∃ m : Nat, m ≤ 8 ∧ j = .int .i64 m ∧ c = .int .u32 (crcIn l k m).toNat) (fun _ j => 8 - (intOf j).toNat)
      case atStart => exact ⟨0, Nat.zero_le _, rfl, rfl⟩
      case round =>
        obtain ⟨m, hm8, rfl, rfl⟩ := hrel
        by_cases hlt8 : m < 8
        · have hz : (crcIn l k m).toNat < 4294967296 := (crcIn l k m).isLt
          by_cases hodd : (crcIn l k m).toNat % 2 = 1
          · have hx := crcIn_odd l k m hlt8 hb0 hb1 hodd
            have ho : (((crcIn l k m).toNat : Int).tmod 2 == 1) = true := by rw [Int.tmod_eq_emod_of_nonneg (by omega)]; simp; omega
            go_wp2
            exact ⟨⟨m + 1, by omega, rfl, rfl⟩, by simp [intOf]; omega⟩
          · have hx := crcIn_even l k m hlt8 hb0 hb1 hodd
            have ho : (((crcIn l k m).toNat : Int).tmod 2 == 1) = false := by rw [Int.tmod_eq_emod_of_nonneg (by omega)]; simp; omega
            go_wp2
            exact ⟨⟨m + 1, by omega, rfl, rfl⟩, by simp [intOf]; omega⟩
        · obtain rfl : m = 8 := by omega
          have he := crcIn_end l k hb0 hb1
          go_wp2
          exact ⟨⟨k + 1, by omega, rfl, by rw [he]⟩, by simp [intOf]; omega⟩
    · obtain rfl : k = n := by omega
      have hx : bits .xor .u32 IntKind.u32.max (prS (bitAt l) (8 * k)).toNat = (crcL l).toNat := by
        rw [crcL, ← HN.out]; exact crc_not _
      go_wp2
      go_ret
      exact ⟨rfl, rfl⟩

/-- A text as numbers. -/
def bytesOf (s : ByteArray) : List Int := s.data.toList.map (fun b => (b.toNat : Int))
theorem bytesOf_app (a b : ByteArray) : bytesOf (a ++ b) = bytesOf a ++ bytesOf b := by
  simp only [bytesOf, ByteArray.data_append, Array.toList_append, List.map_append]
theorem bytesOf_len (s : ByteArray) : (bytesOf s).length = s.size := by simp only [bytesOf, List.length_map, Array.length_toList]; rfl

def crcB (l : List Int) (k : Nat) : Bool := Bool.xor (bitAt l k) (decide (k < 32))
theorem or_top (x : BitVec 32) (β : Bool) : x >>> 1 ||| bt β = x >>> 1 ^^^ bt β := by
  apply BitVec.eq_of_getLsbD_eq
  intro i hi
  rw [BitVec.getLsbD_or, BitVec.getLsbD_xor, BitVec.getLsbD_ushiftRight]
  by_cases h : i = 31
  · subst h
    rw [BitVec.getLsbD_of_ge _ _ (by decide)]; simp
  · have : (bt β).getLsbD i = false := by
      cases β
      · simp [bt]
      · simp only [bt, if_true, BitVec.getLsbD, BitVec.toNat_ofNat]
        rw [show 2147483648 % 2 ^ 32 = 2 ^ 31 by decide, Nat.testBit_two_pow]; simp; omega
    rw [this]; simp
theorem shr1_nat (z : BitVec 32) : (z.toNat : Int) / (2 : Int) = ((z >>> 1).toNat : Int) := by
  rw [BitVec.toNat_ushiftRight, Nat.shiftRight_eq_div_pow]; rfl
theorem bits_or32 (a b : BitVec 32) : bits .or .u32 (a.toNat : Int) (b.toNat : Int) = ((a ||| b).toNat : Int) := by
  rw [u32_or_nat _ _ a.isLt b.isLt, BitVec.toNat_or]
theorem r_mid (C : BitVec 32) (β : Bool) : bits .or .u32 ((C.toNat : Int) / 2) (((bv β).toNat : Int) * 2147483648 % 4294967296) = ((C >>> 1 ^^^ bt β).toNat : Int) := by
  have e : ((bv β).toNat : Int) * 2147483648 % 4294967296 = ((bt β).toNat : Int) := by cases β <;> rfl
  rw [e, shr1_nat, bits_or32, or_top]
theorem r_odd (C : BitVec 32) (β : Bool) (B : Int) (hB : B = (bv β).toNat) (h : C.toNat % 2 = 1) :
    bits .xor .u32 (bits .or .u32 ((C.toNat : Int) / 2) (B * 2147483648 % 4294967296)) 3988292384 = ((lf C ^^^ bt β).toNat : Int) := by
  rw [hB, r_mid, show (3988292384 : Int) = ((3988292384#32 : BitVec 32).toNat : Int) from rfl, bits_xor32]
  have e : C.getLsbD 0 = true := by simp [BitVec.getLsbD, Nat.testBit_zero, h]
  simp only [lf, e, if_true]
  rw [BitVec.xor_assoc, BitVec.xor_comm (bt β), ← BitVec.xor_assoc]
theorem r_even (C : BitVec 32) (β : Bool) (B : Int) (hB : B = (bv β).toNat) (h : ¬ C.toNat % 2 = 1) :
    bits .or .u32 ((C.toNat : Int) / 2) (B * 2147483648 % 4294967296) = ((lf C ^^^ bt β).toNat : Int) := by
  rw [hB, r_mid]
  have e : C.getLsbD 0 = false := by simp [BitVec.getLsbD, Nat.testBit_zero]; omega
  simp only [lf, e, if_false, Bool.false_eq_true, BitVec.xor_zero]
theorem r_odd0 (C : BitVec 32) (β : Bool) (hB : β = false) (h : C.toNat % 2 = 1) :
    bits .xor .u32 (bits .or .u32 ((C.toNat : Int) / 2) 0) 3988292384 = ((lf C ^^^ bt β).toNat : Int) := r_odd C β 0 (by rw [hB]; rfl) h
theorem r_even0 (C : BitVec 32) (β : Bool) (hB : β = false) (h : ¬ C.toNat % 2 = 1) :
    bits .or .u32 ((C.toNat : Int) / 2) 0 = ((lf C ^^^ bt β).toNat : Int) := r_even C β 0 (by rw [hB]; rfl) h
theorem and_one (n : Nat) (h : n < 4294967296) : bits .and .u32 (n : Int) 1 = ((n % 2 : Nat) : Int) := by
  rw [show (1 : Int) = ((1 : Nat) : Int) from rfl, u32_and_nat n 1 h (by decide), nat_mask1]
theorem bytesOf_get (s : ByteArray) (i : Nat) (h : i < s.size) : (bytesOf s)[i]? = some (s[i].toNat : Int) := by
  have hk : i < s.data.toList.length := by rw [Array.length_toList]; exact h
  simp only [bytesOf, List.getElem?_map, List.getElem?_eq_getElem hk, Option.map_some]; rfl
theorem b_in (s : ByteArray) (k : Nat) (h : k / 8 < s.size) : bits .and .u32 ((s[k / 8].toNat : Int) % 4294967296 / 2 ^ (k % 8)) 1 = ((bv (bitAt (bytesOf s) k)).toNat : Int) := by
  have hb : s[k / 8].toNat < 256 := s[k / 8].toNat_lt
  have e : (s[k / 8].toNat : Int) % 4294967296 / 2 ^ (k % 8) = ((s[k / 8].toNat / 2 ^ (k % 8) : Nat) : Int) := by
    rw [Int.emod_eq_of_lt (by omega) (by omega)]; simp
  have hd : s[k / 8].toNat / 2 ^ (k % 8) ≤ s[k / 8].toNat := Nat.div_le_self _ _
  rw [e, and_one _ (by omega)]
  unfold bitAt; rw [bytesOf_get s _ h, Option.getD_some, Int.toNat_natCast, Nat.testBit_eq_decide_div_mod_eq]
  by_cases hh : s[k / 8].toNat / 2 ^ (k % 8) % 2 = 1
  · simp [hh, bv]
  · have : s[k / 8].toNat / 2 ^ (k % 8) % 2 = 0 := by omega
    simp [this, bv]
theorem b_not (β : Bool) : bits .xor .u32 ((bv β).toNat : Int) 1 = ((bv (!β)).toNat : Int) := by cases β <;> decide
theorem b_flip (s : ByteArray) (k : Nat) (h : k / 8 < s.size) : bits .xor .u32 (bits .and .u32 ((s[k / 8].toNat : Int) % 4294967296 / 2 ^ (k % 8)) 1) 1 = ((bv (!bitAt (bytesOf s) k)).toNat : Int) := by
  rw [b_in s k h, b_not]
theorem rfC_next (b : Nat → Bool) (k : Nat) : rfC b (k + 1) = lf (rfC b k) ^^^ bt (Bool.xor (b k) (decide (k < 32))) := rfl
theorem int_eq {k : IntKind} {a b : Int} (h : a = b) : Value.int k a = .int k b := by rw [h]

set_option maxHeartbeats 400000 in
theorem crcr_any (s : ByteArray) (w : World) (hm : s.size ≤ 4096) :
    Calls Try.prog 21 #[.string s] w fun e w' => e = .returned (.int .u32 (crcL (bytesOf s)).toNat) ∧ w' = w := by
  go_enter Try.func21, Try.ntmps21
  go_wp2
  go_loop [3, 4] (fun c i => ∃ k : Nat, k ≤ 8 * s.size + 32 ∧ i = .int .i64 k ∧ c = .int .u32 (rfC (bitAt (bytesOf s)) k).toNat) (fun _ i => 8 * s.size + 32 - (intOf i).toNat)
  case atStart => exact ⟨0, Nat.zero_le _, rfl, rfl⟩
  case round =>
    obtain ⟨k, hk, rfl, rfl⟩ := hrel
    by_cases hlt : k < 8 * s.size + 32
    · have hand := and_one (rfC (bitAt (bytesOf s)) k).toNat (rfC (bitAt (bytesOf s)) k).isLt
      by_cases hodd : (rfC (bitAt (bytesOf s)) k).toNat % 2 = 1
      · rw [hodd] at hand
        have HO : Hid ((rfC (bitAt (bytesOf s)) k).toNat % 2 = 1) := hodd
        clear hodd
        by_cases h8 : k < 8 * s.size
        · have hk8 : k / 8 < s.size := by omega
          by_cases h32 : k < 32
          · go_wp2
            exact ⟨⟨k + 1, by omega, rfl, int_eq ((r_odd _ _ _ (b_flip s k hk8) HO.out).trans (by rw [rfC_next]; simp [h32]))⟩, by simp [intOf]; omega⟩
          · go_wp2
            exact ⟨⟨k + 1, by omega, rfl, int_eq ((r_odd _ _ _ (b_in s k hk8) HO.out).trans (by rw [rfC_next]; simp [h32]))⟩, by simp [intOf]; omega⟩
        · have hbe := bitAt_end (bytesOf s) k (by rw [bytesOf_len]; omega)
          by_cases h32 : k < 32
          · go_wp2
            exact ⟨⟨k + 1, by omega, rfl, int_eq ((r_odd _ true _ (by decide) HO.out).trans (by rw [rfC_next]; simp [h32, hbe]))⟩, by simp [intOf]; omega⟩
          · go_wp2
            exact ⟨⟨k + 1, by omega, rfl, int_eq ((r_odd0 _ false rfl HO.out).trans (by rw [rfC_next]; simp [h32, hbe]))⟩, by simp [intOf]; omega⟩
      · rw [show (rfC (bitAt (bytesOf s)) k).toNat % 2 = 0 by omega] at hand
        have HO : Hid (¬ (rfC (bitAt (bytesOf s)) k).toNat % 2 = 1) := hodd
        clear hodd
        by_cases h8 : k < 8 * s.size
        · have hk8 : k / 8 < s.size := by omega
          by_cases h32 : k < 32
          · go_wp2
            exact ⟨⟨k + 1, by omega, rfl, int_eq ((r_even _ _ _ (b_flip s k hk8) HO.out).trans (by rw [rfC_next]; simp [h32]))⟩, by simp [intOf]; omega⟩
          · go_wp2
            exact ⟨⟨k + 1, by omega, rfl, int_eq ((r_even _ _ _ (b_in s k hk8) HO.out).trans (by rw [rfC_next]; simp [h32]))⟩, by simp [intOf]; omega⟩
        · have hbe := bitAt_end (bytesOf s) k (by rw [bytesOf_len]; omega)
          by_cases h32 : k < 32
          · go_wp2
            exact ⟨⟨k + 1, by omega, rfl, int_eq ((r_even _ true _ (by decide) HO.out).trans (by rw [rfC_next]; simp [h32, hbe]))⟩, by simp [intOf]; omega⟩
          · go_wp2
            exact ⟨⟨k + 1, by omega, rfl, int_eq ((r_even0 _ false rfl HO.out).trans (by rw [rfC_next]; simp [h32, hbe]))⟩, by simp [intOf]; omega⟩
    · obtain rfl : k = 8 * s.size + 32 := by omega
      have hx : bits .xor .u32 (rfC (bitAt (bytesOf s)) (8 * s.size + 32)).toNat 4294967295 = (crcL (bytesOf s)).toNat := by
        have e := crc_ref (bytesOf s)
        rw [bytesOf_len] at e
        rw [e, show (4294967295 : Int) = ((4294967295#32 : BitVec 32).toNat : Int) from rfl, bits_xor32, crcL, bytesOf_len, show (4294967295#32 : BitVec 32) = BitVec.allOnes 32 from rfl, BitVec.xor_allOnes]
      have hq : ¬ ((8 * s.size + 32 : Nat) : Int) < (s.size : Int) * 8 + 32 := by omega
      go_wp2
      go_ret
      exact ⟨rfl, rfl⟩
end Go.Proofs.Ytmikmnchaeblpaa
