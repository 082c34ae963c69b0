import Derived.Test.YthckelcjncnalabProg
import Derived.Test.YthckelcjncnalabPk1
import Derived.WalkKit
import Derived.WalkSpells
import Derived.WalkLawsBesides
import Derived.Laws.BitsAllLaws
import Derived.Laws.Shifts
import Derived.Deep.QuietTactic
import Derived.BigQuiet
namespace Go.Proofs.Ythckelcjncnalab
open Go.RowKit

theorem bits_xor32 (a b : BitVec 32) : bits .xor .u32 (a.toNat : Int) (b.toNat : Int) = ((a ^^^ b).toNat : Int) := by
  rw [u32_xor_nat _ _ a.isLt b.isLt, BitVec.toNat_xor]
theorem lf_odd (z : BitVec 32) (h : z.toNat % 2 = 1) : lf z = BitVec.ofNat 32 (z.toNat / 2) ^^^ 3988292384#32 := by
  have e : z.getLsbD 0 = true := by simp [BitVec.getLsbD, Nat.testBit_zero, h]
  have e2 : z >>> 1 = BitVec.ofNat 32 (z.toNat / 2) := by
    apply BitVec.eq_of_toNat_eq
    have := z.isLt
    rw [BitVec.toNat_ushiftRight, BitVec.toNat_ofNat, Nat.shiftRight_eq_div_pow, Nat.mod_eq_of_lt (by omega)]
  unfold lf; rw [e, e2]; rfl
theorem lf_even (z : BitVec 32) (h : ¬ z.toNat % 2 = 1) : lf z = BitVec.ofNat 32 (z.toNat / 2) := by
  have e : z.getLsbD 0 = false := by simp [BitVec.getLsbD, Nat.testBit_zero]; omega
  have e2 : z >>> 1 = BitVec.ofNat 32 (z.toNat / 2) := by
    apply BitVec.eq_of_toNat_eq
    have := z.isLt
    rw [BitVec.toNat_ushiftRight, BitVec.toNat_ofNat, Nat.shiftRight_eq_div_pow, Nat.mod_eq_of_lt (by omega)]
  unfold lf; rw [e, e2]; simp
theorem half_nat (z : BitVec 32) : (BitVec.ofNat 32 (z.toNat / 2)).toNat = z.toNat / 2 := by
  have := z.isLt
  rw [BitVec.toNat_ofNat, Nat.mod_eq_of_lt (by omega)]
theorem step_bit (b : Nat → Bool) (n j : Nat) (v : BitVec 32) (h : b n = v.getLsbD j) : lf (prS b n ^^^ (v >>> j)) = prS b (n + 1) ^^^ (v >>> (j + 1)) := by
  have key : lf (bv (b n)) ^^^ lf (v >>> j) = v >>> (j + 1) := by
    rw [← lf_xor]
    have e0 : (bv (b n) ^^^ (v >>> j)).getLsbD 0 = false := by
      rw [BitVec.getLsbD_xor, BitVec.getLsbD_ushiftRight, Nat.add_zero, ← h]; cases b n <;> rfl
    unfold lf
    rw [e0, BitVec.ushiftRight_xor_distrib, ← BitVec.shiftRight_add]
    have : bv (b n) >>> 1 = 0#32 := by cases b n <;> rfl
    rw [this]; simp
  rw [prS, lf_xor, lf_xor, BitVec.xor_assoc, ← key]
  congr 1
  rw [← BitVec.xor_assoc, BitVec.xor_self, BitVec.zero_xor]
theorem shr8 (n : Nat) (h : n < 256) : BitVec.ofNat 32 n >>> 8 = 0#32 := by
  apply BitVec.eq_of_toNat_eq
  rw [BitVec.toNat_ushiftRight, BitVec.toNat_ofNat, Nat.shiftRight_eq_div_pow, Nat.mod_eq_of_lt (by omega)]
  simp; omega
theorem byte_bit (l : List Int) (k j : Nat) (hj : j < 8) (h0 : 0 ≤ l[k]?.getD 0) (h1 : l[k]?.getD 0 ≤ 255) : bitAt l (8 * k + j) = (BitVec.ofNat 32 (l[k]?.getD 0).toNat).getLsbD j := by
  unfold bitAt
  rw [show (8 * k + j) / 8 = k by omega, show (8 * k + j) % 8 = j by omega, BitVec.getLsbD, BitVec.toNat_ofNat, Nat.mod_eq_of_lt (by omega)]

def crcIn (l : List Int) (k j : Nat) : BitVec 32 := prS (bitAt l) (8 * k + j) ^^^ (BitVec.ofNat 32 (l[k]?.getD 0).toNat >>> j)
theorem crcIn_start (l : List Int) (k : Nat) (h0 : 0 ≤ l[k]?.getD 0) (h1 : l[k]?.getD 0 ≤ 255) : bits .xor .u32 ((prS (bitAt l) (8 * k)).toNat : Int) (l[k]?.getD 0) = ((crcIn l k 0).toNat : Int) := by
  have e : (l[k]?.getD 0) = ((BitVec.ofNat 32 (l[k]?.getD 0).toNat).toNat : Int) := by
    rw [BitVec.toNat_ofNat, Nat.mod_eq_of_lt (by omega)]; omega
  rw [e, bits_xor32]; simp [crcIn]
theorem crcIn_end (l : List Int) (k : Nat) (h0 : 0 ≤ l[k]?.getD 0) (h1 : l[k]?.getD 0 ≤ 255) : crcIn l k 8 = prS (bitAt l) (8 * (k + 1)) := by
  unfold crcIn; rw [shr8 _ (by omega), BitVec.xor_zero]; rfl
theorem crcIn_step (l : List Int) (k j : Nat) (hj : j < 8) (h0 : 0 ≤ l[k]?.getD 0) (h1 : l[k]?.getD 0 ≤ 255) : lf (crcIn l k j) = crcIn l k (j + 1) :=
  step_bit _ _ _ _ (byte_bit l k j hj h0 h1)
theorem crcIn_odd (l : List Int) (k j : Nat) (hj : j < 8) (h0 : 0 ≤ l[k]?.getD 0) (h1 : l[k]?.getD 0 ≤ 255) (h : (crcIn l k j).toNat % 2 = 1) : bits .xor .u32 (((crcIn l k j).toNat : Int) / 2) 3988292384 = ((crcIn l k (j + 1)).toNat : Int) := by
  rw [← crcIn_step l k j hj h0 h1, lf_odd _ h, ← bits_xor32, half_nat]; rfl
theorem crcIn_even (l : List Int) (k j : Nat) (hj : j < 8) (h0 : 0 ≤ l[k]?.getD 0) (h1 : l[k]?.getD 0 ≤ 255) (h : ¬ (crcIn l k j).toNat % 2 = 1) : ((crcIn l k j).toNat : Int) / 2 = ((crcIn l k (j + 1)).toNat : Int) := by
  rw [← crcIn_step l k j hj h0 h1, lf_even _ h, half_nat]; rfl

theorem crc_not (z : BitVec 32) : bits .xor .u32 IntKind.u32.max (z.toNat : Int) = ((~~~z).toNat : Int) := by
  have : IntKind.u32.max = ((4294967295#32 : BitVec 32).toNat : Int) := by decide
  rw [this, bits_xor32, show (4294967295#32 : BitVec 32) = BitVec.allOnes 32 from rfl, BitVec.allOnes_xor]
theorem ret_int {k : IntKind} {a b : Int} (h : a = b) : Ending.returned (.int k a) = .returned (.int k b) := by rw [h]
set_option maxHeartbeats 400000 in
theorem crcp_any (g cap : Nat) (l : List Int) (w : World) (hb : isB l) (hm : l.length ≤ 4096) (hc : ∀ i, i < l.length → w.cell? ⟨g, i, none⟩ = some (.int .u8 (l[i]?.getD 0))) :
    Calls Try.prog 39 #[.slice (some ⟨g, 0, none⟩) l.length cap] w fun e w' => e = .returned (.int .u32 (crcL l).toNat) ∧ w' = w := by
  obtain ⟨n, hn⟩ : ∃ n, n = l.length := ⟨_, rfl⟩
  have hbd : ∀ k : Nat, 0 ≤ l[k]?.getD 0 ∧ l[k]?.getD 0 ≤ 255 := by
    intro k
    cases e : l[k]? with
    | none => simp
    | some x => exact hb x (List.mem_of_getElem? e)
  have HB : Hid (∀ k : Nat, 0 ≤ l[k]?.getD 0 ∧ l[k]?.getD 0 ≤ 255) := hbd
  rw [← hn] at hm hc ⊢
  have HN : Hid (n = l.length) := hn
  clear hn hb hbd
  go_enter Try.func39, Try.ntmps39
  go_wp2
  go_loop [3, 10] (fun c i => ∃ k : Nat, k ≤ n ∧ i = .int .i64 k ∧ c = .int .u32 (prS (bitAt l) (8 * k)).toNat) (fun _ i => n - (intOf i).toNat)
  case atStart => exact ⟨0, Nat.zero_le _, rfl, rfl⟩
  case round =>
    obtain ⟨k, hk, rfl, rfl⟩ := hrel
    by_cases hlt : k < n
    · have hck := hc k hlt
      have hb0 := (HB.out k).1
      have hb1 := (HB.out k).2
      have hst := crcIn_start l k hb0 hb1
      go_wp2
      go_loop [3, 6] (fun c j => ∃ m : Nat, m ≤ 8 ∧ j = .int .i64 m ∧ c = .int .u32 (crcIn l k m).toNat) (fun _ j => 8 - (intOf j).toNat)
      case atStart => exact ⟨0, Nat.zero_le _, rfl, rfl⟩
      case round =>
        obtain ⟨m, hm8, rfl, rfl⟩ := hrel
        by_cases hlt8 : m < 8
        · have hz : (crcIn l k m).toNat < 4294967296 := (crcIn l k m).isLt
          by_cases hodd : (crcIn l k m).toNat % 2 = 1
          · have hx := crcIn_odd l k m hlt8 hb0 hb1 hodd
            have ho : (((crcIn l k m).toNat : Int).tmod 2 == 1) = true := by rw [Int.tmod_eq_emod_of_nonneg (by omega)]; simp; omega
            go_wp2
            exact ⟨⟨m + 1, by omega, rfl, rfl⟩, by simp [intOf]; omega⟩
          · have hx := crcIn_even l k m hlt8 hb0 hb1 hodd
            have ho : (((crcIn l k m).toNat : Int).tmod 2 == 1) = false := by rw [Int.tmod_eq_emod_of_nonneg (by omega)]; simp; omega
            go_wp2
            exact ⟨⟨m + 1, by omega, rfl, rfl⟩, by simp [intOf]; omega⟩
        · obtain rfl : m = 8 := by omega
          have he := crcIn_end l k hb0 hb1
          go_wp2
          exact ⟨⟨k + 1, by omega, rfl, by rw [he]⟩, by simp [intOf]; omega⟩
    · obtain rfl : k = n := by omega
      have hx : bits .xor .u32 IntKind.u32.max (prS (bitAt l) (8 * k)).toNat = (crcL l).toNat := by
        rw [crcL, ← HN.out]; exact crc_not _
      go_wp2
      go_ret
      exact ⟨rfl, rfl⟩

/-- A text as numbers. -/
def bytesOf (s : ByteArray) : List Int := s.data.toList.map (fun b => (b.toNat : Int))
theorem bytesOf_app (a b : ByteArray) : bytesOf (a ++ b) = bytesOf a ++ bytesOf b := by
  simp only [bytesOf, ByteArray.data_append, Array.toList_append, List.map_append]
theorem bytesOf_len (s : ByteArray) : (bytesOf s).length = s.size := by simp only [bytesOf, List.length_map, Array.length_toList]; rfl

theorem bytesOf_get (s : ByteArray) (i : Nat) (h : i < s.size) : (bytesOf s)[i]? = some (s[i].toNat : Int) := by
  have hk : i < s.data.toList.length := by rw [Array.length_toList]; exact h
  simp only [bytesOf, List.getElem?_map, List.getElem?_eq_getElem hk, Option.map_some]; rfl
end Go.Proofs.Ythckelcjncnalab
