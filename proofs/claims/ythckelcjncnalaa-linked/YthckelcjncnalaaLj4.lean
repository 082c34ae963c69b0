import Derived.Test.YthckelcjncnalaaLj3
namespace Go.Proofs.Ythckelcjncnalaa
open Go.RowKit

/-- The state of the statement's graph. -/
def GSt (B gb lo hi hb : Nat) (sv : SV) (vs : List (Int × SV)) (sz : Int) (m : Nat) (w wr : World) : Prop := Below B w wr ∧ ∃ nv p G, LK wr B gb lo hi hb sv vs sz nv p G ∧ G.n ≤ m
theorem GSt.ok {B gb lo hi hb : Nat} {sv : SV} {vs : List (Int × SV)} {sz : Int} {m m' : Nat} {w w1 w2 : World} (h : GSt B gb lo hi hb sv vs sz m w w1) {nv : Value} {p : PH} {G : GG} (B2 : Below B w1 w2) (L : LK w2 B gb lo hi hb sv vs sz nv p G) (hm : G.n ≤ m') : GSt B gb lo hi hb sv vs sz m' w w2 := ⟨h.1.trans B2, nv, p, G, L, hm⟩
set_option maxRecDepth 20000 in
set_option maxHeartbeats 2000000 in
theorem gwalk_any {B gb lo hi hb : Nat} {sv : SV} {vs : List (Int × SV)} {sz : Int} {m : Nat} {w0 w : World} (h : GSt B gb lo hi hb sv vs sz m w0 w) (hm : m ≤ 4398046511104) :
    Calls Try.prog 14 #[.pointer (some ⟨gb, 0, none⟩)] w fun e w' => e = .returned (.bool true) ∧ GSt B gb lo hi hb sv vs sz m w0 w' := by
  have HG : Hid (GSt B gb lo hi hb sv vs sz m w0 w) := h
  clear h
  go_enter Try.func14, Try.ntmps14
  go_wp2
  go_loopw [3] (fun iv wr => ∃ i : Nat, i ≤ 7 ∧ iv = .int .i64 i ∧ Hid (GSt B gb lo hi hb sv vs sz m w0 wr)) (fun iv _ => 7 - (intOf iv).toNat)
  case atStart => exact ⟨0, by omega, rfl, HG.out⟩
  case round =>
    clear HG
    obtain ⟨i, hi7, rfl, HG⟩ := hrel
    by_cases hlt : i < 7
    · have e7 : decide ((i : Int) + 1 < 8) = true := by simp; omega
      go_wp2
      go_loopw [4] (fun kv wq => ∃ k : Nat, k ≤ 2 ∧ kv = .int .i64 k ∧ Hid (GSt B gb lo hi hb sv vs sz m w0 wq)) (fun kv _ => 2 - (intOf kv).toNat)
      case atStart => exact ⟨0, by omega, rfl, HG.out⟩
      case round =>
        clear HG
        obtain ⟨k, hk, rfl, HG⟩ := hrel
        by_cases hk2 : k < 2
        · obtain ⟨B1, nv, p, G, L, hGm⟩ := HG.out
          have HL : Hid (LK wr B gb lo hi hb sv vs sz nv p G) := L
          have hsz : k < ({ data := #[97, 98] } : ByteArray).size := hk2
          obtain ⟨f, hf, ef⟩ : ∃ f : Int, (f = 97 ∨ f = 98) ∧ (((({ data := #[97, 98] } : ByteArray)[k]'hsz).toNat : Nat) : Int) = f := by
            have hkk : k = 0 ∨ k = 1 := by omega
            rcases hkk with rfl | rfl
            · exact ⟨97, .inl rfl, rfl⟩
            · exact ⟨98, .inr rfl, rfl⟩
          have C := gfollow_any L i 7 (by omega) (by omega) f hf
          unfold GOk at C
          have HEF : Hid ((((({ data := #[97, 98] } : ByteArray)[k]'hsz).toNat : Nat) : Int) = f) := ef
          clear L B1 ef hf
          go_wp2_with fail
          rw [HEF.out]
          refine C.mono ?_
          rintro e w2 ⟨rfl, B2, nv', p', G', L', hG'⟩
          have C2 := glook_any L' (by omega)
          have HG2 : Hid (GSt B gb lo hi hb sv vs sz m w0 w2) := HG.out.ok B2 L' (by omega)
          have HL' : Hid (LK w2 B gb lo hi hb sv vs sz nv' p' G') := L'
          have hGm' : G'.n ≤ m := by omega
          clear C B2 L' hG' HL HG
          go_wp2_with fail
          refine C2.mono ?_
          rintro e w3 ⟨rfl, B3⟩
          have HG3 : Hid (GSt B gb lo hi hb sv vs sz m w0 w3) := HG2.out.ok (HL'.out.bB B3) (HL'.out.below B3) hGm'
          clear C2 B3 HG2 HL'
          go_wp2
          exact ⟨⟨k + 1, by omega, rfl, HG3.out⟩, by simp [intOf]; omega⟩
        · obtain rfl : k = 2 := by omega
          go_wp2
          exact ⟨⟨i + 1, by omega, rfl, HG.out⟩, by simp [intOf]; omega⟩
    · obtain rfl : i = 7 := by omega
      go_wp2
      go_ret
      exact ⟨rfl, HG.out⟩
end Go.Proofs.Ythckelcjncnalaa
