import Derived.Test.YthckelcjncnalabWr2
import Derived.Deep.RegionWith
namespace Go.Proofs.Ythckelcjncnalab
open Go.RowKit

def rot (first : Int) (fr j : Nat) : Int := first + ((fr + j) % 26 : Nat)
/-- The letters of a list, one behind the other. -/
def Row (first : Int) (fr : Nat) (l : List Int) : Prop := l = (List.range l.length).map (rot first fr)
theorem Row.nil (first : Int) (fr : Nat) : Row first fr [] := rfl
theorem Row.snoc {first : Int} {fr : Nat} {l : List Int} (h : Row first fr l) : Row first fr (l ++ [rot first fr l.length]) := by
  simp only [Row, List.length_append, List.length_cons, List.length_nil, Nat.zero_add, List.range_succ, List.map_append, List.map_cons, List.map_nil]
  rw [← h]
theorem Row.nodup {first : Int} {fr : Nat} {l : List Int} (h : Row first fr l) (hl : l.length ≤ 26) : l.Nodup := by
  rw [h, List.nodup_iff_pairwise_ne, List.pairwise_map]
  refine List.Pairwise.imp_of_mem (R := fun i j => i < j) (fun {i j} hi hj hij => ?_) List.pairwise_lt_range
  simp at hi hj
  simp only [rot]
  omega

def kindsS : ByteArray := ⟨#[98, 104, 119, 108, 114]⟩
theorem kind_one (d : Nat) (h : d < 5) : ∃ x, bytesOf (kindsS.extract d (d + 1)) = [x] ∧ isKindB x = true := by
  match d, h with
  | 0, _ => exact ⟨98, by decide, by decide⟩
  | 1, _ => exact ⟨104, by decide, by decide⟩
  | 2, _ => exact ⟨119, by decide, by decide⟩
  | 3, _ => exact ⟨108, by decide, by decide⟩
  | 4, _ => exact ⟨114, by decide, by decide⟩

theorem rot_cast (first : Int) (fr i : Nat) : first + ((fr : Int) + (i : Int)) % 26 = rot first fr i := by simp only [rot]; omega
theorem txS_snoc (cs : List (Int × List (Int × Int))) (c : Int × List (Int × Int)) : txS (cs ++ [c]) = txS cs ++ txC c := by simp [txS]

theorem wrap_small (x : Int) (h0 : 0 ≤ x) (h1 : x ≤ 1000) : IntKind.i64.wrap x = x := by rw [IntKind.wrap_i64]; omega
theorem slice_kind (wx : World) (kd : Nat) (h : kd < 5) : (Instr.slice 9 (.string ⟨#[98, 104, 119, 108, 114]⟩) (some (.int .i64 (kd : Int))) (some (.int .i64 ((kd : Int) + 1))) none).run Try.prog wx = .ok (.string (kindsS.extract kd (kd + 1))) wx := by
  have := run_slice_string (P := Try.prog) wx 9 kindsS .i64 .i64 (kd : Int) ((kd : Int) + 1) Try.underlying9 (by omega) (by omega) (by have : kindsS.size = 5 := rfl; omega)
  simpa [kindsS] using this
theorem field_more {fs : List (Int × Int)} {fi j : Nat} {x : Int} (h : okF fs) (hx : isKindB x = true) : okF (fs ++ [(rot 97 fi j, x)]) := by
  intro f hf
  rcases List.mem_append.1 hf with h' | h'
  · exact h f h'
  · simp at h'
    subst h'
    exact ⟨by simp only [rot]; omega, by simp only [rot]; omega, hx⟩
theorem class_more {cs : List (Int × List (Int × Int))} {fr fi i : Nat} {fs : List (Int × Int)} (hok : ∀ c ∈ cs, okC c) (hl : fs.length ≤ 6) (hf : okF fs) (hr : Row 97 fi (fs.map (·.1))) : ∀ c ∈ cs ++ [(rot 65 fr i, fs)], okC c := by
  intro c hc
  rcases List.mem_append.1 hc with h | h
  · exact hok c h
  · simp at h
    subst h
    exact ⟨by simp only [rot]; omega, by simp only [rot]; omega, hl, hr.nodup (by simp; omega), hf⟩

set_option maxHeartbeats 1000000 in
theorem dclasses_any (w : World) (b : Nat) (a : Option Addr) (len cap k : Nat) (Z : Nat → Int) (h : DS w b a len cap k Z) :
    Calls Try.prog 6 #[.pointer (some ⟨b, 0, none⟩)] w fun e w' => (∃ s cs, e = .returned (.tuple #[.string s, .int .i64 ((cs.length : Nat) : Int)]) ∧ Sch cs ∧ bytesOf s = txS cs) ∧ w.grownBy w' (some b) := by
  have D0 := h
  clear h
  go_enter Try.func6, Try.ntmps6
  go_wp2_with fail
  refine (dnext_any _ b a len cap _ Z _ D0 (by omega) (by omega)).mono ?_
  rintro e w1 ⟨⟨d, rfl, hd⟩, ⟨k1, D1⟩, g1⟩
  go_wp2_with fail
  refine (dnext_any _ b a len cap _ Z _ D1 (by omega) (by omega)).mono ?_
  rintro e w2 ⟨⟨fr, rfl, hfr⟩, ⟨k2, D2⟩, g2⟩
  go_wp2_with fail
  go_loopw [4, 7] (fun sv iv wr => ∃ (i : Nat) (s : ByteArray) (cs : List (Int × List (Int × Int))) (k : Nat), i ≤ d + 1 ∧ iv = .int .i64 i ∧ sv = .string s ∧ cs.length = i ∧ bytesOf s = txS cs ∧ (∀ c ∈ cs, okC c) ∧ Row 65 fr (cs.map (·.1)) ∧ DS wr b a len cap k Z ∧ w.grownBy wr (some b)) (fun _ iv _ => d + 1 - (intOf iv).toNat)
  case atStart => exact ⟨0, _, [], k2, by omega, rfl, rfl, rfl, rfl, (fun c hc => by simp at hc), Row.nil _ _, D2, gb_trans g1 g2⟩
  case round =>
    clear D0 D1 D2 g1 g2
    obtain ⟨i, s, cs, k, hi, rfl, rfl, hlen, hs, hok, hrow, D0, G0⟩ := hrel
    have hsz : s.size ≤ 156 := by
      have h1 := txS_len cs hok
      rw [← hs, bytesOf_len, hlen] at h1; omega
    have HS : Hid (bytesOf s = txS cs ∧ cs.length = i ∧ (∀ c ∈ cs, okC c) ∧ Row 65 fr (cs.map (·.1))) := ⟨hs, hlen, hok, hrow⟩
    clear hs hlen hok hrow
    by_cases hlt : i < d + 1
    · go_wp2_with fail
      refine (letter_any 65 _ _ (.inl rfl) (by omega) (by omega)).mono ?_
      rintro e w3 ⟨⟨l, rfl, hl⟩, hb3⟩
      have D3 := D0.kept hb3
      have G3 := gb_trans G0 (gb_below hb3 (some b))
      have hl1 : l.size = 1 := by rw [← bytesOf_len, hl]; rfl
      have HL : Hid (bytesOf l = [65 + ((fr : Int) + (i : Int)) % 26]) := hl
      clear D0 G0 hb3 hl
      go_wp2_with fail
      refine (dnext_any _ b a len cap _ Z _ D3 (by omega) (by omega)).mono ?_
      rintro e w4 ⟨⟨mm, rfl, hmm⟩, ⟨k4, D4⟩, g4⟩
      have G4 := gb_trans G3 g4
      clear D3 G3 g4
      go_wp2_with fail
      refine (dnext_any _ b a len cap _ Z _ D4 (by omega) (by omega)).mono ?_
      rintro e w5 ⟨⟨fi, rfl, hfi⟩, ⟨k5, D5⟩, g5⟩
      have G5 := gb_trans G4 g5
      clear D4 G4 g5
      go_wp2_with fail
      go_loopw [4, 10] (fun sv jv wr => ∃ (j : Nat) (s2 : ByteArray) (fs : List (Int × Int)) (k : Nat), j ≤ mm ∧ jv = .int .i64 j ∧ sv = .string s2 ∧ fs.length = j ∧ bytesOf s2 = txS cs ++ ([rot 65 fr i, 123] ++ txF fs) ∧ okF fs ∧ Row 97 fi (fs.map (·.1)) ∧ DS wr b a len cap k Z ∧ w.grownBy wr (some b)) (fun _ jv _ => mm - (intOf jv).toNat)
      case atStart =>
        refine ⟨0, _, [], k5, by omega, rfl, rfl, rfl, ?_, (fun c hc => by simp at hc), Row.nil _ _, D5, G5⟩
        rw [bytesOf_app, bytesOf_app, HS.out.1, HL.out, rot_cast]
        simp [txF]; rfl
      case round =>
        clear D5 G5
        obtain ⟨j, s2, fs, k, hj, rfl, rfl, hflen, hs2, hfok, hfrow, D0, G0⟩ := hrel
        have hsz2 : s2.size ≤ 300 := by
          have h1 := txS_len cs HS.out.2.2.1
          have h2 := txF_le fs (by omega)
          have h3 := HS.out.2.1
          rw [← bytesOf_len, hs2]; simp; omega
        have HF : Hid (fs.length = j ∧ bytesOf s2 = txS cs ++ ([rot 65 fr i, 123] ++ txF fs) ∧ okF fs ∧ Row 97 fi (fs.map (·.1))) := ⟨hflen, hs2, hfok, hfrow⟩
        clear hflen hs2 hfok hfrow
        by_cases hjl : j < mm
        · by_cases hj0 : j ≤ 0
          · go_wp2_with fail
            refine (dnext_any _ b a len cap _ Z _ D0 (by omega) (by omega)).mono ?_
            rintro e w6 ⟨⟨kd, rfl, hkd⟩, ⟨k6, D6⟩, g6⟩
            have G6 := gb_trans G0 g6
            clear D0 G0 g6
            have hw1 := wrap_small ((fi : Int) + (j : Int)) (by omega) (by omega)
            have hw2 := wrap_small ((kd : Int) + 1) (by omega) (by omega)
            have ht1 : ((fi : Int) + (j : Int)).tmod 26 = ((fi : Int) + (j : Int)) % 26 := Int.tmod_eq_emod_of_nonneg (by omega)
            have hsl := fun wx => slice_kind wx kd (by omega)
            go_wp2_with fail
            go_region_with (go_at_call 18; refine (letter_any 97 _ _ (.inr rfl) (by omega) (by omega)).mono ?_; rintro e w7 ⟨⟨l7, rfl, hl7⟩, hb7⟩; have HL7 : Hid _ := hl7; have hl71 : l7.size = 1 := (by rw [← bytesOf_len, hl7]; rfl); clear hl7)
            have D7 := (D6.drewN 1).kept hb7
            have G7 := gb_trans (gb_drew G6 1) (gb_below hb7 (some b))
            clear D6 G6 hb7 hw1 hw2 ht1 hsl
            go_wp2_with fail
            go_roundw
            case rel =>
              obtain ⟨hflen, hs2, hfok, hfrow⟩ := HF.out
              obtain ⟨x, hx1, hx2⟩ := kind_one kd (by omega)
              have hl7 := HL7.out
              rw [rot_cast] at hl7
              refine ⟨j + 1, _, fs ++ [(rot 97 fi j, x)], k6, by omega, by go_num, rfl, by simp [hflen], ?_, field_more hfok hx2, by have := hfrow.snoc; simpa [hflen] using this, D7, G7⟩
              have hnil : fs = [] := List.length_eq_zero_iff.1 (by omega)
              rw [bytesOf_app, bytesOf_app, bytesOf_app, hs2, hl7, hx1, hnil]
              simp [txF]; rfl
            case measure => simp [intOf]; omega
          · have hjp : 0 < j := by omega
            clear hj0
            go_wp2_with fail
            refine (dnext_any _ b a len cap _ Z _ D0 (by omega) (by omega)).mono ?_
            rintro e w6 ⟨⟨kd, rfl, hkd⟩, ⟨k6, D6⟩, g6⟩
            have G6 := gb_trans G0 g6
            clear D0 G0 g6
            have hw1 := wrap_small ((fi : Int) + (j : Int)) (by omega) (by omega)
            have hw2 := wrap_small ((kd : Int) + 1) (by omega) (by omega)
            have ht1 : ((fi : Int) + (j : Int)).tmod 26 = ((fi : Int) + (j : Int)) % 26 := Int.tmod_eq_emod_of_nonneg (by omega)
            have hsl := fun wx => slice_kind wx kd (by omega)
            go_wp2_with fail
            go_region_with (go_at_call 18; refine (letter_any 97 _ _ (.inr rfl) (by omega) (by omega)).mono ?_; rintro e w7 ⟨⟨l7, rfl, hl7⟩, hb7⟩; have HL7 : Hid _ := hl7; have hl71 : l7.size = 1 := (by rw [← bytesOf_len, hl7]; rfl); clear hl7)
            have D7 := (D6.drewN 1).kept hb7
            have G7 := gb_trans (gb_drew G6 1) (gb_below hb7 (some b))
            clear D6 G6 hb7 hw1 hw2 ht1 hsl
            go_wp2_with fail
            go_roundw
            case rel =>
              obtain ⟨hflen, hs2, hfok, hfrow⟩ := HF.out
              obtain ⟨x, hx1, hx2⟩ := kind_one kd (by omega)
              have hl7 := HL7.out
              rw [rot_cast] at hl7
              refine ⟨j + 1, _, fs ++ [(rot 97 fi j, x)], k6, by omega, by go_num, rfl, by simp [hflen], ?_, field_more hfok hx2, by have := hfrow.snoc; simpa [hflen] using this, D7, G7⟩
              have hnil : fs ≠ [] := fun h => by rw [h] at hflen; simp at hflen; omega
              rw [bytesOf_app, bytesOf_app, bytesOf_app, bytesOf_app, hs2, hl7, hx1, txF_snoc, if_neg hnil]
              simp; rfl
            case measure => simp [intOf]; omega
        · have hge : mm ≤ j := by omega
          go_wp2_with fail
          go_roundw
          case rel =>
            obtain ⟨hs, hlen, hok, hrow⟩ := HS.out
            obtain ⟨hflen, hs2, hfok, hfrow⟩ := HF.out
            exact ⟨i + 1, _, cs ++ [(rot 65 fr i, fs)], k, by omega, by go_num, rfl, by simp [hlen], by rw [bytesOf_app, hs2, txS_snoc]; simp [txC]; rfl, class_more hok (by omega) hfok hfrow, by have := hrow.snoc; simpa [hlen] using this, D0, G0⟩
          case measure => simp [intOf]; omega
    · have hge : d + 1 ≤ i := by omega
      clear hlt
      go_wp2_with fail
      go_ret2
      obtain ⟨hs, hlen, hok, hrow⟩ := HS.out
      refine ⟨⟨s, cs, by rw [hlen]; go_num, ⟨by omega, by omega, hrow.nodup (by simp; omega), hok⟩, hs⟩, G0⟩
end Go.Proofs.Ythckelcjncnalab
