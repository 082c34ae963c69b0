import Derived.Test.YthckelcjncnalaaDoorRf2
namespace Go.Proofs.YthckelcjncnalaaDoor
open Go.RowKit

/-- A class of a schema, as the reference reads it. -/
def gfClass (t : ByteArray) (p : Int) : Option (Int × List GF) :=
  if 65 ≤ nextB t 0 ∧ nextB t 0 ≤ 90 ∧ nextB t 1 = 123 then (gfFields (t.extract 2 t.size) (p + 1 + 1)).map (fun l => (nextB t 0, l)) else none

def ClPost (R : Option (Int × List GF)) (p : Int) (w : World) (e : Ending) (w' : World) : Prop := ∃ (x0 : Int) (a : Option Addr) (n c : Nat),
  e = .returned (.tuple #[.agg #[.int .u8 x0, .int .u8 0, .int .i64 p, .int .i64 0, .slice a n c], .bool R.isSome]) ∧
    (∀ r, R = some r → x0 = r.1 ∧ RV w' w.heap.size (.slice a n c) r.2) ∧ Below w.heap.size w w'

/-- b is the least place from k on at which a brace opens; -1: there is none. -/
def Brace (t : ByteArray) (k : Nat) (b : Int) : Prop :=
  (b = -1 ∧ ∀ j, k ≤ j → nextB t j ≠ 123) ∨ ∃ j : Nat, b = j ∧ k ≤ j ∧ j < t.size ∧ nextB t j = 123 ∧ ∀ i, k ≤ i → i < j → nextB t i ≠ 123

theorem Brace.start (t : ByteArray) : Brace t t.size (-1) := .inl ⟨rfl, fun j hj => by rw [nextB_out (by omega)]; omega⟩
theorem Brace.hit {t : ByteArray} {k : Nat} (hk : k < t.size) (h : nextB t k = 123) : Brace t k k := .inr ⟨k, rfl, Nat.le_refl _, hk, h, fun i h1 h2 => by omega⟩
theorem Brace.miss {t : ByteArray} {k : Nat} {b : Int} (hb : Brace t (k + 1) b) (h : nextB t k ≠ 123) : Brace t k b := by
  rcases hb with ⟨rfl, hn⟩ | ⟨j, rfl, h1, h2, h3, h4⟩
  · refine .inl ⟨rfl, fun j hj => ?_⟩
    rcases Nat.eq_or_lt_of_le hj with rfl | h'
    · exact h
    · exact hn j h'
  · refine .inr ⟨j, rfl, by omega, h2, h3, fun i hi hij => ?_⟩
    rcases Nat.eq_or_lt_of_le hi with rfl | h'
    · exact h
    · exact h4 i h' hij

theorem gfClass_low {t : ByteArray} {p b : Int} (hb : Brace t 0 b) (h : b < 1) : gfClass t p = none := by
  simp only [gfClass]
  rw [if_neg]
  rintro ⟨h1, h2, h3⟩
  rcases hb with ⟨rfl, hn⟩ | ⟨j, rfl, _, _, h4, _⟩
  · exact hn 1 (by omega) h3
  · have : j = 0 := by omega
    subst this; omega
theorem gfClass_letter {t : ByteArray} {p : Int} (h : ¬ (65 ≤ nextB t 0 ∧ nextB t 0 ≤ 90)) : gfClass t p = none := by
  simp only [gfClass]
  rw [if_neg]
  rintro ⟨h1, h2, _⟩
  exact h ⟨h1, h2⟩
theorem gfClass_far {t : ByteArray} {p b : Int} (hb : Brace t 0 b) (h : 2 ≤ b) : gfClass t p = none := by
  simp only [gfClass]
  rw [if_neg]
  rintro ⟨h1, h2, h3⟩
  rcases hb with ⟨rfl, hn⟩ | ⟨j, rfl, _, _, _, h5⟩
  · omega
  · exact h5 1 (by omega) (by omega) h3

set_option maxHeartbeats 1000000 in
set_option maxRecDepth 20000 in
theorem rclass_any (t : ByteArray) (p : Int) (w : World) (hm : t.size ≤ 1000) (hp : 0 ≤ p) (hp' : p ≤ 900) :
    Calls Tryd.prog 18 #[.string t, .int .i64 p, .bool false] w (ClPost (gfClass t p) p w) := by
  go_enter Tryd.func18, Tryd.ntmps18
  go_wp2
  go_loop [9, 10] (fun b i => ∃ (k : Nat) (bb : Int), k ≤ t.size ∧ i = .int .i64 ((k : Int) - 1) ∧ b = .int .i64 bb ∧ Brace t k bb) (fun _ i => (intOf i + 1).toNat)
  case atStart => exact ⟨t.size, -1, Nat.le_refl _, rfl, rfl, Brace.start t⟩
  case round =>
    obtain ⟨k, bb, hk, rfl, rfl, hB⟩ := hrel
    rcases k with _ | k
    · clear hk
      by_cases hb1 : bb < 1
      · have HR : Hid (gfClass t p = none) := gfClass_low hB hb1
        clear hB
        go_wp2
        refine bodyPost_ret (v := .tuple #[.agg #[.int .u8 0, .int .u8 0, .int .i64 p, .int .i64 0, .slice none 0 0], .bool false]) (by simp [results, Tryd.results18, go_sem]) rfl ⟨_, _, _, _, by rw [HR.out]; rfl, ?_, ?_⟩
        · intro r hr; rw [HR.out] at hr; cases hr
        · exact ((Below.refl _ _).alloc (Nat.le_refl _) _).alloc (by simp) _
      obtain ⟨j, rfl, hj⟩ : ∃ j : Nat, bb = j ∧ j < t.size := by
        rcases hB with ⟨rfl, _⟩ | ⟨j, rfl, _, h, _⟩
        · omega
        · exact ⟨j, rfl, h⟩
      have g0 : 0 < t.size := by omega
      have hj1 : 1 ≤ j := by omega
      cases am' : (decide (65 ≤ nextB t 0) && decide (nextB t 0 ≤ 90)) with
      | false =>
        have HR : Hid (gfClass t p = none) := gfClass_letter (by simp at am'; omega)
        have am := am'
        rw [nextB_in g0] at am
        clear hB am'
        go_wp2_with (go_at_call 30; refine (among_any _ _ _ _ false am).mono ?_; rintro e w' ⟨rfl, rfl⟩)
        refine bodyPost_ret (v := .tuple #[.agg #[.int .u8 0, .int .u8 0, .int .i64 p, .int .i64 0, .slice none 0 0], .bool false]) (by simp [results, Tryd.results18, go_sem]) rfl ⟨_, _, _, _, by rw [HR.out]; rfl, ?_, ?_⟩
        · intro r hr; rw [HR.out] at hr; cases hr
        · exact ((Below.refl _ _).alloc (Nat.le_refl _) _).alloc (by simp) _
      | true =>
        have am := am'
        rw [nextB_in g0] at am
        by_cases hj2 : 2 ≤ j
        · have HR : Hid (gfClass t p = none) := gfClass_far hB (by omega)
          have hne : (t.extract 1 j).toList.isEmpty = false := by rw [empty_size]; exact decide_eq_false (by simp; omega)
          clear hB am'
          go_wp2_with (go_at_call 30; refine (among_any _ _ _ _ true am).mono ?_; rintro e w' ⟨rfl, rfl⟩)
          refine bodyPost_ret (v := .tuple #[.agg #[.int .u8 (t[0]'g0).toNat, .int .u8 0, .int .i64 p, .int .i64 0, .slice none 0 0], .bool false]) (by simp [results, Tryd.results18, go_sem]) rfl ⟨_, _, _, _, by rw [HR.out]; rfl, ?_, ?_⟩
          · intro r hr; rw [HR.out] at hr; cases hr
          · exact ((Below.refl _ _).alloc (Nat.le_refl _) _).alloc (by simp) _
        · have hj3 : j = 1 := by omega
          subst hj3
          have h123 : nextB t 1 = 123 := by
            rcases hB with ⟨h, _⟩ | ⟨j, h, _, _, h4, _⟩
            · omega
            · have : j = 1 := by omega
              subst this; exact h4
          have HR : Hid (gfClass t p = (gfFields (t.extract 2 t.size) (p + 1 + 1)).map (fun l => (nextB t 0, l))) := by
            show gfClass t p = _
            simp only [gfClass]
            rw [if_pos (by simp at am'; exact ⟨am'.1, am'.2, h123⟩)]
          have e0 : Hid (nextB t 0 = ((t[0]'g0).toNat : Int)) := nextB_in g0
          have hne : (t.extract 1 1).toList.isEmpty = true := by rw [empty_size]; simp
          clear hB am' h123 hb1 hj2
          go_wp2_with (first | (go_at_call 30; refine (among_any _ _ _ _ true am).mono ?_; rintro e w' ⟨rfl, rfl⟩) | (go_at_call 31; refine (rfields_any (t.extract 2 t.size) (p + 1 + 1) _ (by simp; omega) (by omega) (by omega)).mono ?_; rintro e w1 ⟨a, n, c, rfl, V1, hb1⟩; obtain ⟨lc1, lf1⟩ := bcell hb1; have hz1 : w.heap.size + 1 < w1.heap.size := by have := hb1.size; simp at this; omega))
          have d0 : w1.cell? ⟨w.heap.size, 0, none⟩ = some (.int .u8 0) := by go_simp
          have d1 : w1.cell? ⟨w.heap.size, 1, none⟩ = some (.int .u8 0) := by go_simp
          have d2 : w1.cell? ⟨w.heap.size, 2, none⟩ = some (.int .i64 0) := by go_simp
          have d3 : w1.cell? ⟨w.heap.size, 3, none⟩ = some (.int .i64 0) := by go_simp
          have d4 : w1.cell? ⟨w.heap.size, 4, none⟩ = some (.slice none 0 0) := by go_simp
          have B1 : Below w.heap.size w w1 := (((Below.refl _ _).alloc (Nat.le_refl _) _).alloc (by simp) _).trans (hb1.mono (by simp; omega))
          refine bodyPost_ret (v := .tuple #[.agg #[.int .u8 (t[0]'g0).toNat, .int .u8 0, .int .i64 p, .int .i64 0, .slice a n c], .bool (gfFields (t.extract 2 t.size) (p + 1 + 1)).isSome]) (by simp [results, Tryd.results18, go_sem, d0, d1, d2, d3, d4]) rfl ⟨(t[0]'g0).toNat, a, n, c, by rw [HR.out]; simp, ?_, ?_⟩
          · intro r hr
            rw [HR.out] at hr
            obtain ⟨l, hl, rfl⟩ := Option.map_eq_some_iff.1 hr
            refine ⟨e0.out.symm, ?_⟩
            rw [hl] at V1
            have V2 : RV w1 (w.heap.size + 2) (.slice a n c) l := by simpa using V1
            exact row_mono (row_kept (row_kept (row_kept (row_kept (row_kept (row_kept V2 (gb_set _ _ _ _) (by omega)) (gb_set _ _ _ _) (by omega)) (gb_set _ _ _ _) (by omega)) (gb_set _ _ _ _) (by omega)) (gb_set _ _ _ _) (by omega)) (gb_set _ _ _ _) (by omega)) (by omega)
          · exact (((((B1.setCell (by show _ ≤ w.heap.size + 1; omega) _).setCell (Nat.le_refl _) _).setCell (Nat.le_refl _) _).setCell (Nat.le_refl _) _).setCell (Nat.le_refl _) _).setCell (Nat.le_refl _) _
    · have hlt : k < t.size := by omega
      by_cases h : nextB t k = 123
      · have hB' := Brace.hit hlt h
        rw [nextB_in hlt] at h
        go_wp2
        go_round
        case rel => exact ⟨k, k, by omega, rfl, by go_num, hB'⟩
        case measure => simp [intOf]
      · have hB' := hB.miss h
        rw [nextB_in hlt] at h
        have h' : (((t[k]'hlt).toNat : Int) == 123) = false := by simpa using h
        go_wp2
        go_round
        case rel => exact ⟨k, bb, by omega, by go_num, rfl, hB'⟩
        case measure => simp [intOf]
end Go.Proofs.YthckelcjncnalaaDoor
