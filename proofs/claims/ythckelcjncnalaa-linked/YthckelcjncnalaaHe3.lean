import Derived.Test.YthckelcjncnalaaHe2
namespace Go.Proofs.Ythckelcjncnalaa
open Go.RowKit

set_option maxHeartbeats 1000000 in
theorem findNumber_any (hb : Nat) (sv : SV) (sz : Int) (R : Nat → Nat) (K : Nat → Int) (N : Nat → Nat → Int) (F : Nat → Nat → Nat) (base : Nat) (vs : List (Int × SV)) (cs : List (Int × List (Int × Int))) (w : World) (h : HP w hb sv sz R K N F) (hv : Cls w base (.slice sv.a sv.n sv.c) vs cs)
    (hR : ∀ i, i < 8 → R i < 201) (root letter : Int) :
    Calls Try.prog 37 #[.pointer (some ⟨hb, 0, none⟩), .int .i64 root, .int .u8 letter] w (FFPost (fnum (ffind cs R K root letter)) w) := by
  have hbl := h.lt
  have C := findField_any hb sv sz R K N F base vs cs _ (h.alloc (.cells #[.int .i64 0, .int .i64 0] 89)) (hv.below ((Below.refl _ w).alloc (Nat.le_refl _) _)) hR root letter
  obtain ⟨f, hf⟩ : ∃ f, f = ffind cs R K root letter := ⟨_, rfl⟩
  rw [← hf] at C ⊢
  clear hf
  obtain ⟨n, i, k, x⟩ := f
  by_cases hx : x = 0
  · subst hx
    by_cases hk : k = 114
    · subst hk
      have e : fnum ⟨n, i, 114, 0⟩ = ⟨0, 0, 0, 6⟩ := rfl
      rw [e]
      go_enter Try.func37, Try.ntmps37
      go_wp2_with fail
      refine C.mono ?_
      rintro e w1 ⟨rfl, hb1⟩
      have r0 : w1.cell? ⟨w.heap.size, 0, none⟩ = some (.int .i64 0) := (hb1.cell (by show w.heap.size < _; simp)).trans (by go_simp)
      have r1 : w1.cell? ⟨w.heap.size, 1, none⟩ = some (.int .i64 0) := (hb1.cell (by show w.heap.size < _; simp)).trans (by go_simp)
      have rf0 : w1.frozen? ⟨w.heap.size, 0, none⟩ = false := (hb1.frozen (by show w.heap.size < _; simp)).trans (by go_simp)
      have rf1 : w1.frozen? ⟨w.heap.size, 1, none⟩ = false := (hb1.frozen (by show w.heap.size < _; simp)).trans (by go_simp)
      have hz1 : w.heap.size < w1.heap.size := by have := hb1.size; simp at this; omega
      have B1 : Below w.heap.size w w1 := ((Below.refl _ w).alloc (Nat.le_refl _) _).trans (hb1.mono (by simp))
      have hs1 := B1.size
      clear C hb1
      simp only []
      go_wp2
      refine bodyPost_ret (v := .tuple #[.agg #[.int .i64 0, .int .i64 0], .int .u8 0, .int .i64 6]) (by simp [results, Try.results37, go_sem, r0, r1, hz1]) rfl ⟨rfl, ?_⟩
      with_reducible repeat first | exact B1 | apply Below.drew | (refine Below.setN ?_ (by omega) _) | (refine Below.alloc ?_ (by simp; omega) _)
    · have e : fnum ⟨n, i, k, 0⟩ = ⟨n, i, k, 0⟩ := by unfold fnum; rw [if_pos rfl, if_neg hk]
      have hk' : (k == 114) = false := by simpa using hk
      rw [e]
      go_enter Try.func37, Try.ntmps37
      go_wp2_with fail
      refine C.mono ?_
      rintro e w1 ⟨rfl, hb1⟩
      have r0 : w1.cell? ⟨w.heap.size, 0, none⟩ = some (.int .i64 0) := (hb1.cell (by show w.heap.size < _; simp)).trans (by go_simp)
      have r1 : w1.cell? ⟨w.heap.size, 1, none⟩ = some (.int .i64 0) := (hb1.cell (by show w.heap.size < _; simp)).trans (by go_simp)
      have rf0 : w1.frozen? ⟨w.heap.size, 0, none⟩ = false := (hb1.frozen (by show w.heap.size < _; simp)).trans (by go_simp)
      have rf1 : w1.frozen? ⟨w.heap.size, 1, none⟩ = false := (hb1.frozen (by show w.heap.size < _; simp)).trans (by go_simp)
      have hz1 : w.heap.size < w1.heap.size := by have := hb1.size; simp at this; omega
      have B1 : Below w.heap.size w w1 := ((Below.refl _ w).alloc (Nat.le_refl _) _).trans (hb1.mono (by simp))
      have hs1 := B1.size
      clear C hb1
      simp only []
      go_wp2
      refine bodyPost_ret (v := .tuple #[.agg #[.int .i64 n, .int .i64 i], .int .u8 k, .int .i64 0]) (by simp [results, Try.results37, go_sem, r0, r1, hz1]) rfl ⟨rfl, ?_⟩
      with_reducible repeat first | exact B1 | apply Below.drew | (refine Below.setN ?_ (by omega) _) | (refine Below.alloc ?_ (by simp; omega) _)
  · have e : fnum ⟨n, i, k, x⟩ = ⟨0, 0, 0, x⟩ := by unfold fnum; rw [if_neg hx]
    have hx' : (x == 0) = false := by simpa using hx
    have hx'' : (x != 0) = true := by simpa using hx
    rw [e]
    go_enter Try.func37, Try.ntmps37
    go_wp2_with fail
    refine C.mono ?_
    rintro e w1 ⟨rfl, hb1⟩
    have r0 : w1.cell? ⟨w.heap.size, 0, none⟩ = some (.int .i64 0) := (hb1.cell (by show w.heap.size < _; simp)).trans (by go_simp)
    have r1 : w1.cell? ⟨w.heap.size, 1, none⟩ = some (.int .i64 0) := (hb1.cell (by show w.heap.size < _; simp)).trans (by go_simp)
    have rf0 : w1.frozen? ⟨w.heap.size, 0, none⟩ = false := (hb1.frozen (by show w.heap.size < _; simp)).trans (by go_simp)
    have rf1 : w1.frozen? ⟨w.heap.size, 1, none⟩ = false := (hb1.frozen (by show w.heap.size < _; simp)).trans (by go_simp)
    have hz1 : w.heap.size < w1.heap.size := by have := hb1.size; simp at this; omega
    have B1 : Below w.heap.size w w1 := ((Below.refl _ w).alloc (Nat.le_refl _) _).trans (hb1.mono (by simp))
    have hs1 := B1.size
    clear C hb1
    simp only []
    go_wp2
    refine bodyPost_ret (v := .tuple #[.agg #[.int .i64 0, .int .i64 0], .int .u8 0, .int .i64 x]) (by simp [results, Try.results37, go_sem, r0, r1, hz1]) rfl ⟨rfl, ?_⟩
    with_reducible repeat first | exact B1 | apply Below.drew | (refine Below.setN ?_ (by omega) _) | (refine Below.alloc ?_ (by simp; omega) _)
end Go.Proofs.Ythckelcjncnalaa
