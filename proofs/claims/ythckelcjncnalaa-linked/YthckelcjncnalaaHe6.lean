import Derived.Test.YthckelcjncnalaaHe5
namespace Go.Proofs.Ythckelcjncnalaa
open Go.RowKit

def frf (f : FF) (other : Int) : FF := if rtB other = false then ⟨0, 0, 0, 8⟩ else fref f
def FRPost (f : FF) (w : World) (e : Ending) (w' : World) : Prop := e = .returned (.tuple #[.agg #[.int .i64 f.n, .int .i64 f.i], .int .i64 f.e]) ∧ Below w.heap.size w w'
set_option maxHeartbeats 1000000 in
theorem findRef_any (hb : Nat) (sv : SV) (sz : Int) (R : Nat → Nat) (K : Nat → Int) (N : Nat → Nat → Int) (F : Nat → Nat → Nat) (base : Nat) (vs : List (Int × SV)) (cs : List (Int × List (Int × Int))) (w : World) (h : HP w hb sv sz R K N F) (hv : Cls w base (.slice sv.a sv.n sv.c) vs cs)
    (hR : ∀ i, i < 8 → R i < 201) (root letter other : Int) :
    Calls Try.prog 58 #[.pointer (some ⟨hb, 0, none⟩), .int .i64 root, .int .u8 letter, .int .i64 other] w (FRPost (frf (ffind cs R K root letter) other) w) := by
  have hbl := h.lt
  cases ho : rtB other with
  | false =>
    have e : ∀ f, frf f other = ⟨0, 0, 0, 8⟩ := fun f => by unfold frf; rw [if_pos ho]
    rw [e]
    go_enter Try.func58, Try.ntmps58
    go_wp2_with fail
    refine (isRoot_rs (x := other) false ho).mono ?_
    rintro e w' ⟨rfl, rfl⟩
    go_wp2
    refine bodyPost_ret (v := .tuple #[.agg #[.int .i64 0, .int .i64 0], .int .i64 8]) (by simp [results, Try.results58, go_sem]) rfl ⟨rfl, ?_⟩
    with_reducible repeat first | exact Below.refl _ _ | (refine Below.setN ?_ (by omega) _) | (refine Below.alloc ?_ (by simp) _)
  | true =>
  have C := findField_any hb sv sz R K N F base vs cs _ (h.alloc (.cells #[.int .i64 0, .int .i64 0] 89)) (hv.below ((Below.refl _ w).alloc (Nat.le_refl _) _)) hR root letter
  have ef : frf (ffind cs R K root letter) other = fref (ffind cs R K root letter) := by unfold frf; rw [if_neg (by rw [ho]; decide)]
  rw [ef]
  clear ef
  obtain ⟨f, hf⟩ : ∃ f, f = ffind cs R K root letter := ⟨_, rfl⟩
  rw [← hf] at C ⊢
  clear hf
  obtain ⟨n, i, k, x⟩ := f
  obtain ⟨n', i', x', e⟩ : ∃ n' i' x', (fref ⟨n, i, k, x⟩).n = n' ∧ (fref ⟨n, i, k, x⟩).i = i' ∧ (fref ⟨n, i, k, x⟩).e = x' := ⟨_, _, _, rfl, rfl, rfl⟩
  unfold FRPost
  rw [e.1, e.2.1, e.2.2]
  by_cases hx : x = 0
  · subst hx
    by_cases hk : k = 114
    · subst hk
      have e2 : fref ⟨n, i, 114, 0⟩ = ⟨n, i, 114, 0⟩ := rfl
      rw [e2] at e
      obtain ⟨rfl, rfl, rfl⟩ := e
      clear e2
      go_enter Try.func58, Try.ntmps58
      go_wp2_with fail
      refine (isRoot_rs (x := other) true ho).mono ?_
      rintro e w' ⟨rfl, rfl⟩
      go_wp2_with fail
      refine C.mono ?_
      rintro e w1 ⟨rfl, hb1⟩
      have r0 : w1.cell? ⟨w.heap.size, 0, none⟩ = some (.int .i64 0) := (hb1.cell (by show w.heap.size < _; simp)).trans (by go_simp)
      have r1 : w1.cell? ⟨w.heap.size, 1, none⟩ = some (.int .i64 0) := (hb1.cell (by show w.heap.size < _; simp)).trans (by go_simp)
      have rf0 : w1.frozen? ⟨w.heap.size, 0, none⟩ = false := (hb1.frozen (by show w.heap.size < _; simp)).trans (by go_simp)
      have rf1 : w1.frozen? ⟨w.heap.size, 1, none⟩ = false := (hb1.frozen (by show w.heap.size < _; simp)).trans (by go_simp)
      have hz1 : w.heap.size < w1.heap.size := by have := hb1.size; simp at this; omega
      have B1 : Below w.heap.size w w1 := ((Below.refl _ w).alloc (Nat.le_refl _) _).trans (hb1.mono (by simp))
      have hs1 := B1.size
      clear C hb1
      simp only []
      go_wp2
      refine bodyPost_ret (v := .tuple #[.agg #[.int .i64 n, .int .i64 i], .int .i64 0]) (by simp [results, Try.results58, go_sem, r0, r1, hz1]) rfl ⟨rfl, ?_⟩
      with_reducible repeat first | exact B1 | apply Below.drew | (refine Below.setN ?_ (by omega) _) | (refine Below.alloc ?_ (by simp; omega) _)
    · have e2 : fref ⟨n, i, k, 0⟩ = ⟨0, 0, 0, 6⟩ := by unfold fref; rw [if_pos rfl, if_neg hk]
      have hk' : (k == 114) = false := by simpa using hk
      rw [e2] at e
      obtain ⟨rfl, rfl, rfl⟩ := e
      clear e2
      go_enter Try.func58, Try.ntmps58
      go_wp2_with fail
      refine (isRoot_rs (x := other) true ho).mono ?_
      rintro e w' ⟨rfl, rfl⟩
      go_wp2_with fail
      refine C.mono ?_
      rintro e w1 ⟨rfl, hb1⟩
      have r0 : w1.cell? ⟨w.heap.size, 0, none⟩ = some (.int .i64 0) := (hb1.cell (by show w.heap.size < _; simp)).trans (by go_simp)
      have r1 : w1.cell? ⟨w.heap.size, 1, none⟩ = some (.int .i64 0) := (hb1.cell (by show w.heap.size < _; simp)).trans (by go_simp)
      have rf0 : w1.frozen? ⟨w.heap.size, 0, none⟩ = false := (hb1.frozen (by show w.heap.size < _; simp)).trans (by go_simp)
      have rf1 : w1.frozen? ⟨w.heap.size, 1, none⟩ = false := (hb1.frozen (by show w.heap.size < _; simp)).trans (by go_simp)
      have hz1 : w.heap.size < w1.heap.size := by have := hb1.size; simp at this; omega
      have B1 : Below w.heap.size w w1 := ((Below.refl _ w).alloc (Nat.le_refl _) _).trans (hb1.mono (by simp))
      have hs1 := B1.size
      clear C hb1
      simp only []
      go_wp2
      refine bodyPost_ret (v := .tuple #[.agg #[.int .i64 0, .int .i64 0], .int .i64 6]) (by simp [results, Try.results58, go_sem, r0, r1, hz1]) rfl ⟨rfl, ?_⟩
      with_reducible repeat first | exact B1 | apply Below.drew | (refine Below.setN ?_ (by omega) _) | (refine Below.alloc ?_ (by simp; omega) _)
  · have e2 : fref ⟨n, i, k, x⟩ = ⟨0, 0, 0, x⟩ := by unfold fref; rw [if_neg hx]
    have hx' : (x == 0) = false := by simpa using hx
    have hx'' : (x != 0) = true := by simpa using hx
    rw [e2] at e
    obtain ⟨rfl, rfl, rfl⟩ := e
    clear e2
    simp only [] at *
    go_enter Try.func58, Try.ntmps58
    go_wp2_with fail
    refine (isRoot_rs (x := other) true ho).mono ?_
    rintro e w' ⟨rfl, rfl⟩
    go_wp2_with fail
    refine C.mono ?_
    rintro e w1 ⟨rfl, hb1⟩
    have r0 : w1.cell? ⟨w.heap.size, 0, none⟩ = some (.int .i64 0) := (hb1.cell (by show w.heap.size < _; simp)).trans (by go_simp)
    have r1 : w1.cell? ⟨w.heap.size, 1, none⟩ = some (.int .i64 0) := (hb1.cell (by show w.heap.size < _; simp)).trans (by go_simp)
    have rf0 : w1.frozen? ⟨w.heap.size, 0, none⟩ = false := (hb1.frozen (by show w.heap.size < _; simp)).trans (by go_simp)
    have rf1 : w1.frozen? ⟨w.heap.size, 1, none⟩ = false := (hb1.frozen (by show w.heap.size < _; simp)).trans (by go_simp)
    have hz1 : w.heap.size < w1.heap.size := by have := hb1.size; simp at this; omega
    have B1 : Below w.heap.size w w1 := ((Below.refl _ w).alloc (Nat.le_refl _) _).trans (hb1.mono (by simp))
    have hs1 := B1.size
    clear C hb1
    simp only []
    go_wp2
    refine bodyPost_ret (v := .tuple #[.agg #[.int .i64 0, .int .i64 0], .int .i64 x]) (by simp [results, Try.results58, go_sem, r0, r1, hz1]) rfl ⟨rfl, ?_⟩
    with_reducible repeat first | exact B1 | apply Below.drew | (refine Below.setN ?_ (by omega) _) | (refine Below.alloc ?_ (by simp; omega) _)
end Go.Proofs.Ythckelcjncnalaa
