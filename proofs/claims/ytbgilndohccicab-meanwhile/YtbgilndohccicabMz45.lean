import Derived.Test.YtbgilndohccicabMz44
import Derived.Deep.RegionHeld3
import Derived.Deep.CutRange
namespace Go.Proofs.Ytbgilndohccicab
open Go.RowKit

set_option maxHeartbeats 1000000 in
set_option maxRecDepth 20000 in
theorem change_3 (c x y : Int) (w : World) (hc1 : -9223372036854775808 ≤ c) (hc2 : c ≤ 9223372036854775807) (hx1 : -9223372036854775808 ≤ x) (hx2 : x ≤ 9223372036854775807) (hy1 : -9223372036854775808 ≤ y) (hy2 : y ≤ 9223372036854775807) (hk : pickI c 4 = 3) :
    Calls Try.prog 19 #[.int .i64 c, .int .i64 x, .int .i64 y] w (ChPost w) := by
  have P1 : ∀ W, Calls Try.prog 12 #[.int .i64 c, .int .i64 4] W fun e w' => e = .returned (.int .i64 3) ∧ w' = W := fun W => by have := pick_any c 4 W (by decide) (by decide) hc1 hc2; rw [hk] at this; exact this
  have P2 := fun W => pick_any x 1000 W (by decide) (by decide) hx1 hx2
  have P3 := fun W => pick_any y 1000000000 W (by decide) (by decide) hy1 hy2
  have bx := pickI_bd y 1000000000 (by decide)
  obtain ⟨n, hn⟩ : ∃ n : Nat, pickI y 1000000000 = n := ⟨(pickI y 1000000000).toNat, by omega⟩
  obtain ⟨y', hy'⟩ : ∃ y', pickI x 1000 = y' := ⟨_, rfl⟩
  have hn9 : n < 1000000000 := by omega
  rw [hy'] at P2
  rw [hn] at P3
  have D := fun W => digits_sz n (by omega) W
  unfold ChPost
  clear hc1 hc2 hx1 hx2 hy1 hy2 hk hn hy' bx
  go_enter Try.func19, Try.ntmps19
  go_wp2_with fail
  refine (P1 _).mono ?_
  rintro e w1 ⟨rfl, rfl⟩
  go_wp2_with fail
  refine (P2 _).mono ?_
  rintro e w1 ⟨rfl, rfl⟩
  go_wp2_with fail
  refine (P3 _).mono ?_
  rintro e wz ⟨rfl, rfl⟩
  clear P1 P2 P3
  go_wp2_with fail
  refine (D _).mono ?_
  rintro e w1 ⟨⟨s, rfl, hs, hz⟩, B1⟩
  have c0 : w1.cell? ⟨w.heap.size + 1, 0, none⟩ = some (.string ⟨#[]⟩) := (B1.cell (p := ⟨w.heap.size + 1, 0, none⟩) (by show w.heap.size + 1 < _; simp)).trans (by go_simp)
  have c1 : w1.cell? ⟨w.heap.size + 1, 1, none⟩ = some (.int .i64 3) := (B1.cell (p := ⟨w.heap.size + 1, 1, none⟩) (by show w.heap.size + 1 < _; simp)).trans (by go_simp)
  have c2 : w1.cell? ⟨w.heap.size + 1, 2, none⟩ = some (.int .i64 y') := (B1.cell (p := ⟨w.heap.size + 1, 2, none⟩) (by show w.heap.size + 1 < _; simp)).trans (by go_simp)
  have c3 : w1.cell? ⟨w.heap.size + 1, 3, none⟩ = some (.int .i64 n) := (B1.cell (p := ⟨w.heap.size + 1, 3, none⟩) (by show w.heap.size + 1 < _; simp)).trans (by go_simp)
  have c4 : w1.cell? ⟨w.heap.size + 1, 4, none⟩ = some (.int .u8 78) := (B1.cell (p := ⟨w.heap.size + 1, 4, none⟩) (by show w.heap.size + 1 < _; simp)).trans (by go_simp)
  have f0 : w1.frozen? ⟨w.heap.size + 1, 0, none⟩ = false := (B1.frozen (p := ⟨w.heap.size + 1, 0, none⟩) (by show w.heap.size + 1 < _; simp)).trans (by go_simp)
  have f1 : w1.frozen? ⟨w.heap.size + 1, 1, none⟩ = false := (B1.frozen (p := ⟨w.heap.size + 1, 1, none⟩) (by show w.heap.size + 1 < _; simp)).trans (by go_simp)
  have f2 : w1.frozen? ⟨w.heap.size + 1, 2, none⟩ = false := (B1.frozen (p := ⟨w.heap.size + 1, 2, none⟩) (by show w.heap.size + 1 < _; simp)).trans (by go_simp)
  have f3 : w1.frozen? ⟨w.heap.size + 1, 3, none⟩ = false := (B1.frozen (p := ⟨w.heap.size + 1, 3, none⟩) (by show w.heap.size + 1 < _; simp)).trans (by go_simp)
  have f4 : w1.frozen? ⟨w.heap.size + 1, 4, none⟩ = false := (B1.frozen (p := ⟨w.heap.size + 1, 4, none⟩) (by show w.heap.size + 1 < _; simp)).trans (by go_simp)
  have r0 : w1.cell? ⟨w.heap.size, 0, none⟩ = some (.string ⟨#[]⟩) := (B1.cell (p := ⟨w.heap.size, 0, none⟩) (by show w.heap.size < _; simp; omega)).trans (by go_simp)
  have r1 : w1.cell? ⟨w.heap.size, 1, none⟩ = some (.int .i64 0) := (B1.cell (p := ⟨w.heap.size, 1, none⟩) (by show w.heap.size < _; simp; omega)).trans (by go_simp)
  have r2 : w1.cell? ⟨w.heap.size, 2, none⟩ = some (.int .i64 0) := (B1.cell (p := ⟨w.heap.size, 2, none⟩) (by show w.heap.size < _; simp; omega)).trans (by go_simp)
  have r3 : w1.cell? ⟨w.heap.size, 3, none⟩ = some (.int .i64 0) := (B1.cell (p := ⟨w.heap.size, 3, none⟩) (by show w.heap.size < _; simp; omega)).trans (by go_simp)
  have r4 : w1.cell? ⟨w.heap.size, 4, none⟩ = some (.int .u8 0) := (B1.cell (p := ⟨w.heap.size, 4, none⟩) (by show w.heap.size < _; simp; omega)).trans (by go_simp)
  have q0 : w1.frozen? ⟨w.heap.size, 0, none⟩ = false := (B1.frozen (p := ⟨w.heap.size, 0, none⟩) (by show w.heap.size < _; simp; omega)).trans (by go_simp)
  have q1 : w1.frozen? ⟨w.heap.size, 1, none⟩ = false := (B1.frozen (p := ⟨w.heap.size, 1, none⟩) (by show w.heap.size < _; simp; omega)).trans (by go_simp)
  have q2 : w1.frozen? ⟨w.heap.size, 2, none⟩ = false := (B1.frozen (p := ⟨w.heap.size, 2, none⟩) (by show w.heap.size < _; simp; omega)).trans (by go_simp)
  have q3 : w1.frozen? ⟨w.heap.size, 3, none⟩ = false := (B1.frozen (p := ⟨w.heap.size, 3, none⟩) (by show w.heap.size < _; simp; omega)).trans (by go_simp)
  have q4 : w1.frozen? ⟨w.heap.size, 4, none⟩ = false := (B1.frozen (p := ⟨w.heap.size, 4, none⟩) (by show w.heap.size < _; simp; omega)).trans (by go_simp)
  have hl1 : w.heap.size + 1 < w1.heap.size := by have := B1.size; simp at this; omega
  have hl0 : w.heap.size < w1.heap.size := by omega
  have HB1 : Hid (Below w.heap.size w w1) := (((Below.refl _ w).alloc (Nat.le_refl _) _).alloc (by simp) _).trans (B1.mono (by simp; omega))
  clear D B1
  go_wp2
  (try simp only [Exit.inBlock, Exit.then])
  refine bodyPost_ret (v := .agg #[.string (⟨#[78, 123, 118, 58, 98, 61, 118, 33, 44, 97, 58, 114, 44, 98, 58, 114, 61, 97, 125, 81, 123, 118, 58, 119, 61, 40, 118, 43]⟩ ++ s ++ ⟨#[41, 42, 50, 44, 97, 58, 114, 61, 48, 125]⟩), .int .i64 3, .int .i64 y', .int .i64 n, .int .u8 78]) (by simp [results, Try.results19, go_sem, r0, r1, r2, r3, r4]) rfl ⟨⟨_, _, _, _, _, rfl, text3 (y := n) hn9 ?_, ?_⟩, ?_⟩
  · rw [bytesOf_app, bytesOf_app, hs.out]
    rw [show dgL 2 = [50] from dgL_lt (by omega)]
    simp [bytesOf, t3a, t3b]
  · rw [ByteArray.size_append, ByteArray.size_append, show (⟨#[78, 123, 118, 58, 98, 61, 118, 33, 44, 97, 58, 114, 44, 98, 58, 114, 61, 97, 125, 81, 123, 118, 58, 119, 61, 40, 118, 43]⟩ : ByteArray).size = 28 from rfl, show (⟨#[41, 42, 50, 44, 97, 58, 114, 61, 48, 125]⟩ : ByteArray).size = 10 from rfl]
    omega
  · exact (((((HB1.out.setCell (p := ⟨w.heap.size + 1, 0, none⟩) (Nat.le_succ _) _).setCell (p := ⟨w.heap.size, 0, none⟩) (Nat.le_refl _) _).setCell (p := ⟨w.heap.size, 1, none⟩) (Nat.le_refl _) _).setCell (p := ⟨w.heap.size, 2, none⟩) (Nat.le_refl _) _).setCell (p := ⟨w.heap.size, 3, none⟩) (Nat.le_refl _) _).setCell (p := ⟨w.heap.size, 4, none⟩) (Nat.le_refl _) _
end Go.Proofs.Ytbgilndohccicab
namespace Go.Proofs.Ytbgilndohccicab
open Go.RowKit

/-- While change makes its text: what it has, in a world further on. -/
structure CA (w W : World) (T : ByteArray) (n m : Nat) : Prop where
  c0 : W.cell? ⟨w.heap.size + 1, 0, none⟩ = some (.string T)
  c1 : W.cell? ⟨w.heap.size + 1, 1, none⟩ = some (.int .i64 0)
  c2 : W.cell? ⟨w.heap.size + 1, 2, none⟩ = some (.int .i64 n)
  c3 : W.cell? ⟨w.heap.size + 1, 3, none⟩ = some (.int .i64 m)
  c4 : W.cell? ⟨w.heap.size + 1, 4, none⟩ = some (.int .u8 78)
  f : ∀ o, W.frozen? ⟨w.heap.size + 1, o, none⟩ = false
  r0 : W.cell? ⟨w.heap.size, 0, none⟩ = some (.string ⟨#[]⟩)
  r1 : W.cell? ⟨w.heap.size, 1, none⟩ = some (.int .i64 0)
  r2 : W.cell? ⟨w.heap.size, 2, none⟩ = some (.int .i64 0)
  r3 : W.cell? ⟨w.heap.size, 3, none⟩ = some (.int .i64 0)
  r4 : W.cell? ⟨w.heap.size, 4, none⟩ = some (.int .u8 0)
  q : ∀ o, W.frozen? ⟨w.heap.size, o, none⟩ = false
  lt : w.heap.size + 1 < W.heap.size
  bel : Below w.heap.size w W
theorem CA.below {w W W' : World} {T : ByteArray} {n m : Nat} (h : CA w W T n m) (b : Below W.heap.size W W') : CA w W' T n m := by
  have hl := h.lt
  have k1 : ∀ o, W'.cell? ⟨w.heap.size + 1, o, none⟩ = W.cell? ⟨w.heap.size + 1, o, none⟩ := fun o => b.cell (p := ⟨w.heap.size + 1, o, none⟩) hl
  have k0 : ∀ o, W'.cell? ⟨w.heap.size, o, none⟩ = W.cell? ⟨w.heap.size, o, none⟩ := fun o => b.cell (p := ⟨w.heap.size, o, none⟩) (by show w.heap.size < _; omega)
  exact ⟨(k1 _).trans h.c0, (k1 _).trans h.c1, (k1 _).trans h.c2, (k1 _).trans h.c3, (k1 _).trans h.c4, fun o => (b.frozen (p := ⟨w.heap.size + 1, o, none⟩) hl).trans (h.f o), (k0 _).trans h.r0, (k0 _).trans h.r1, (k0 _).trans h.r2, (k0 _).trans h.r3, (k0 _).trans h.r4, fun o => (b.frozen (p := ⟨w.heap.size, o, none⟩) (by show w.heap.size < _; omega)).trans (h.q o), Nat.lt_of_lt_of_le hl b.size, h.bel.trans (b.mono (by omega))⟩
theorem CA.drew {w W : World} {T : ByteArray} {n m : Nat} (h : CA w W T n m) : CA w W.drew T n m := h.below (Below.refl _ _).drew
theorem CA.text {w W : World} {T : ByteArray} {n m : Nat} (h : CA w W T n m) (s : ByteArray) : CA w (W.setCell ⟨w.heap.size + 1, 0, none⟩ (.string s)) s n m := by
  have hl := h.lt
  have c0 := h.c0
  refine ⟨by go_simp, by rw [scOff W _ (by omega)]; exact h.c1, by rw [scOff W _ (by omega)]; exact h.c2, by rw [scOff W _ (by omega)]; exact h.c3, by rw [scOff W _ (by omega)]; exact h.c4, fun o => by simpa using h.f o, ?_, ?_, ?_, ?_, ?_, fun o => by simpa using h.q o, by simpa [World.setCell] using h.lt, h.bel.setCell (Nat.le_succ _) _⟩
  · have := h.r0; go_simp
  · have := h.r1; go_simp
  · have := h.r2; go_simp
  · have := h.r3; go_simp
  · have := h.r4; go_simp
set_option maxHeartbeats 4000000 in
set_option maxRecDepth 20000 in
theorem change_0 (c x y : Int) (w : World) (hc1 : -9223372036854775808 ≤ c) (hc2 : c ≤ 9223372036854775807) (hx1 : -9223372036854775808 ≤ x) (hx2 : x ≤ 9223372036854775807) (hy1 : -9223372036854775808 ≤ y) (hy2 : y ≤ 9223372036854775807) (hk : pickI c 4 = 0) :
    Calls Try.prog 19 #[.int .i64 c, .int .i64 x, .int .i64 y] w (ChPost w) := by
  have P1 : ∀ W, Calls Try.prog 12 #[.int .i64 c, .int .i64 4] W fun e w' => e = .returned (.int .i64 0) ∧ w' = W := fun W => by have := pick_any c 4 W (by decide) (by decide) hc1 hc2; rw [hk] at this; exact this
  have P2 := fun W => pick_any x 1000 W (by decide) (by decide) hx1 hx2
  have P3 := fun W => pick_any y 1000000000 W (by decide) (by decide) hy1 hy2
  have bx := pickI_bd x 1000 (by decide)
  have by' := pickI_bd y 1000000000 (by decide)
  obtain ⟨n, hn⟩ : ∃ n : Nat, pickI x 1000 = n := ⟨(pickI x 1000).toNat, by omega⟩
  obtain ⟨m, hm⟩ : ∃ m : Nat, pickI y 1000000000 = m := ⟨(pickI y 1000000000).toNat, by omega⟩
  have hn9 : n < 1000 := by omega
  have hm9 : m < 1000000000 := by omega
  rw [hn] at P2
  rw [hm] at P3
  have Dx := fun W => digits_sz n (by omega) W
  have Dy := fun W => digits_sz m (by omega) W
  unfold ChPost
  clear hc1 hc2 hx1 hx2 hy1 hy2 hk hn hm bx by'
  go_enter Try.func19, Try.ntmps19
  go_wp2_with fail
  refine (P1 _).mono ?_
  rintro e w1 ⟨rfl, rfl⟩
  go_wp2_with fail
  refine (P2 _).mono ?_
  rintro e w1 ⟨rfl, rfl⟩
  go_wp2_with fail
  refine (P3 _).mono ?_
  rintro e wz ⟨rfl, rfl⟩
  clear P1 P2 P3
  go_upto_region 5 with fail
  go_cut [] from 25 to 40 (fun wx => ∃ T, uE csL T = 0 ∧ T.size ≤ 200 ∧ CA w wx T n m)
  case first =>
    have K0 : CA w ((w.alloc (.cells #[.string ⟨#[]⟩, .int .i64 0, .int .i64 0, .int .i64 0, .int .u8 0] 52)).alloc (.cells #[.string ⟨#[]⟩, .int .i64 0, .int .i64 n, .int .i64 m, .int .u8 78] 52)) ⟨#[]⟩ n m :=
      ⟨by go_simp, by go_simp, by go_simp, by go_simp, by go_simp, fun o => by go_simp, by go_simp, by go_simp, by go_simp, by go_simp, by go_simp, fun o => by go_simp, by simp, ((Below.refl _ w).alloc (Nat.le_refl _) _).alloc (by simp) _⟩
    obtain ⟨wA, hwA⟩ : ∃ wA, wA = ((w.alloc (.cells #[.string ⟨#[]⟩, .int .i64 0, .int .i64 0, .int .i64 0, .int .u8 0] 52)).alloc (.cells #[.string ⟨#[]⟩, .int .i64 0, .int .i64 n, .int .i64 m, .int .u8 78] 52)) := ⟨_, rfl⟩
    rw [← hwA] at K0
    rw [← hwA]
    clear hwA
    go_region_held3 (fun W => W.cell? ⟨w.heap.size + 1, 2, none⟩ = some (.int .i64 n) ∧ W.cell? ⟨w.heap.size + 1, 3, none⟩ = some (.int .i64 m)) (first | exact ⟨(K3.text _).c2, (K3.text _).c3⟩ | exact ⟨K3.c2, K3.c3⟩ | exact ⟨K2.c2, K2.c3⟩ | exact ⟨K1.c2, K1.c3⟩ | exact ⟨K0.drew.c2, K0.drew.c3⟩) (first | (go_at_call 45; have hq := s2; clear hq; refine (Dx _).mono ?_; rintro e w3 ⟨⟨s3, rfl, hs3, hz3⟩, B3⟩; have n5 : ¬ 9223372036854775807 < 10 + s1.size + 1 + s2.size + 21 + s3.size := (by omega); have n6 : ¬ 9223372036854775807 < 10 + s1.size + 1 + s2.size + 21 + s3.size + 5 := (by omega); have K3 := K2.below B3; have c03 := K3.c0; have f03 := K3.f 0; have l3 := K3.lt) | (go_at_call 45; have hq := s1; clear hq; refine (Dy _).mono ?_; rintro e w2 ⟨⟨s2, rfl, hs2, hz2⟩, B2⟩; have n3 : ¬ 9223372036854775807 < 10 + s1.size + 1 + s2.size := (by omega); have n4 : ¬ 9223372036854775807 < 10 + s1.size + 1 + s2.size + 21 := (by omega); have K2 := K1.below B2) | (go_at_call 45; refine (Dx _).mono ?_; rintro e w1 ⟨⟨s1, rfl, hs1, hz1⟩, B1⟩; have n1 : ¬ 9223372036854775807 < 10 + s1.size := (by omega); have n2 : ¬ 9223372036854775807 < 10 + s1.size + 1 := (by omega); have K1 := K0.drew.below B1))
    all_goals
      go_wp2_with fail
      go_meet
      refine ⟨_, text0 (x := n) (y := m) hn9 hm9 ?_, ?_, K3.text _⟩
      · simp only [bytesOf_app, hs1.out, hs2.out, hs3.out]
        simp [bytesOf, t0a, t0b, t0c]
      · simp only [ByteArray.size_append]
        have e1 : (⟨#[77, 60, 78, 123, 118, 58, 104, 61, 118, 42]⟩ : ByteArray).size = 10 := rfl
        have e2 : (⟨#[43]⟩ : ByteArray).size = 1 := rfl
        have e3 : (⟨#[44, 98, 58, 114, 61, 97, 44, 97, 58, 114, 61, 98, 125, 81, 123, 118, 58, 119, 61, 118, 45]⟩ : ByteArray).size = 21 := rfl
        have e4 : (⟨#[44, 97, 58, 114, 125]⟩ : ByteArray).size = 5 := rfl
        omega
  case rest =>
    rename World => W3
    obtain ⟨T, hT, hz, K⟩ := hcut
    obtain ⟨c0, c1, c2, c3, c4, f, r0, r1, r2, r3, r4, q, lt, bel⟩ := K
    have f0 := f 0
    have f1 := f 1
    have f2 := f 2
    have f3 := f 3
    have f4 := f 4
    have q0 := q 0
    have q1 := q 1
    have q2 := q 2
    have q3 := q 3
    have q4 := q 4
    have lt0 : w.heap.size < W3.heap.size := by omega
    have HB : Hid (Below w.heap.size w W3) := bel
    have HT : Hid (uE csL T = 0 ∧ T.size ≤ 200) := ⟨hT, hz⟩
    clear Dx Dy bel f q hT hz
    go_wp2
    (try simp only [Exit.inBlock, Exit.then])
    refine bodyPost_ret (v := .agg #[.string T, .int .i64 0, .int .i64 n, .int .i64 m, .int .u8 77]) (by simp [results, Try.results19, go_sem, r0, r1, r2, r3, r4]) rfl ⟨⟨_, _, _, _, _, rfl, HT.out.1, HT.out.2⟩, ?_⟩
    exact (((((HB.out.setCell (p := ⟨w.heap.size + 1, 4, none⟩) (Nat.le_succ _) _).setCell (p := ⟨w.heap.size, 0, none⟩) (Nat.le_refl _) _).setCell (p := ⟨w.heap.size, 1, none⟩) (Nat.le_refl _) _).setCell (p := ⟨w.heap.size, 2, none⟩) (Nat.le_refl _) _).setCell (p := ⟨w.heap.size, 3, none⟩) (Nat.le_refl _) _).setCell (p := ⟨w.heap.size, 4, none⟩) (Nat.le_refl _) _
theorem change_any (c x y : Int) (w : World) (hc1 : -9223372036854775808 ≤ c) (hc2 : c ≤ 9223372036854775807) (hx1 : -9223372036854775808 ≤ x) (hx2 : x ≤ 9223372036854775807) (hy1 : -9223372036854775808 ≤ y) (hy2 : y ≤ 9223372036854775807) :
    Calls Try.prog 19 #[.int .i64 c, .int .i64 x, .int .i64 y] w (ChPost w) := by
  have h := pickI_bd c 4 (by decide)
  have h4 : pickI c 4 = 0 ∨ pickI c 4 = 1 ∨ pickI c 4 = 2 ∨ pickI c 4 = 3 := by omega
  rcases h4 with hk | hk | hk | hk
  · exact change_0 c x y w hc1 hc2 hx1 hx2 hy1 hy2 hk
  · exact change_1 c x y w hc1 hc2 hx1 hx2 hy1 hy2 hk
  · exact change_2 c x y w hc1 hc2 hx1 hx2 hy1 hy2 hk
  · exact change_3 c x y w hc1 hc2 hx1 hx2 hy1 hy2 hk
end Go.Proofs.Ytbgilndohccicab
