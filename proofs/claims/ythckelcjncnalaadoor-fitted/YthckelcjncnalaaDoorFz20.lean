import Derived.Test.YthckelcjncnalaaDoorFz01
namespace Go.Proofs.YthckelcjncnalaaDoor
open Go.RowKit

set_option maxHeartbeats 400000 in
set_option maxRecDepth 20000 in
theorem among_any (c l m : Int) (w : World) (y : Bool) (hy : (decide (l ≤ c) && decide (c ≤ m)) = y) :
    Calls Tryd.prog 30 #[.int .u8 c, .int .u8 l, .int .u8 m] w fun e w' => e = .returned (.bool y) ∧ w' = w := by
  subst hy
  by_cases h1 : l ≤ c
  · by_cases h2 : c ≤ m
    · go_enter Tryd.func30, Tryd.ntmps30
      go_wp2; go_ret; exact ⟨by simp [h1, h2], rfl⟩
    · go_enter Tryd.func30, Tryd.ntmps30
      go_wp2; go_ret; exact ⟨by simp [h2], rfl⟩
  · have h2 : c < l := by omega
    go_enter Tryd.func30, Tryd.ntmps30
    go_wp2; go_ret; exact ⟨by simp; omega, rfl⟩

/-- Is it a field of a schema? -/
def fieldB (t : ByteArray) : Bool := decide (t.size = 3) && decide (97 ≤ nextB t 0) && decide (nextB t 0 ≤ 122) && decide (nextB t 1 = 58) && isKindB (nextB t 2)

def FPost (t : ByteArray) (p : Int) (w : World) (e : Ending) (w' : World) : Prop := ∃ x0 x1 x2 : Int,
  e = .returned (.tuple #[.agg #[.int .u8 x0, .int .u8 x1, .int .i64 x2, .int .i64 0, .bool false, .bool false, .string ⟨#[]⟩], .bool (fieldB t)]) ∧
    (fieldB t = true → x0 = nextB t 0 ∧ x1 = nextB t 2 ∧ x2 = p) ∧ Below w.heap.size w w'

set_option maxHeartbeats 400000 in
set_option maxRecDepth 20000 in
theorem rfield_short (t : ByteArray) (p : Int) (w : World) (hs : t.size < 3) :
    Calls Tryd.prog 39 #[.string t, .int .i64 p, .bool false] w (FPost t p w) := by
  have HF : Hid (fieldB t = false) := by
    show fieldB t = false
    simp [fieldB]; omega
  go_enter Tryd.func39, Tryd.ntmps39
  go_wp2
  refine bodyPost_ret (v := .tuple #[.agg #[.int .u8 0, .int .u8 0, .int .i64 0, .int .i64 0, .bool false, .bool false, .string ⟨#[]⟩], .bool false]) (by simp [results, Tryd.results39, go_sem]) rfl ⟨0, 0, 0, by rw [HF.out], (fun h => absurd h (by rw [HF.out]; decide)), ?_⟩
  exact ((Below.refl _ _).alloc (Nat.le_refl _) _).alloc (by simp) _

set_option maxHeartbeats 400000 in
set_option maxRecDepth 20000 in
theorem rfield_letter (t : ByteArray) (p : Int) (w : World) (hs : 3 ≤ t.size) (h0 : (decide (97 ≤ nextB t 0) && decide (nextB t 0 ≤ 122)) = false) :
    Calls Tryd.prog 39 #[.string t, .int .i64 p, .bool false] w (FPost t p w) := by
  have HF : Hid (fieldB t = false) := by
    show fieldB t = false
    simp at h0; simp [fieldB]; omega
  have g0 : 0 < t.size := by omega
  have e0 : Hid (nextB t 0 = ((t[0]'g0).toNat : Int)) := nextB_in g0
  rw [e0.out] at h0
  have am := h0
  clear h0
  go_enter Tryd.func39, Tryd.ntmps39
  go_wp2_with (go_at_call 30; refine (among_any _ _ _ _ false am).mono ?_; rintro e w' ⟨rfl, rfl⟩)
  refine bodyPost_ret (v := .tuple #[.agg #[.int .u8 0, .int .u8 0, .int .i64 0, .int .i64 0, .bool false, .bool false, .string ⟨#[]⟩], .bool false]) (by simp [results, Tryd.results39, go_sem]) rfl ⟨0, 0, 0, by rw [HF.out], (fun h => absurd h (by rw [HF.out]; decide)), ?_⟩
  exact ((Below.refl _ _).alloc (Nat.le_refl _) _).alloc (by simp) _

set_option maxHeartbeats 400000 in
set_option maxRecDepth 20000 in
theorem rfield_colon (t : ByteArray) (p : Int) (w : World) (hs : 3 ≤ t.size) (h0 : (decide (97 ≤ nextB t 0) && decide (nextB t 0 ≤ 122)) = true) (h1 : (nextB t 1 == 58) = false) :
    Calls Tryd.prog 39 #[.string t, .int .i64 p, .bool false] w (FPost t p w) := by
  have HF : Hid (fieldB t = false) := by
    show fieldB t = false
    simp at h1; simp [fieldB, h1]
  have g0 : 0 < t.size := by omega
  have e0 : Hid (nextB t 0 = ((t[0]'g0).toNat : Int)) := nextB_in g0
  have g1 : 1 < t.size := by omega
  have e1 : Hid (nextB t 1 = ((t[1]'g1).toNat : Int)) := nextB_in g1
  rw [e0.out] at h0
  rw [e1.out] at h1
  have h1n : (((t[1]'g1).toNat : Int) != 58) = true := by simpa using h1
  have am := h0
  clear h0
  go_enter Tryd.func39, Tryd.ntmps39
  go_wp2_with (go_at_call 30; refine (among_any _ _ _ _ true am).mono ?_; rintro e w' ⟨rfl, rfl⟩)
  refine bodyPost_ret (v := .tuple #[.agg #[.int .u8 0, .int .u8 0, .int .i64 0, .int .i64 0, .bool false, .bool false, .string ⟨#[]⟩], .bool false]) (by simp [results, Tryd.results39, go_sem]) rfl ⟨0, 0, 0, by rw [HF.out], (fun h => absurd h (by rw [HF.out]; decide)), ?_⟩
  exact ((Below.refl _ _).alloc (Nat.le_refl _) _).alloc (by simp) _

set_option maxHeartbeats 400000 in
set_option maxRecDepth 20000 in
theorem rfield_kind (t : ByteArray) (p : Int) (w : World) (hs : 3 ≤ t.size) (h0 : (decide (97 ≤ nextB t 0) && decide (nextB t 0 ≤ 122)) = true) (h1 : (nextB t 1 == 58) = true) (k1 : (nextB t 2 == 98) = false) (k2 : (nextB t 2 == 104) = false) (k3 : (nextB t 2 == 119) = false) (k4 : (nextB t 2 == 108) = false) (k5 : (nextB t 2 == 114) = false) :
    Calls Tryd.prog 39 #[.string t, .int .i64 p, .bool false] w (FPost t p w) := by
  have HF : Hid (fieldB t = false) := by
    show fieldB t = false
    simp [fieldB, isKindB, k1, k2, k3, k4, k5]
  have g0 : 0 < t.size := by omega
  have e0 : Hid (nextB t 0 = ((t[0]'g0).toNat : Int)) := nextB_in g0
  have g1 : 1 < t.size := by omega
  have e1 : Hid (nextB t 1 = ((t[1]'g1).toNat : Int)) := nextB_in g1
  have g2 : 2 < t.size := by omega
  have e2 : Hid (nextB t 2 = ((t[2]'g2).toNat : Int)) := nextB_in g2
  rw [e0.out] at h0
  rw [e1.out] at h1
  rw [e2.out] at k1 k2 k3 k4 k5
  have h1n : (((t[1]'g1).toNat : Int) != 58) = false := by simpa using h1
  have k1n : (((t[2]'g2).toNat : Int) != 98) = true := by simpa using k1
  have k2n : (((t[2]'g2).toNat : Int) != 104) = true := by simpa using k2
  have k3n : (((t[2]'g2).toNat : Int) != 119) = true := by simpa using k3
  have k4n : (((t[2]'g2).toNat : Int) != 108) = true := by simpa using k4
  have k5n : (((t[2]'g2).toNat : Int) != 114) = true := by simpa using k5
  have am := h0
  clear h0
  go_enter Tryd.func39, Tryd.ntmps39
  go_wp2_with (go_at_call 30; refine (among_any _ _ _ _ true am).mono ?_; rintro e w' ⟨rfl, rfl⟩)
  refine bodyPost_ret (v := .tuple #[.agg #[.int .u8 0, .int .u8 0, .int .i64 0, .int .i64 0, .bool false, .bool false, .string ⟨#[]⟩], .bool false]) (by simp [results, Tryd.results39, go_sem]) rfl ⟨0, 0, 0, by rw [HF.out], (fun h => absurd h (by rw [HF.out]; decide)), ?_⟩
  exact ((Below.refl _ _).alloc (Nat.le_refl _) _).alloc (by simp) _

set_option maxHeartbeats 400000 in
set_option maxRecDepth 20000 in
theorem rfield_yes_b (t : ByteArray) (p : Int) (w : World) (hs : t.size = 3) (h0 : (decide (97 ≤ nextB t 0) && decide (nextB t 0 ≤ 122)) = true) (h1 : (nextB t 1 == 58) = true) (k : nextB t 2 = 98) :
    Calls Tryd.prog 39 #[.string t, .int .i64 p, .bool false] w (FPost t p w) := by
  have HF : Hid (fieldB t = true) := by
    show fieldB t = true
    simp at h0 h1; simp [fieldB, isKindB, k, h0, h1, hs]
  have g0 : 0 < t.size := by omega
  have e0 : Hid (nextB t 0 = ((t[0]'g0).toNat : Int)) := nextB_in g0
  have g1 : 1 < t.size := by omega
  have e1 : Hid (nextB t 1 = ((t[1]'g1).toNat : Int)) := nextB_in g1
  have g2 : 2 < t.size := by omega
  have e2 : Hid (nextB t 2 = ((t[2]'g2).toNat : Int)) := nextB_in g2
  rw [e0.out] at h0
  rw [e1.out] at h1
  have ek : Hid (nextB t 2 = 98) := k
  rw [e2.out] at k
  have h1n : (((t[1]'g1).toNat : Int) != 58) = false := by simpa using h1
  have am := h0
  clear h0
  go_enter Tryd.func39, Tryd.ntmps39
  go_wp2_with (go_at_call 30; refine (among_any _ _ _ _ true am).mono ?_; rintro e w' ⟨rfl, rfl⟩)
  refine bodyPost_ret (v := .tuple #[.agg #[.int .u8 (t[0]'g0).toNat, .int .u8 98, .int .i64 p, .int .i64 0, .bool false, .bool false, .string ⟨#[]⟩], .bool true]) (by simp [results, Tryd.results39, go_sem]) rfl ⟨(t[0]'g0).toNat, 98, p, by rw [HF.out], (fun _ => ⟨e0.out.symm, ek.out.symm, rfl⟩), ?_⟩
  exact ((Below.refl _ _).alloc (Nat.le_refl _) _).alloc (by simp) _

set_option maxHeartbeats 400000 in
set_option maxRecDepth 20000 in
theorem rfield_more_b (t : ByteArray) (p : Int) (w : World) (hs : 3 < t.size) (hm : t.size ≤ 4611686018427387904) (h0 : (decide (97 ≤ nextB t 0) && decide (nextB t 0 ≤ 122)) = true) (h1 : (nextB t 1 == 58) = true) (k : nextB t 2 = 98) :
    Calls Tryd.prog 39 #[.string t, .int .i64 p, .bool false] w (FPost t p w) := by
  have HF : Hid (fieldB t = false) := by
    show fieldB t = false
    simp [fieldB]; omega
  have g0 : 0 < t.size := by omega
  have e0 : Hid (nextB t 0 = ((t[0]'g0).toNat : Int)) := nextB_in g0
  have g1 : 1 < t.size := by omega
  have e1 : Hid (nextB t 1 = ((t[1]'g1).toNat : Int)) := nextB_in g1
  have g2 : 2 < t.size := by omega
  have e2 : Hid (nextB t 2 = ((t[2]'g2).toNat : Int)) := nextB_in g2
  rw [e0.out] at h0
  rw [e1.out] at h1
  have ek : Hid (nextB t 2 = 98) := k
  rw [e2.out] at k
  have h1n : (((t[1]'g1).toNat : Int) != 58) = false := by simpa using h1
  have am := h0
  clear h0
  go_enter Tryd.func39, Tryd.ntmps39
  go_wp2_with (go_at_call 30; refine (among_any _ _ _ _ true am).mono ?_; rintro e w' ⟨rfl, rfl⟩)
  refine bodyPost_ret (v := .tuple #[.agg #[.int .u8 (t[0]'g0).toNat, .int .u8 98, .int .i64 p, .int .i64 0, .bool false, .bool false, .string ⟨#[]⟩], .bool false]) (by simp [results, Tryd.results39, go_sem]) rfl ⟨(t[0]'g0).toNat, 98, p, by rw [HF.out], (fun h => absurd h (by rw [HF.out]; decide)), ?_⟩
  exact ((Below.refl _ _).alloc (Nat.le_refl _) _).alloc (by simp) _

set_option maxHeartbeats 400000 in
set_option maxRecDepth 20000 in
theorem rfield_yes_h (t : ByteArray) (p : Int) (w : World) (hs : t.size = 3) (h0 : (decide (97 ≤ nextB t 0) && decide (nextB t 0 ≤ 122)) = true) (h1 : (nextB t 1 == 58) = true) (k : nextB t 2 = 104) :
    Calls Tryd.prog 39 #[.string t, .int .i64 p, .bool false] w (FPost t p w) := by
  have HF : Hid (fieldB t = true) := by
    show fieldB t = true
    simp at h0 h1; simp [fieldB, isKindB, k, h0, h1, hs]
  have g0 : 0 < t.size := by omega
  have e0 : Hid (nextB t 0 = ((t[0]'g0).toNat : Int)) := nextB_in g0
  have g1 : 1 < t.size := by omega
  have e1 : Hid (nextB t 1 = ((t[1]'g1).toNat : Int)) := nextB_in g1
  have g2 : 2 < t.size := by omega
  have e2 : Hid (nextB t 2 = ((t[2]'g2).toNat : Int)) := nextB_in g2
  rw [e0.out] at h0
  rw [e1.out] at h1
  have ek : Hid (nextB t 2 = 104) := k
  rw [e2.out] at k
  have h1n : (((t[1]'g1).toNat : Int) != 58) = false := by simpa using h1
  have am := h0
  clear h0
  go_enter Tryd.func39, Tryd.ntmps39
  go_wp2_with (go_at_call 30; refine (among_any _ _ _ _ true am).mono ?_; rintro e w' ⟨rfl, rfl⟩)
  refine bodyPost_ret (v := .tuple #[.agg #[.int .u8 (t[0]'g0).toNat, .int .u8 104, .int .i64 p, .int .i64 0, .bool false, .bool false, .string ⟨#[]⟩], .bool true]) (by simp [results, Tryd.results39, go_sem]) rfl ⟨(t[0]'g0).toNat, 104, p, by rw [HF.out], (fun _ => ⟨e0.out.symm, ek.out.symm, rfl⟩), ?_⟩
  exact ((Below.refl _ _).alloc (Nat.le_refl _) _).alloc (by simp) _

set_option maxHeartbeats 400000 in
set_option maxRecDepth 20000 in
theorem rfield_more_h (t : ByteArray) (p : Int) (w : World) (hs : 3 < t.size) (hm : t.size ≤ 4611686018427387904) (h0 : (decide (97 ≤ nextB t 0) && decide (nextB t 0 ≤ 122)) = true) (h1 : (nextB t 1 == 58) = true) (k : nextB t 2 = 104) :
    Calls Tryd.prog 39 #[.string t, .int .i64 p, .bool false] w (FPost t p w) := by
  have HF : Hid (fieldB t = false) := by
    show fieldB t = false
    simp [fieldB]; omega
  have g0 : 0 < t.size := by omega
  have e0 : Hid (nextB t 0 = ((t[0]'g0).toNat : Int)) := nextB_in g0
  have g1 : 1 < t.size := by omega
  have e1 : Hid (nextB t 1 = ((t[1]'g1).toNat : Int)) := nextB_in g1
  have g2 : 2 < t.size := by omega
  have e2 : Hid (nextB t 2 = ((t[2]'g2).toNat : Int)) := nextB_in g2
  rw [e0.out] at h0
  rw [e1.out] at h1
  have ek : Hid (nextB t 2 = 104) := k
  rw [e2.out] at k
  have h1n : (((t[1]'g1).toNat : Int) != 58) = false := by simpa using h1
  have am := h0
  clear h0
  go_enter Tryd.func39, Tryd.ntmps39
  go_wp2_with (go_at_call 30; refine (among_any _ _ _ _ true am).mono ?_; rintro e w' ⟨rfl, rfl⟩)
  refine bodyPost_ret (v := .tuple #[.agg #[.int .u8 (t[0]'g0).toNat, .int .u8 104, .int .i64 p, .int .i64 0, .bool false, .bool false, .string ⟨#[]⟩], .bool false]) (by simp [results, Tryd.results39, go_sem]) rfl ⟨(t[0]'g0).toNat, 104, p, by rw [HF.out], (fun h => absurd h (by rw [HF.out]; decide)), ?_⟩
  exact ((Below.refl _ _).alloc (Nat.le_refl _) _).alloc (by simp) _

set_option maxHeartbeats 400000 in
set_option maxRecDepth 20000 in
theorem rfield_yes_w (t : ByteArray) (p : Int) (w : World) (hs : t.size = 3) (h0 : (decide (97 ≤ nextB t 0) && decide (nextB t 0 ≤ 122)) = true) (h1 : (nextB t 1 == 58) = true) (k : nextB t 2 = 119) :
    Calls Tryd.prog 39 #[.string t, .int .i64 p, .bool false] w (FPost t p w) := by
  have HF : Hid (fieldB t = true) := by
    show fieldB t = true
    simp at h0 h1; simp [fieldB, isKindB, k, h0, h1, hs]
  have g0 : 0 < t.size := by omega
  have e0 : Hid (nextB t 0 = ((t[0]'g0).toNat : Int)) := nextB_in g0
  have g1 : 1 < t.size := by omega
  have e1 : Hid (nextB t 1 = ((t[1]'g1).toNat : Int)) := nextB_in g1
  have g2 : 2 < t.size := by omega
  have e2 : Hid (nextB t 2 = ((t[2]'g2).toNat : Int)) := nextB_in g2
  rw [e0.out] at h0
  rw [e1.out] at h1
  have ek : Hid (nextB t 2 = 119) := k
  rw [e2.out] at k
  have h1n : (((t[1]'g1).toNat : Int) != 58) = false := by simpa using h1
  have am := h0
  clear h0
  go_enter Tryd.func39, Tryd.ntmps39
  go_wp2_with (go_at_call 30; refine (among_any _ _ _ _ true am).mono ?_; rintro e w' ⟨rfl, rfl⟩)
  refine bodyPost_ret (v := .tuple #[.agg #[.int .u8 (t[0]'g0).toNat, .int .u8 119, .int .i64 p, .int .i64 0, .bool false, .bool false, .string ⟨#[]⟩], .bool true]) (by simp [results, Tryd.results39, go_sem]) rfl ⟨(t[0]'g0).toNat, 119, p, by rw [HF.out], (fun _ => ⟨e0.out.symm, ek.out.symm, rfl⟩), ?_⟩
  exact ((Below.refl _ _).alloc (Nat.le_refl _) _).alloc (by simp) _

set_option maxHeartbeats 400000 in
set_option maxRecDepth 20000 in
theorem rfield_more_w (t : ByteArray) (p : Int) (w : World) (hs : 3 < t.size) (hm : t.size ≤ 4611686018427387904) (h0 : (decide (97 ≤ nextB t 0) && decide (nextB t 0 ≤ 122)) = true) (h1 : (nextB t 1 == 58) = true) (k : nextB t 2 = 119) :
    Calls Tryd.prog 39 #[.string t, .int .i64 p, .bool false] w (FPost t p w) := by
  have HF : Hid (fieldB t = false) := by
    show fieldB t = false
    simp [fieldB]; omega
  have g0 : 0 < t.size := by omega
  have e0 : Hid (nextB t 0 = ((t[0]'g0).toNat : Int)) := nextB_in g0
  have g1 : 1 < t.size := by omega
  have e1 : Hid (nextB t 1 = ((t[1]'g1).toNat : Int)) := nextB_in g1
  have g2 : 2 < t.size := by omega
  have e2 : Hid (nextB t 2 = ((t[2]'g2).toNat : Int)) := nextB_in g2
  rw [e0.out] at h0
  rw [e1.out] at h1
  have ek : Hid (nextB t 2 = 119) := k
  rw [e2.out] at k
  have h1n : (((t[1]'g1).toNat : Int) != 58) = false := by simpa using h1
  have am := h0
  clear h0
  go_enter Tryd.func39, Tryd.ntmps39
  go_wp2_with (go_at_call 30; refine (among_any _ _ _ _ true am).mono ?_; rintro e w' ⟨rfl, rfl⟩)
  refine bodyPost_ret (v := .tuple #[.agg #[.int .u8 (t[0]'g0).toNat, .int .u8 119, .int .i64 p, .int .i64 0, .bool false, .bool false, .string ⟨#[]⟩], .bool false]) (by simp [results, Tryd.results39, go_sem]) rfl ⟨(t[0]'g0).toNat, 119, p, by rw [HF.out], (fun h => absurd h (by rw [HF.out]; decide)), ?_⟩
  exact ((Below.refl _ _).alloc (Nat.le_refl _) _).alloc (by simp) _

set_option maxHeartbeats 400000 in
set_option maxRecDepth 20000 in
theorem rfield_yes_l (t : ByteArray) (p : Int) (w : World) (hs : t.size = 3) (h0 : (decide (97 ≤ nextB t 0) && decide (nextB t 0 ≤ 122)) = true) (h1 : (nextB t 1 == 58) = true) (k : nextB t 2 = 108) :
    Calls Tryd.prog 39 #[.string t, .int .i64 p, .bool false] w (FPost t p w) := by
  have HF : Hid (fieldB t = true) := by
    show fieldB t = true
    simp at h0 h1; simp [fieldB, isKindB, k, h0, h1, hs]
  have g0 : 0 < t.size := by omega
  have e0 : Hid (nextB t 0 = ((t[0]'g0).toNat : Int)) := nextB_in g0
  have g1 : 1 < t.size := by omega
  have e1 : Hid (nextB t 1 = ((t[1]'g1).toNat : Int)) := nextB_in g1
  have g2 : 2 < t.size := by omega
  have e2 : Hid (nextB t 2 = ((t[2]'g2).toNat : Int)) := nextB_in g2
  rw [e0.out] at h0
  rw [e1.out] at h1
  have ek : Hid (nextB t 2 = 108) := k
  rw [e2.out] at k
  have h1n : (((t[1]'g1).toNat : Int) != 58) = false := by simpa using h1
  have am := h0
  clear h0
  go_enter Tryd.func39, Tryd.ntmps39
  go_wp2_with (go_at_call 30; refine (among_any _ _ _ _ true am).mono ?_; rintro e w' ⟨rfl, rfl⟩)
  refine bodyPost_ret (v := .tuple #[.agg #[.int .u8 (t[0]'g0).toNat, .int .u8 108, .int .i64 p, .int .i64 0, .bool false, .bool false, .string ⟨#[]⟩], .bool true]) (by simp [results, Tryd.results39, go_sem]) rfl ⟨(t[0]'g0).toNat, 108, p, by rw [HF.out], (fun _ => ⟨e0.out.symm, ek.out.symm, rfl⟩), ?_⟩
  exact ((Below.refl _ _).alloc (Nat.le_refl _) _).alloc (by simp) _

set_option maxHeartbeats 400000 in
set_option maxRecDepth 20000 in
theorem rfield_more_l (t : ByteArray) (p : Int) (w : World) (hs : 3 < t.size) (hm : t.size ≤ 4611686018427387904) (h0 : (decide (97 ≤ nextB t 0) && decide (nextB t 0 ≤ 122)) = true) (h1 : (nextB t 1 == 58) = true) (k : nextB t 2 = 108) :
    Calls Tryd.prog 39 #[.string t, .int .i64 p, .bool false] w (FPost t p w) := by
  have HF : Hid (fieldB t = false) := by
    show fieldB t = false
    simp [fieldB]; omega
  have g0 : 0 < t.size := by omega
  have e0 : Hid (nextB t 0 = ((t[0]'g0).toNat : Int)) := nextB_in g0
  have g1 : 1 < t.size := by omega
  have e1 : Hid (nextB t 1 = ((t[1]'g1).toNat : Int)) := nextB_in g1
  have g2 : 2 < t.size := by omega
  have e2 : Hid (nextB t 2 = ((t[2]'g2).toNat : Int)) := nextB_in g2
  rw [e0.out] at h0
  rw [e1.out] at h1
  have ek : Hid (nextB t 2 = 108) := k
  rw [e2.out] at k
  have h1n : (((t[1]'g1).toNat : Int) != 58) = false := by simpa using h1
  have am := h0
  clear h0
  go_enter Tryd.func39, Tryd.ntmps39
  go_wp2_with (go_at_call 30; refine (among_any _ _ _ _ true am).mono ?_; rintro e w' ⟨rfl, rfl⟩)
  refine bodyPost_ret (v := .tuple #[.agg #[.int .u8 (t[0]'g0).toNat, .int .u8 108, .int .i64 p, .int .i64 0, .bool false, .bool false, .string ⟨#[]⟩], .bool false]) (by simp [results, Tryd.results39, go_sem]) rfl ⟨(t[0]'g0).toNat, 108, p, by rw [HF.out], (fun h => absurd h (by rw [HF.out]; decide)), ?_⟩
  exact ((Below.refl _ _).alloc (Nat.le_refl _) _).alloc (by simp) _

set_option maxHeartbeats 400000 in
set_option maxRecDepth 20000 in
theorem rfield_yes_r (t : ByteArray) (p : Int) (w : World) (hs : t.size = 3) (h0 : (decide (97 ≤ nextB t 0) && decide (nextB t 0 ≤ 122)) = true) (h1 : (nextB t 1 == 58) = true) (k : nextB t 2 = 114) :
    Calls Tryd.prog 39 #[.string t, .int .i64 p, .bool false] w (FPost t p w) := by
  have HF : Hid (fieldB t = true) := by
    show fieldB t = true
    simp at h0 h1; simp [fieldB, isKindB, k, h0, h1, hs]
  have g0 : 0 < t.size := by omega
  have e0 : Hid (nextB t 0 = ((t[0]'g0).toNat : Int)) := nextB_in g0
  have g1 : 1 < t.size := by omega
  have e1 : Hid (nextB t 1 = ((t[1]'g1).toNat : Int)) := nextB_in g1
  have g2 : 2 < t.size := by omega
  have e2 : Hid (nextB t 2 = ((t[2]'g2).toNat : Int)) := nextB_in g2
  rw [e0.out] at h0
  rw [e1.out] at h1
  have ek : Hid (nextB t 2 = 114) := k
  rw [e2.out] at k
  have h1n : (((t[1]'g1).toNat : Int) != 58) = false := by simpa using h1
  have am := h0
  clear h0
  go_enter Tryd.func39, Tryd.ntmps39
  go_wp2_with (go_at_call 30; refine (among_any _ _ _ _ true am).mono ?_; rintro e w' ⟨rfl, rfl⟩)
  refine bodyPost_ret (v := .tuple #[.agg #[.int .u8 (t[0]'g0).toNat, .int .u8 114, .int .i64 p, .int .i64 0, .bool false, .bool false, .string ⟨#[]⟩], .bool true]) (by simp [results, Tryd.results39, go_sem]) rfl ⟨(t[0]'g0).toNat, 114, p, by rw [HF.out], (fun _ => ⟨e0.out.symm, ek.out.symm, rfl⟩), ?_⟩
  exact ((Below.refl _ _).alloc (Nat.le_refl _) _).alloc (by simp) _

set_option maxHeartbeats 400000 in
set_option maxRecDepth 20000 in
theorem rfield_more_r (t : ByteArray) (p : Int) (w : World) (hs : 3 < t.size) (hm : t.size ≤ 4611686018427387904) (h0 : (decide (97 ≤ nextB t 0) && decide (nextB t 0 ≤ 122)) = true) (h1 : (nextB t 1 == 58) = true) (k : nextB t 2 = 114) :
    Calls Tryd.prog 39 #[.string t, .int .i64 p, .bool false] w (FPost t p w) := by
  have HF : Hid (fieldB t = false) := by
    show fieldB t = false
    simp [fieldB]; omega
  have g0 : 0 < t.size := by omega
  have e0 : Hid (nextB t 0 = ((t[0]'g0).toNat : Int)) := nextB_in g0
  have g1 : 1 < t.size := by omega
  have e1 : Hid (nextB t 1 = ((t[1]'g1).toNat : Int)) := nextB_in g1
  have g2 : 2 < t.size := by omega
  have e2 : Hid (nextB t 2 = ((t[2]'g2).toNat : Int)) := nextB_in g2
  rw [e0.out] at h0
  rw [e1.out] at h1
  have ek : Hid (nextB t 2 = 114) := k
  rw [e2.out] at k
  have h1n : (((t[1]'g1).toNat : Int) != 58) = false := by simpa using h1
  have am := h0
  clear h0
  go_enter Tryd.func39, Tryd.ntmps39
  go_wp2_with (go_at_call 30; refine (among_any _ _ _ _ true am).mono ?_; rintro e w' ⟨rfl, rfl⟩)
  refine bodyPost_ret (v := .tuple #[.agg #[.int .u8 (t[0]'g0).toNat, .int .u8 114, .int .i64 p, .int .i64 0, .bool false, .bool false, .string ⟨#[]⟩], .bool false]) (by simp [results, Tryd.results39, go_sem]) rfl ⟨(t[0]'g0).toNat, 114, p, by rw [HF.out], (fun h => absurd h (by rw [HF.out]; decide)), ?_⟩
  exact ((Below.refl _ _).alloc (Nat.le_refl _) _).alloc (by simp) _

end Go.Proofs.YthckelcjncnalaaDoor
