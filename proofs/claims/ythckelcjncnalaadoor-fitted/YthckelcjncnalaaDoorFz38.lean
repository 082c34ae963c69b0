import Derived.Test.YthckelcjncnalaaDoorFz30
import Derived.Test.YthckelcjncnalaaDoorFz36
import Derived.Test.YthckelcjncnalaaDoorFz37
namespace Go.Proofs.YthckelcjncnalaaDoor
open Go.RowKit

theorem ba_ext {a b : ByteArray} (hs : a.size = b.size) (h : ∀ j, j < a.size → nextB a j = nextB b j) : a = b := by
  cases a with | mk a => cases b with | mk b =>
  congr
  apply Array.ext hs
  intro i h1 h2
  have := h i h1
  rw [nextB_in (show i < (ByteArray.mk a).size from h1), nextB_in (show i < (ByteArray.mk b).size from h2)] at this
  exact UInt8.toNat_inj.1 (Int.ofNat.inj this)
theorem ext_size {s : ByteArray} {k e : Nat} (he : e ≤ s.size) : (s.extract k e).size = e - k := by
  have : (s.extract k e).size = min e s.size - k := ByteArray.size_extract
  omega
theorem ext_ext {s : ByteArray} {k e a b : Nat} (he : e ≤ s.size) (hb : k + b ≤ e) : (s.extract k e).extract a b = s.extract (k + a) (k + b) := by
  have h1 := ext_size (k := k) he
  apply ba_ext
  · rw [ext_size (by omega), ext_size (by omega)]; omega
  · intro j hj
    rw [ext_size (by omega)] at hj
    rw [nextB_extract _ a b j (by omega), nextB_extract s k e _ he, nextB_extract s (k + a) (k + b) j (by omega), if_pos (by omega), if_pos (by omega), if_pos (by omega), Nat.add_assoc]
/-- A field at k, as both have it: it ends at e. -/
structure FM (s : ByteArray) (k e : Nat) (f : GFd) (g : GU) : Prop where
  le : k + 3 ≤ e
  n : g.n = f.l
  k_ : g.k = f.k
  p : f.p = k
  gp : g.p = k
  sum : (g.sm = false ∧ f.ts = []) ∨ (g.sm = true ∧ f.sp = (k + 4 : Nat) ∧ g.sa = (k + 4 : Nat) ∧ g.bg = f.ex ∧ (sumRL s 6 (k + 4) []).ok = true ∧ f.ts = (sumRL s 6 (k + 4) []).ts ∧ g.su = s.extract (k + 4) (sumRL s 6 (k + 4) []).at_ ∧ (sumRL s 6 (k + 4) []).at_ ≤ e)
theorem lwr_b {x : Int} (h : lwr x) : ¬ (decide (97 ≤ x) && decide (x ≤ 122)) = false := by
  simp only [Bool.and_eq_false_iff, decide_eq_false_iff_not]; rintro (h' | h'); exact h' h.1; exact h' h.2
theorem lwr_nb {x : Int} (h : ¬ lwr x) : (decide (97 ≤ x) && decide (x ≤ 122)) = false := by
  simp only [Bool.and_eq_false_iff, decide_eq_false_iff_not]; unfold lwr at h; omega
theorem rn_bytes {M : Nat} : ∀ {l : List Int} {q q' : Nat × Nat × Nat}, rn M q l = some q' → ∀ x ∈ l, (40 ≤ x ∧ x ≤ 43) ∨ x = 45 ∨ (48 ≤ x ∧ x ≤ 57) ∨ (97 ≤ x ∧ x ≤ 122) := by
  intro l
  induction l with
  | nil => intro q q' _ x hx; simp at hx
  | cons c r ih =>
    intro q q' h x hx
    simp only [rn] at h
    cases hs : stp M q c with
    | none => rw [hs] at h; cases h
    | some q1 =>
      rw [hs] at h
      rcases List.mem_cons.1 hx with rfl | hx
      · exact stp_byte hs
      · exact ih h x hx
theorem bl_mem {s : ByteArray} {a b j : Nat} (h1 : a ≤ j) (h2 : j < b) (hb : b ≤ s.size) : nextB s j ∈ bl (s.extract a b) := by
  have hz : j - a < (s.extract a b).size := by rw [ext_size hb]; omega
  have := bl_at hz
  rw [nextB_extract s a b _ hb, if_pos (by omega), show a + (j - a) = j by omega] at this
  exact List.mem_of_getElem? this
/-- What a sum that was read is. -/
theorem sum_is {s : ByteArray} {a : Nat} (ha : a ≤ s.size) (h : (sumRL s 6 a []).ok = true) :
    a < (sumRL s 6 a []).at_ ∧ (sumRL s 6 a []).at_ ≤ s.size ∧ acc 6 (bl (s.extract a (sumRL s 6 a []).at_)) ∧ (∀ j, a ≤ j → j < (sumRL s 6 a []).at_ → nextB s j ≠ 44 ∧ nextB s j ≠ 125 ∧ nextB s j ≠ 33) := by
  obtain ⟨m, kk, hm, e⟩ := sum_yes h
  have R := ds_rn s (s.size - a) a (0, 0, 0) (by omega)
  rw [e] at R
  simp only [] at R
  obtain ⟨r1, r2, r3⟩ := R
  generalize (sumRL s 6 a []).at_ = x at r1 r2 r3 ⊢
  refine ⟨?_, r2, ⟨m, kk, r3, hm⟩, fun j h1 h2 => ?_⟩
  · rcases Nat.eq_or_lt_of_le r1 with rfl | h'
    · rw [bl_nil, rn] at r3
      injection r3 with r3
      exact absurd (congrArg (·.1) r3).symm hm
    · exact h'
  · have := rn_bytes r3 _ (bl_mem h1 h2 r2)
    omega
/-- A sum that stands there, with a byte behind it that goes on none, is read so. -/
theorem sum_of {s : ByteArray} {a e : Nat} (hae : a ≤ e) (he : e ≤ s.size) (h : acc 6 (bl (s.extract a e))) (hx : nextB s e = 33 ∨ nextB s e = 44 ∨ nextB s e = 125) : (sumRL s 6 a []).ok = true ∧ (sumRL s 6 a []).at_ = e := by
  obtain ⟨m, kk, hr, hm⟩ := h
  have e1 := rn_ds s (e - a) a e (0, 0, 0) _ (by omega) he hr
  have e2 : ds s e (m, 0, kk) = (e, (m, 0, kk)) := ds_stop (by
    cases hs : stp 6 (m, 0, kk) (nextB s e) with
    | none => rfl
    | some q => have := stp_byte hs; omega)
  rw [e2] at e1
  cases hok : (sumRL s 6 a []).ok with
  | true =>
    obtain ⟨m', kk', _, e3⟩ := sum_yes hok
    rw [e1] at e3
    exact ⟨rfl, (congrArg (·.1) e3).symm⟩
  | false =>
    obtain ⟨q, e3, hq⟩ := sum_no hok
    rw [e1] at e3
    injection e3 with _ e4
    rw [← e4] at hq
    simp only [] at hq
    omega
set_option maxHeartbeats 1000000 in
theorem field_yes (s : ByteArray) (k : Nat) (hok : (gdField upRule s k).ok = true) :
    (gdField upRule s k).at_ ≤ s.size ∧ (∀ j, k ≤ j → j < (gdField upRule s k).at_ → nextB s j ≠ 44 ∧ nextB s j ≠ 125) ∧
    ∃ g, fieldU (s.extract k (gdField upRule s k).at_) k = some g ∧ FM s k (gdField upRule s k).at_ (gdField upRule s k).f g := by
  unfold gdField at hok ⊢
  by_cases h0 : lwr (nextB s k)
  rotate_left
  · rw [if_pos (lwr_nb h0)] at hok; cases hok
  rw [if_neg (lwr_b h0)] at hok ⊢
  by_cases h1 : nextB s (k + 1) = 58
  rotate_left
  · rw [if_pos (by simp [h1])] at hok; cases hok
  rw [if_neg (by simp [h1])] at hok ⊢
  by_cases h2 : isKindB (nextB s (k + 1 + 1)) = true
  rotate_left
  · rw [if_pos (by simpa using h2)] at hok; cases hok
  rw [if_neg (by rw [h2]; decide)] at hok ⊢
  by_cases h3 : (upRule s (k + 1 + 1 + 1)).ok = false
  · rw [if_pos h3] at hok; cases hok
  rw [if_neg h3]
  have h3' : (upRule s (k + 1 + 1 + 1)).ok = true := by simpa using h3
  clear hok h3
  have hk2 : k + 1 + 1 < s.size := nextB_pos (isKindB_pos h2)
  have hkd : nextB s (k + 1 + 1) ≠ 44 ∧ nextB s (k + 1 + 1) ≠ 125 := by
    constructor <;> (intro h; rw [h] at h2; simp [isKindB] at h2)
  have hpre : ∀ j, k ≤ j → j < k + 3 → nextB s j ≠ 44 ∧ nextB s j ≠ 125 := by
    intro j j1 j2
    have : j = k ∨ j = k + 1 ∨ j = k + 1 + 1 := by omega
    rcases this with rfl | rfl | rfl
    · unfold lwr at h0; omega
    · omega
    · exact hkd
  unfold upRule at h3' ⊢
  by_cases h61 : nextB s (k + 1 + 1 + 1) = 61
  · rw [if_pos h61] at h3' ⊢
    have hk3 : k + 1 + 1 + 1 < s.size := nextB_pos (by omega)
    by_cases hs : (sumRL s 6 (k + 1 + 1 + 1 + 1) []).ok = true
    rotate_left
    · rw [if_neg hs] at h3'; cases h3'
    rw [if_pos hs]
    have e4 : k + 1 + 1 + 1 + 1 = k + 4 := by omega
    rw [e4] at hs ⊢
    obtain ⟨q1, q2, q3, q4⟩ := sum_is (a := k + 4) (by omega) hs
    generalize hx : (sumRL s 6 (k + 4) []).at_ = x at q1 q2 q3 q4 ⊢
    have hno : ∀ j, k ≤ j → j < x → nextB s j ≠ 44 ∧ nextB s j ≠ 125 := by
      intro j j1 j2
      rcases Nat.lt_or_ge j (k + 3) with h | h
      · exact hpre j j1 h
      · rcases Nat.lt_or_ge j (k + 4) with h' | h'
        · have : j = k + 1 + 1 + 1 := by omega
          rw [this]; omega
        · exact ⟨(q4 j h' j2).1, (q4 j h' j2).2.1⟩
    simp only []
    by_cases h33 : nextB s x = 33
    · rw [if_pos h33]
      have hx1 : x < s.size := nextB_pos (by omega)
      refine ⟨by omega, fun j j1 j2 => ?_, ?_⟩
      · rcases Nat.lt_or_ge j x with h | h
        · exact hno j j1 h
        · have : j = x := by omega
          rw [this]; omega
      · have hz : (s.extract k (x + 1)).size = x + 1 - k := ext_size (by omega)
        have n0 : nextB (s.extract k (x + 1)) 0 = nextB s k := by rw [nextB_extract s k (x + 1) 0 (by omega), if_pos (by omega)]; rfl
        have n1 : nextB (s.extract k (x + 1)) 1 = nextB s (k + 1) := by rw [nextB_extract s k (x + 1) 1 (by omega), if_pos (by omega)]
        have n2 : nextB (s.extract k (x + 1)) 2 = nextB s (k + 1 + 1) := by rw [nextB_extract s k (x + 1) 2 (by omega), if_pos (by omega)]
        have n3 : nextB (s.extract k (x + 1)) 3 = nextB s (k + 1 + 1 + 1) := by rw [nextB_extract s k (x + 1) 3 (by omega), if_pos (by omega)]
        have so : sumOf (s.extract k (x + 1)) = s.extract (k + 4) (x + 1) := by
          unfold sumOf; rw [ext_ext (by omega) (by omega), show k + (s.extract k (x + 1)).size = x + 1 by omega]
        have sz : (s.extract (k + 4) (x + 1)).size = x + 1 - (k + 4) := ext_size (by omega)
        have hbang : bangB (s.extract k (x + 1)) = true := by
          unfold bangB
          rw [so, sz, nextB_extract s (k + 4) (x + 1) _ (by omega), if_pos (by omega), show k + 4 + (x + 1 - (k + 4) - 1) = x by omega, h33]
          simp; omega
        have hcut : cutOf (s.extract k (x + 1)) = s.extract (k + 4) x := by
          unfold cutOf; rw [so, sz, ext_ext (by omega) (by omega), Nat.add_zero, show k + 4 + (x + 1 - (k + 4) - 1) = x by omega]
        have hsum : sumB (s.extract (k + 4) x) 6 = true := (sumB_acc _ _).2 q3
        refine ⟨⟨nextB s k, nextB s (k + 1 + 1), k, (k : Int) + 4, true, true, s.extract (k + 4) x⟩, ?_, ⟨by omega, rfl, rfl, rfl, rfl, .inr ⟨rfl, by first | rfl | (simp only []; omega) | omega, by first | rfl | (simp only []; omega) | omega, by simp [h33], hs, rfl, by rw [hx], by omega⟩⟩⟩
        unfold fieldU
        rw [if_neg (by omega), n0, if_neg (lwr_b h0), n1, if_neg (by simp [h1]), n2, if_neg (by rw [h2]; decide), if_neg (by omega), n3, if_neg (by simp [h61]), if_pos hbang, hcut, if_pos hsum]
    · rw [if_neg h33]
      refine ⟨q2, hno, ?_⟩
      have hz : (s.extract k x).size = x - k := ext_size (by omega)
      have n0 : nextB (s.extract k x) 0 = nextB s k := by rw [nextB_extract s k x 0 (by omega), if_pos (by omega)]; rfl
      have n1 : nextB (s.extract k x) 1 = nextB s (k + 1) := by rw [nextB_extract s k x 1 (by omega), if_pos (by omega)]
      have n2 : nextB (s.extract k x) 2 = nextB s (k + 1 + 1) := by rw [nextB_extract s k x 2 (by omega), if_pos (by omega)]
      have n3 : nextB (s.extract k x) 3 = nextB s (k + 1 + 1 + 1) := by rw [nextB_extract s k x 3 (by omega), if_pos (by omega)]
      have so : sumOf (s.extract k x) = s.extract (k + 4) x := by
        unfold sumOf; rw [ext_ext (by omega) (by omega), show k + (s.extract k x).size = x by omega]
      have sz : (s.extract (k + 4) x).size = x - (k + 4) := ext_size (by omega)
      have hbang : ¬ bangB (s.extract k x) = true := by
        unfold bangB
        rw [so, sz, nextB_extract s (k + 4) x _ (by omega), if_pos (by omega), show k + 4 + (x - (k + 4) - 1) = x - 1 by omega]
        have := (q4 (x - 1) (by omega) (by omega)).2.2
        simp [this]
      have hsum : sumB (s.extract (k + 4) x) 6 = true := (sumB_acc _ _).2 q3
      refine ⟨⟨nextB s k, nextB s (k + 1 + 1), k, (k : Int) + 4, true, false, s.extract (k + 4) x⟩, ?_, ⟨by omega, rfl, rfl, rfl, rfl, .inr ⟨rfl, by first | rfl | (simp only []; omega) | omega, by first | rfl | (simp only []; omega) | omega, by simp [h33], hs, rfl, by rw [hx], by omega⟩⟩⟩
      unfold fieldU
      rw [if_neg (by omega), n0, if_neg (lwr_b h0), n1, if_neg (by simp [h1]), n2, if_neg (by rw [h2]; decide), if_neg (by omega), n3, if_neg (by simp [h61]), if_neg hbang, so, if_pos hsum]
  · rw [if_neg h61]
    simp only []
    refine ⟨by omega, fun j j1 j2 => hpre j j1 (by omega), ?_⟩
    have hz : (s.extract k (k + 1 + 1 + 1)).size = 3 := by rw [ext_size (by omega)]; omega
    have n0 : nextB (s.extract k (k + 1 + 1 + 1)) 0 = nextB s k := by rw [nextB_extract s k _ 0 (by omega), if_pos (by omega)]; rfl
    have n1 : nextB (s.extract k (k + 1 + 1 + 1)) 1 = nextB s (k + 1) := by rw [nextB_extract s k _ 1 (by omega), if_pos (by omega)]
    have n2 : nextB (s.extract k (k + 1 + 1 + 1)) 2 = nextB s (k + 1 + 1) := by rw [nextB_extract s k _ 2 (by omega), if_pos (by omega)]
    refine ⟨⟨nextB s k, nextB s (k + 1 + 1), k, 0, false, false, ⟨#[]⟩⟩, ?_, ⟨by omega, rfl, rfl, rfl, rfl, .inl ⟨rfl, rfl⟩⟩⟩
    unfold fieldU
    rw [if_neg (by omega), n0, if_neg (lwr_b h0), n1, if_neg (by simp [h1]), n2, if_neg (by rw [h2]; decide), if_pos hz]
set_option maxHeartbeats 1000000 in
theorem field_of (s : ByteArray) (k e : Nat) (hke : k ≤ e) (he : e ≤ s.size) (hx : nextB s e = 44 ∨ nextB s e = 125) (g : GU) (hg : fieldU (s.extract k e) k = some g) : (gdField upRule s k).ok = true ∧ (gdField upRule s k).at_ = e := by
  have hz : (s.extract k e).size = e - k := ext_size he
  unfold fieldU at hg
  by_cases hs : (s.extract k e).size < 3
  · rw [if_pos hs] at hg; cases hg
  rw [if_neg hs] at hg
  have n0 : nextB (s.extract k e) 0 = nextB s k := by rw [nextB_extract s k e 0 he, if_pos (by omega)]; rfl
  have n1 : nextB (s.extract k e) 1 = nextB s (k + 1) := by rw [nextB_extract s k e 1 he, if_pos (by omega)]
  have n2 : nextB (s.extract k e) 2 = nextB s (k + 1 + 1) := by rw [nextB_extract s k e 2 he, if_pos (by omega)]
  rw [n0, n1, n2] at hg
  by_cases h0 : lwr (nextB s k)
  rotate_left
  · rw [if_pos (lwr_nb h0)] at hg; cases hg
  rw [if_neg (lwr_b h0)] at hg
  by_cases h1 : nextB s (k + 1) = 58
  rotate_left
  · rw [if_pos (by simp [h1])] at hg; cases hg
  rw [if_neg (by simp [h1])] at hg
  by_cases h2 : isKindB (nextB s (k + 1 + 1)) = true
  rotate_left
  · rw [if_pos (by simpa using h2)] at hg; cases hg
  rw [if_neg (by rw [h2]; decide)] at hg
  unfold gdField
  rw [if_neg (lwr_b h0), if_neg (by simp [h1]), if_neg (by rw [h2]; decide)]
  suffices hr : (upRule s (k + 1 + 1 + 1)).ok = true ∧ (upRule s (k + 1 + 1 + 1)).at_ = e by
    rw [if_neg (by rw [hr.1]; decide)]; exact ⟨rfl, hr.2⟩
  unfold upRule
  by_cases h3 : (s.extract k e).size = 3
  · have : k + 1 + 1 + 1 = e := by omega
    rw [this, if_neg (by omega)]
    exact ⟨rfl, rfl⟩
  rw [if_neg h3] at hg
  have n3 : nextB (s.extract k e) 3 = nextB s (k + 1 + 1 + 1) := by rw [nextB_extract s k e 3 he, if_pos (by omega)]
  rw [n3] at hg
  by_cases h61 : nextB s (k + 1 + 1 + 1) = 61
  rotate_left
  · rw [if_pos (by simp [h61])] at hg; cases hg
  rw [if_neg (by simp [h61])] at hg
  rw [if_pos h61]
  have so : sumOf (s.extract k e) = s.extract (k + 4) e := by
    unfold sumOf; rw [ext_ext (by omega) (by omega), show k + (s.extract k e).size = e by omega]
  have sz : (s.extract (k + 4) e).size = e - (k + 4) := ext_size he
  have e4 : k + 1 + 1 + 1 + 1 = k + 4 := by omega
  rw [e4]
  by_cases hb : bangB (s.extract k e) = true
  · rw [if_pos hb] at hg
    have hcut : cutOf (s.extract k e) = s.extract (k + 4) (e - 1) := by
      unfold cutOf; rw [so, sz]
      by_cases h4 : k + 4 < e
      · rw [ext_ext (by omega) (by omega), Nat.add_zero, show k + 4 + (e - (k + 4) - 1) = e - 1 by omega]
      · unfold bangB at hb
        rw [so, sz, show e - (k + 4) = 0 by omega] at hb
        simp at hb
    rw [hcut] at hg
    by_cases hsum : sumB (s.extract (k + 4) (e - 1)) 6 = true
    rotate_left
    · rw [if_neg hsum] at hg; cases hg
    unfold bangB at hb
    rw [so, sz] at hb
    simp only [Bool.and_eq_true, decide_eq_true_eq, beq_iff_eq] at hb
    rw [nextB_extract s (k + 4) e _ he, if_pos (by omega), show k + 4 + (e - (k + 4) - 1) = e - 1 by omega] at hb
    obtain ⟨a1, a2⟩ := sum_of (a := k + 4) (e := e - 1) (by omega) (by omega) ((sumB_acc _ _).1 hsum) (.inl hb.2)
    rw [if_pos a1]
    simp only []
    rw [a2, if_pos hb.2]
    exact ⟨trivial, by omega⟩
  · rw [if_neg hb, so] at hg
    by_cases hsum : sumB (s.extract (k + 4) e) 6 = true
    rotate_left
    · rw [if_neg hsum] at hg; cases hg
    obtain ⟨a1, a2⟩ := sum_of (a := k + 4) (e := e) (by omega) he ((sumB_acc _ _).1 hsum) (by omega)
    rw [if_pos a1]
    simp only []
    rw [a2, if_neg (by omega)]
    exact ⟨trivial, rfl⟩
end Go.Proofs.YthckelcjncnalaaDoor
