import Derived.Test.YthckelcjncnalaaDoorFz30
namespace Go.Proofs.YthckelcjncnalaaDoor
open Go.RowKit

set_option maxHeartbeats 2000000 in
set_option maxRecDepth 20000 in
theorem ufield_sum (t : ByteArray) (p : Int) (w : World) (hs : 3 < t.size) (hm : t.size ≤ 1000) (hp : 0 ≤ p) (hp' : p ≤ 1000) (h0 : (decide (97 ≤ nextB t 0) && decide (nextB t 0 ≤ 122)) = true) (h1 : nextB t 1 = 58) (h2 : isKindB (nextB t 2) = true) (h3 : nextB t 3 = 61) (h4 : bangB t = false) :
    Calls Tryd.prog 39 #[.string t, .int .i64 p, .bool true] w (UPost (if sumB (sumOf t) 6 = true then some ⟨nextB t 0, nextB t 2, p, p + 4, true, false, sumOf t⟩ else none) w) := by
  have x0 := nextB_at (show 0 < t.size by omega)
  have x1 := nextB_at (show 1 < t.size by omega)
  have x2 := nextB_at (show 2 < t.size by omega)
  have x3 := nextB_at (show 3 < t.size by omega)
  have hs3 : ((t.size : Int) == 3) = false := by simp; omega
  have hz : (sumOf t).size = t.size - 4 := by unfold sumOf; rw [ByteArray.size_extract]; omega
  have SB := isSum_any (sumOf t) 6
  rw [h1] at x1
  rw [h3] at x3
  have hsu : t.extract 4 t.size = sumOf t := rfl
  obtain ⟨u, hu⟩ : ∃ u, u = sumOf t := ⟨_, rfl⟩
  have hbg : bangB t = (decide (0 < u.size) && (nextB u (u.size - 1) == 33)) := by rw [hu]; rfl
  rw [hbg] at h4
  rw [← hu] at hz SB hsu ⊢
  clear hu hbg
  obtain ⟨y, hy⟩ : ∃ y, y = sumB u 6 := ⟨_, rfl⟩
  rw [← hy] at SB ⊢
  obtain ⟨Q, hQ⟩ : ∃ Q, Q = (if y = true then some (⟨nextB t 0, nextB t 2, p, p + 4, true, false, u⟩ : GU) else none) := ⟨_, rfl⟩
  rw [← hQ]
  have HR : Hid (Q = (if y = true then some (⟨nextB t 0, nextB t 2, p, p + 4, true, false, u⟩ : GU) else none)) := hQ
  clear hQ
  have hzu : u.size ≤ 1000 := by omega
  have SB' : ∀ W : World, Calls Tryd.prog 45 #[.string u, .int .i64 6] W fun e w' => e = .returned (.bool y) ∧ w' = W := fun W => SB W hzu (by decide)
  clear SB hy
  by_cases he : 4 < t.size
  · have hz5 : 0 < u.size := by omega
    have hne : u.toList.isEmpty = false := by rw [empty_size]; exact decide_eq_false (by omega)
    have hlt : u.size - 1 < u.size := by omega
    have xl := nextB_at hlt
    have h4' : (nextB u (u.size - 1) == 33) = false := by
      rw [decide_eq_true hz5, Bool.true_and] at h4; exact h4
    clear h4 hz
    rcases kind_cases h2 with k | k | k | k | k
    all_goals
      rw [k] at x2
      go_enter Tryd.func39, Tryd.ntmps39
      go_wp2_with (go_at_call 30; refine (among_any _ _ _ _ true h0).mono ?_; rintro e w' ⟨rfl, rfl⟩)
      refine (SB' _).mono ?_
      rintro e w' ⟨rfl, rfl⟩
      go_wp2
      refine bodyPost_ret (v := .tuple #[.agg (GU.cells ⟨nextB t 0, nextB t 2, p, p + 4, true, false, u⟩).toArray, .bool y]) (by simp [results, Tryd.results39, go_sem, GU.cells, k]) rfl ⟨_, by rw [HR.out]; cases y <;> rfl, (fun r h => by rw [HR.out] at h; cases y <;> simp at h; exact h), ?_⟩
      with_reducible repeat first | exact Below.refl _ _ | (refine Below.setU ?_ (by omega) _) | (refine Below.alloc ?_ (by simp) _)
  · have hne : u.toList.isEmpty = true := by rw [empty_size]; exact decide_eq_true (by omega)
    clear h4
    rcases kind_cases h2 with k | k | k | k | k
    all_goals
      rw [k] at x2
      go_enter Tryd.func39, Tryd.ntmps39
      go_wp2_with (go_at_call 30; refine (among_any _ _ _ _ true h0).mono ?_; rintro e w' ⟨rfl, rfl⟩)
      refine (SB' _).mono ?_
      rintro e w' ⟨rfl, rfl⟩
      go_wp2
      refine bodyPost_ret (v := .tuple #[.agg (GU.cells ⟨nextB t 0, nextB t 2, p, p + 4, true, false, u⟩).toArray, .bool y]) (by simp [results, Tryd.results39, go_sem, GU.cells, k]) rfl ⟨_, by rw [HR.out]; cases y <;> rfl, (fun r h => by rw [HR.out] at h; cases y <;> simp at h; exact h), ?_⟩
      with_reducible repeat first | exact Below.refl _ _ | (refine Below.setU ?_ (by omega) _) | (refine Below.alloc ?_ (by simp) _)

end Go.Proofs.YthckelcjncnalaaDoor
namespace Go.Proofs.YthckelcjncnalaaDoor
open Go.RowKit

set_option maxHeartbeats 2000000 in
set_option maxRecDepth 20000 in
theorem ufield_bang (t : ByteArray) (p : Int) (w : World) (hs : 3 < t.size) (hm : t.size ≤ 1000) (hp : 0 ≤ p) (hp' : p ≤ 1000) (h0 : (decide (97 ≤ nextB t 0) && decide (nextB t 0 ≤ 122)) = true) (h1 : nextB t 1 = 58) (h2 : isKindB (nextB t 2) = true) (h3 : nextB t 3 = 61) (h4 : bangB t = true) :
    Calls Tryd.prog 39 #[.string t, .int .i64 p, .bool true] w (UPost (if sumB (cutOf t) 6 = true then some ⟨nextB t 0, nextB t 2, p, p + 4, true, true, cutOf t⟩ else none) w) := by
  have x0 := nextB_at (show 0 < t.size by omega)
  have x1 := nextB_at (show 1 < t.size by omega)
  have x2 := nextB_at (show 2 < t.size by omega)
  have x3 := nextB_at (show 3 < t.size by omega)
  have hs3 : ((t.size : Int) == 3) = false := by simp; omega
  have hz : (sumOf t).size = t.size - 4 := by unfold sumOf; rw [ByteArray.size_extract]; omega
  have SB := isSum_any (cutOf t) 6
  rw [h1] at x1
  rw [h3] at x3
  have hsu : t.extract 4 t.size = sumOf t := rfl
  obtain ⟨u, hu⟩ : ∃ u, u = sumOf t := ⟨_, rfl⟩
  have hbg : bangB t = (decide (0 < u.size) && (nextB u (u.size - 1) == 33)) := by rw [hu]; rfl
  have hcu : u.extract 0 (u.size - 1) = cutOf t := by rw [hu]; rfl
  rw [hbg, Bool.and_eq_true, decide_eq_true_eq] at h4
  rw [← hu] at hz hsu
  clear hu hbg
  obtain ⟨c, hc⟩ : ∃ c, c = cutOf t := ⟨_, rfl⟩
  rw [← hc] at SB hcu ⊢
  have hzc : c.size ≤ 1000 := by rw [← hcu, ByteArray.size_extract]; omega
  clear hc
  obtain ⟨y, hy⟩ : ∃ y, y = sumB c 6 := ⟨_, rfl⟩
  rw [← hy] at SB ⊢
  obtain ⟨Q, hQ⟩ : ∃ Q, Q = (if y = true then some (⟨nextB t 0, nextB t 2, p, p + 4, true, true, c⟩ : GU) else none) := ⟨_, rfl⟩
  rw [← hQ]
  have HR : Hid (Q = (if y = true then some (⟨nextB t 0, nextB t 2, p, p + 4, true, true, c⟩ : GU) else none)) := hQ
  clear hQ
  have SB' : ∀ W : World, Calls Tryd.prog 45 #[.string c, .int .i64 6] W fun e w' => e = .returned (.bool y) ∧ w' = W := fun W => SB W hzc (by decide)
  clear SB hy
  obtain ⟨hz5, h4'⟩ := h4
  · have hne : u.toList.isEmpty = false := by rw [empty_size]; exact decide_eq_false (by omega)
    have hlt : u.size - 1 < u.size := by omega
    have xl := nextB_at hlt
    have h4n : nextB u (u.size - 1) = 33 := by simpa using h4'
    rw [h4n] at xl
    have hzu : u.size ≤ 1000 := by omega
    clear h4' h4n hz
    rcases kind_cases h2 with k | k | k | k | k
    all_goals
      rw [k] at x2
      go_enter Tryd.func39, Tryd.ntmps39
      go_wp2_with (go_at_call 30; refine (among_any _ _ _ _ true h0).mono ?_; rintro e w' ⟨rfl, rfl⟩)
      refine (SB' _).mono ?_
      rintro e w' ⟨rfl, rfl⟩
      go_wp2
      refine bodyPost_ret (v := .tuple #[.agg (GU.cells ⟨nextB t 0, nextB t 2, p, p + 4, true, true, c⟩).toArray, .bool y]) (by simp [results, Tryd.results39, go_sem, GU.cells, k]) rfl ⟨_, by rw [HR.out]; cases y <;> rfl, (fun r h => by rw [HR.out] at h; cases y <;> simp at h; exact h), ?_⟩
      with_reducible repeat first | exact Below.refl _ _ | (refine Below.setU ?_ (by omega) _) | (refine Below.alloc ?_ (by simp) _)

end Go.Proofs.YthckelcjncnalaaDoor
namespace Go.Proofs.YthckelcjncnalaaDoor
open Go.RowKit

theorem ufield_any (t : ByteArray) (p : Int) (w : World) (hm : t.size ≤ 1000) (hp : 0 ≤ p) (hp' : p ≤ 1000) :
    Calls Tryd.prog 39 #[.string t, .int .i64 p, .bool true] w (UPost (fieldU t p) w) := by
  unfold fieldU
  by_cases h : t.size < 3
  · rw [if_pos h]; exact ufield_short t p w h
  rw [if_neg h]
  cases h0 : (decide (97 ≤ nextB t 0) && decide (nextB t 0 ≤ 122)) with
  | false => rw [if_pos rfl]; exact ufield_letter t p w (by omega) h0
  | true =>
    rw [if_neg (by decide)]
    cases h1 : (nextB t 1 == 58) with
    | false => rw [if_pos rfl]; exact ufield_colon t p w (by omega) h0 h1
    | true =>
      have h1' : nextB t 1 = 58 := by simpa using h1
      rw [if_neg (by decide)]
      cases h2 : isKindB (nextB t 2) with
      | false => rw [if_pos rfl]; exact ufield_kind t p w (by omega) h0 h1' h2
      | true =>
        rw [if_neg (by decide)]
        by_cases h3 : t.size = 3
        · rw [if_pos h3]; exact ufield_three t p w h3 h0 h1' h2
        · rw [if_neg h3]
          cases h4 : (nextB t 3 == 61) with
          | false => rw [if_pos rfl]; exact ufield_noeq t p w (by omega) hm h0 h1' h2 h4
          | true =>
            have h4' : nextB t 3 = 61 := by simpa using h4
            rw [if_neg (by decide)]
            cases h5 : bangB t with
            | true => rw [if_pos rfl]; exact ufield_bang t p w (by omega) hm hp hp' h0 h1' h2 h4' h5
            | false => rw [if_neg (by decide)]; exact ufield_sum t p w (by omega) hm hp hp' h0 h1' h2 h4' h5
end Go.Proofs.YthckelcjncnalaaDoor
namespace Go.Proofs.YthckelcjncnalaaDoor
open Go.RowKit

theorem ufield_some (t : ByteArray) (p : Int) (w : World) (hm : t.size ≤ 1000) (hp : 0 ≤ p) (hp' : p ≤ 1000) (g : GU) (hf : fieldU t p = some g) :
    Calls Tryd.prog 39 #[.string t, .int .i64 p, .bool true] w fun e w' => e = .returned (.tuple #[.agg #[.int .u8 g.n, .int .u8 g.k, .int .i64 g.p, .int .i64 g.sa, .bool g.sm, .bool g.bg, .string g.su], .bool true]) ∧ Below w.heap.size w w' := by
  refine (ufield_any t p w hm hp hp').mono ?_
  rw [hf]
  rintro e w' ⟨g', rfl, hg, hb⟩
  rw [hg g rfl]
  exact ⟨rfl, hb⟩
theorem ufield_none (t : ByteArray) (p : Int) (w : World) (hm : t.size ≤ 1000) (hp : 0 ≤ p) (hp' : p ≤ 1000) (hf : fieldU t p = none) :
    Calls Tryd.prog 39 #[.string t, .int .i64 p, .bool true] w fun e w' => ∃ (x0 x1 x2 x3 : Int) (x4 x5 : Bool) (x6 : ByteArray), e = .returned (.tuple #[.agg #[.int .u8 x0, .int .u8 x1, .int .i64 x2, .int .i64 x3, .bool x4, .bool x5, .string x6], .bool false]) ∧ Below w.heap.size w w' := by
  refine (ufield_any t p w hm hp hp').mono ?_
  rw [hf]
  rintro e w' ⟨g', rfl, hg, hb⟩
  exact ⟨g'.n, g'.k, g'.p, g'.sa, g'.sm, g'.bg, g'.su, rfl, hb⟩

def flatU (l : List GU) : List Value := l.flatMap GU.cells
theorem flatU_app (a b : List GU) : flatU (a ++ b) = flatU a ++ flatU b := by simp [flatU]
def UV (w : World) (base : Nat) (v : Value) (l : List GU) : Prop := w.ownsRow base 59 7 v l.length (flatU l)

/-- The loop of an update's fields: n rounds are to come, from the place i on. -/
def ufLoop (t : ByteArray) (p : Int) : Nat → Nat → Nat → List GU → Option (List GU)
  | 0, _, _, l => some l
  | n + 1, i, fr, l =>
    if i < t.size ∧ nextB t i ≠ 44 then ufLoop t p n (i + 1) fr l
    else match fieldU (t.extract fr i) (p + fr) with
      | none => none
      | some g => if l.length = 6 then none else ufLoop t p n (i + 1) (i + 1) (l ++ [g])

def ufFields (t : ByteArray) (p : Int) : Option (List GU) := if t.size = 0 then some [] else ufLoop t p (t.size + 1) 0 0 []

def UsPost (R : Option (List GU)) (w : World) (e : Ending) (w' : World) : Prop := ∃ (a : Option Addr) (n c : Nat),
  e = .returned (.tuple #[.slice a n c, .bool R.isSome]) ∧ UV w' w.heap.size (.slice a n c) (R.getD []) ∧ Below w.heap.size w w'

theorem UV.shape {w : World} {base : Nat} {v : Value} {l : List GU} (h : UV w base v l) : ∃ a c, v = .slice a l.length c := by
  rcases h.2 with ⟨rfl, hn⟩ | ⟨g, cap, cur, rfl, _⟩
  · exact ⟨none, 0, by rw [hn]⟩
  · exact ⟨_, _, rfl⟩
theorem UV.nil (w : World) (base : Nat) : UV w base (.slice none 0 0) [] := World.ownsRow_nil _ _ _ _
theorem UV.below {w w' : World} {base : Nat} {v : Value} {l : List GU} (h : UV w base v l) (hb : Below w.heap.size w w') : UV w' base v l := World.ownsRow.kept h (gb_below hb none) (by cases hv : v.ownBlock <;> simp)
theorem UV.alloc {w : World} {base : Nat} {v : Value} {l : List GU} (h : UV w base v l) (o : Obj) : UV (w.alloc o) base v l := World.ownsRow.alloc h o

set_option maxHeartbeats 400000 in
set_option maxRecDepth 20000 in
theorem ufields_empty (t : ByteArray) (p : Int) (w : World) (hs : t.size = 0) :
    Calls Tryd.prog 31 #[.string t, .int .i64 p, .bool true] w (UsPost (ufFields t p) w) := by
  have e : ufFields t p = some [] := by simp [ufFields, hs]
  rw [e]
  have he : t.toList.isEmpty = true := by rw [empty_size, hs]; rfl
  clear hs e
  go_enter Tryd.func31, Tryd.ntmps31
  go_wp2
  go_ret2
  exact ⟨_, _, _, rfl, UV.nil _ _, Below.refl _ _⟩

theorem uapp_step {w w1 w2 : World} {v v' : Value} {l : List GU} {f : GU} {o1 o2 : Obj} (V1 : UV w1 w.heap.size v l) (B1 : Below w.heap.size w w1)
    (hown : w2.ownsRow w.heap.size 59 7 v' (l.length + 1) (flatU l ++ f.cells)) (hg : ((w1.alloc o1).alloc o2).grownBy w2 v.ownBlock) :
    UV w2 w.heap.size v' (l ++ [f]) ∧ Below w.heap.size w w2 := by
  have V2 : UV w2 w.heap.size v' (l ++ [f]) := by simpa [UV, flatU_app, flatU] using hown
  refine ⟨V2, ((B1.alloc B1.size o1).alloc (by have := B1.size; simp; omega) o2).grown hg (by have := B1.size; simp; omega) (fun k hk => (World.ownsRow.lt V1 k hk).1)⟩

set_option maxHeartbeats 1000000 in
set_option maxRecDepth 20000 in
theorem ufields_row (t : ByteArray) (p : Int) (w : World) (hs : 0 < t.size) (hm : t.size ≤ 400) (hp : 0 ≤ p) (hp' : p ≤ 500) :
    Calls Tryd.prog 31 #[.string t, .int .i64 p, .bool true] w (UsPost (ufFields t p) w) := by
  obtain ⟨i0, hi, hz0, hz1, hz2⟩ := info_parts Tryd.infoRField
  have he : t.toList.isEmpty = false := by rw [empty_size]; exact decide_eq_false (by omega)
  obtain ⟨R, hR⟩ : ∃ R, R = ufLoop t p (t.size + 1) 0 0 [] := ⟨_, rfl⟩
  have e : ufFields t p = R := by simp only [ufFields]; rw [if_neg (by omega), hR]
  rw [e]
  have HR : Hid (R = ufLoop t p (t.size + 1) 0 0 []) := hR
  clear e hR
  go_enter Tryd.func31, Tryd.ntmps31
  go_wp2
  go_loopw [8, 9, 10] (fun v f i wr => ∃ (k fr : Nat) (l : List GU), k ≤ t.size + 1 ∧ fr ≤ k ∧ l.length ≤ 6 ∧ i = .int .i64 k ∧ f = .int .i64 fr ∧ Hid (R = ufLoop t p (t.size + 1 - k) k fr l) ∧ UV wr w.heap.size v l ∧ Below w.heap.size w wr) (fun _ _ i _ => t.size + 1 - (intOf i).toNat)
  case atStart => exact ⟨0, 0, [], by omega, by omega, by simp, rfl, rfl, HR, UV.nil _ _, Below.refl _ _⟩
  case round =>
    obtain ⟨k, fr, l, hk, hfr, hl, rfl, rfl, HR', V0, hb⟩ := hrel
    clear HR
    by_cases hend : k = t.size + 1
    · have h2 : t.size < k := by omega
      have HR2 := HR'.out
      have e : t.size + 1 - k = 0 := by omega
      rw [e, ufLoop] at HR2
      subst HR2
      obtain ⟨ad, cp, rfl⟩ := V0.shape
      clear hend e HR'
      go_wp2
      go_ret2
      exact ⟨_, _, _, rfl, V0, hb⟩
    have hk' : k ≤ t.size := by omega
    obtain ⟨n', hn'⟩ : ∃ n', t.size + 1 - k = n' + 1 := ⟨t.size - k, by omega⟩
    have HR2 := HR'.out
    rw [hn', ufLoop] at HR2
    clear HR' hend
    have HN : Hid (t.size + 1 - k = n' + 1) := hn'
    clear hn'
    by_cases hc : k < t.size ∧ nextB t k ≠ 44
    · rw [if_pos hc] at HR2
      have HR : Hid (R = ufLoop t p n' (k + 1) fr l) := HR2
      clear HR2
      obtain ⟨hc1, hc2⟩ := hc
      rw [nextB_in hc1] at hc2
      have hc3 : (((t[k]'hc1).toNat : Int) != 44) = true := by simpa using hc2
      clear hc2
      go_wp2
      go_roundw
      case rel => exact ⟨k + 1, fr, l, by omega, by omega, hl, by go_num, rfl, by have := HN.out; rw [show t.size + 1 - (k + 1) = n' by omega]; exact HR, V0, hb⟩
      case measure => simp [intOf]; omega
    · rw [if_neg hc] at HR2
      have HR : Hid (R = _) := HR2
      clear HR2
      obtain ⟨ad, cp, rfl⟩ := V0.shape
      by_cases hlt : k < t.size
      · have hc1 : (((t[k]'hlt).toNat : Int) != 44) = false := by
          have : nextB t k = 44 := by
            by_cases h : nextB t k = 44
            · exact h
            · exact absurd ⟨hlt, h⟩ hc
          rw [nextB_in hlt] at this; simp [this]
        clear hc
        cases hfb' : fieldU (t.extract fr k) (p + fr) with
        | none =>
          have hfb : Hid (fieldU (t.extract fr k) (p + fr) = none) := hfb'
          have HR2 := HR.out
          rw [hfb'] at HR2
          simp only [] at HR2
          subst HR2
          clear hfb' HR
          go_wp2_with (go_at_call 39; refine (ufield_none (t.extract fr k) (p + fr) wr (by simp; omega) (by omega) (by omega) hfb.out).mono ?_; rintro e w1 ⟨x0, x1, x2, x3, x4, x5, x6, rfl, hb1⟩; have V1 := V0.below hb1; have B1 := hb.trans (hb1.mono hb.size); have hs1 : w.heap.size ≤ w1.heap.size := B1.size; clear hb1)
          go_ret2
          exact ⟨_, _, _, rfl, UV.nil _ _, B1.alloc hs1 _⟩
        | some g =>
          have hfb : Hid (fieldU (t.extract fr k) (p + fr) = some g) := hfb'
          by_cases h6 : l.length = 6
          · have HR2 := HR.out
            rw [hfb'] at HR2
            simp only [h6, if_true] at HR2
            subst HR2
            have h6' : 6 ≤ l.length := by omega
            clear hfb' HR h6
            go_wp2_with (go_at_call 39; refine (ufield_some (t.extract fr k) (p + fr) wr (by simp; omega) (by omega) (by omega) g hfb.out).mono ?_; rintro e w1 ⟨rfl, hb1⟩; have V1 := V0.below hb1; have B1 := hb.trans (hb1.mono hb.size); have hs1 : w.heap.size ≤ w1.heap.size := B1.size; clear hb1)
            go_ret2
            exact ⟨_, _, _, rfl, UV.nil _ _, B1.alloc hs1 _⟩
          · have HR2 := HR.out
            rw [hfb'] at HR2
            simp only [h6, if_false] at HR2
            have HR3 : Hid (R = _) := HR2
            have h6' : l.length < 6 := by omega
            clear hfb' HR h6 HR2
            go_wp2_with (first | (go_at_call 39; refine (ufield_some (t.extract fr k) (p + fr) wr (by simp; omega) (by omega) (by omega) g hfb.out).mono ?_; rintro e w1 ⟨rfl, hb1⟩; have V1 := V0.below hb1; have B1 := hb.trans (hb1.mono hb.size); have hs1 : w.heap.size ≤ w1.heap.size := B1.size; clear hb1) | (at_builtin; refine wpList_append_own _ rfl _ _ 51 rfl w.heap.size 59 i0 (.agg #[.int .u8 0, .int .u8 0, .int .i64 0, .int .i64 0, .bool false, .bool false, .string ⟨#[]⟩]) 7 48 Tryd.underlying51 hi hz0 hz1 hz2 rfl (by decide) _ l.length (flatU l) rfl ((V1.alloc _).alloc _) ⟨w1.heap.size + 1, 0, none⟩ 1 1 [.int .u8 g.n, .int .u8 g.k, .int .i64 g.p, .int .i64 g.sa, .bool g.sm, .bool g.bg, .string g.su] rfl rfl ?c1 ?c2 ?c3 ?c4 ?c5 ?_))
            case c1 => exact cell_seven _ _ _ _
            case c2 => intro u hu; simp at hu; rcases hu with rfl | rfl | rfl | rfl | rfl | rfl | rfl <;> rfl
            case c3 => unfold maxLen; omega
            case c4 => omega
            case c5 => simp; omega
            intro v' w2 hown hgr _
            obtain ⟨V2, B2⟩ := uapp_step (f := g) V1 B1 hown hgr
            clear hown hgr V1 B1 V0 hb
            go_wp2
            go_roundw
            case rel => exact ⟨k + 1, k + 1, l ++ [g], by omega, by omega, by simp; omega, by go_num, by go_num, by have := HN.out; rw [show t.size + 1 - (k + 1) = n' by omega]; exact HR3, V2, B2⟩
            case measure => simp [intOf]; omega
      · have hge : t.size ≤ k := by omega
        clear hc hlt
        cases hfb' : fieldU (t.extract fr k) (p + fr) with
        | none =>
          have hfb : Hid (fieldU (t.extract fr k) (p + fr) = none) := hfb'
          have HR2 := HR.out
          rw [hfb'] at HR2
          simp only [] at HR2
          subst HR2
          clear hfb' HR
          go_wp2_with (go_at_call 39; refine (ufield_none (t.extract fr k) (p + fr) wr (by simp; omega) (by omega) (by omega) hfb.out).mono ?_; rintro e w1 ⟨x0, x1, x2, x3, x4, x5, x6, rfl, hb1⟩; have V1 := V0.below hb1; have B1 := hb.trans (hb1.mono hb.size); have hs1 : w.heap.size ≤ w1.heap.size := B1.size; clear hb1)
          go_ret2
          exact ⟨_, _, _, rfl, UV.nil _ _, B1.alloc hs1 _⟩
        | some g =>
          have hfb : Hid (fieldU (t.extract fr k) (p + fr) = some g) := hfb'
          by_cases h6 : l.length = 6
          · have HR2 := HR.out
            rw [hfb'] at HR2
            simp only [h6, if_true] at HR2
            subst HR2
            have h6' : 6 ≤ l.length := by omega
            clear hfb' HR h6
            go_wp2_with (go_at_call 39; refine (ufield_some (t.extract fr k) (p + fr) wr (by simp; omega) (by omega) (by omega) g hfb.out).mono ?_; rintro e w1 ⟨rfl, hb1⟩; have V1 := V0.below hb1; have B1 := hb.trans (hb1.mono hb.size); have hs1 : w.heap.size ≤ w1.heap.size := B1.size; clear hb1)
            go_ret2
            exact ⟨_, _, _, rfl, UV.nil _ _, B1.alloc hs1 _⟩
          · have HR2 := HR.out
            rw [hfb'] at HR2
            simp only [h6, if_false] at HR2
            have HR3 : Hid (R = _) := HR2
            have h6' : l.length < 6 := by omega
            clear hfb' HR h6 HR2
            go_wp2_with (first | (go_at_call 39; refine (ufield_some (t.extract fr k) (p + fr) wr (by simp; omega) (by omega) (by omega) g hfb.out).mono ?_; rintro e w1 ⟨rfl, hb1⟩; have V1 := V0.below hb1; have B1 := hb.trans (hb1.mono hb.size); have hs1 : w.heap.size ≤ w1.heap.size := B1.size; clear hb1) | (at_builtin; refine wpList_append_own _ rfl _ _ 51 rfl w.heap.size 59 i0 (.agg #[.int .u8 0, .int .u8 0, .int .i64 0, .int .i64 0, .bool false, .bool false, .string ⟨#[]⟩]) 7 48 Tryd.underlying51 hi hz0 hz1 hz2 rfl (by decide) _ l.length (flatU l) rfl ((V1.alloc _).alloc _) ⟨w1.heap.size + 1, 0, none⟩ 1 1 [.int .u8 g.n, .int .u8 g.k, .int .i64 g.p, .int .i64 g.sa, .bool g.sm, .bool g.bg, .string g.su] rfl rfl ?c1 ?c2 ?c3 ?c4 ?c5 ?_))
            case c1 => exact cell_seven _ _ _ _
            case c2 => intro u hu; simp at hu; rcases hu with rfl | rfl | rfl | rfl | rfl | rfl | rfl <;> rfl
            case c3 => unfold maxLen; omega
            case c4 => omega
            case c5 => simp; omega
            intro v' w2 hown hgr _
            obtain ⟨V2, B2⟩ := uapp_step (f := g) V1 B1 hown hgr
            clear hown hgr V1 B1 V0 hb
            go_wp2
            go_roundw
            case rel => exact ⟨k + 1, k + 1, l ++ [g], by omega, by omega, by simp; omega, by go_num, by go_num, by have := HN.out; rw [show t.size + 1 - (k + 1) = n' by omega]; exact HR3, V2, B2⟩
            case measure => simp [intOf]; omega

theorem ufields_any (t : ByteArray) (p : Int) (w : World) (hm : t.size ≤ 400) (hp : 0 ≤ p) (hp' : p ≤ 500) :
    Calls Tryd.prog 31 #[.string t, .int .i64 p, .bool true] w (UsPost (ufFields t p) w) := by
  by_cases h : t.size = 0
  · exact ufields_empty t p w h
  · exact ufields_row t p w (by omega) hm hp hp'
end Go.Proofs.YthckelcjncnalaaDoor
