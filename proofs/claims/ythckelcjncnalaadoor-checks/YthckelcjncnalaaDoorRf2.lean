import Derived.Test.YthckelcjncnalaaDoorRf1
import Derived.Lib.Strings
namespace Go.Proofs.YthckelcjncnalaaDoor
open Go.RowKit

theorem rfield_any (t : ByteArray) (p : Int) (w : World) (hm : t.size ≤ 4611686018427387904) :
    Calls Tryd.prog 39 #[.string t, .int .i64 p, .bool false] w (FPost t p w) := by
  by_cases hs : t.size < 3
  · exact rfield_short t p w hs
  cases h0 : (decide (97 ≤ nextB t 0) && decide (nextB t 0 ≤ 122)) with
  | false => exact rfield_letter t p w (by omega) h0
  | true =>
    cases h1 : (nextB t 1 == 58) with
    | false => exact rfield_colon t p w (by omega) h0 h1
    | true =>
      by_cases h3 : t.size = 3
      · by_cases k1 : nextB t 2 = 98
        · exact rfield_yes_b t p w h3 h0 h1 k1
        by_cases k2 : nextB t 2 = 104
        · exact rfield_yes_h t p w h3 h0 h1 k2
        by_cases k3 : nextB t 2 = 119
        · exact rfield_yes_w t p w h3 h0 h1 k3
        by_cases k4 : nextB t 2 = 108
        · exact rfield_yes_l t p w h3 h0 h1 k4
        by_cases k5 : nextB t 2 = 114
        · exact rfield_yes_r t p w h3 h0 h1 k5
        exact rfield_kind t p w (by omega) h0 h1 (by simpa using k1) (by simpa using k2) (by simpa using k3) (by simpa using k4) (by simpa using k5)
      · have h4 : 3 < t.size := by omega
        by_cases k1 : nextB t 2 = 98
        · exact rfield_more_b t p w h4 hm h0 h1 k1
        by_cases k2 : nextB t 2 = 104
        · exact rfield_more_h t p w h4 hm h0 h1 k2
        by_cases k3 : nextB t 2 = 119
        · exact rfield_more_w t p w h4 hm h0 h1 k3
        by_cases k4 : nextB t 2 = 108
        · exact rfield_more_l t p w h4 hm h0 h1 k4
        by_cases k5 : nextB t 2 = 114
        · exact rfield_more_r t p w h4 hm h0 h1 k5
        exact rfield_kind t p w (by omega) h0 h1 (by simpa using k1) (by simpa using k2) (by simpa using k3) (by simpa using k4) (by simpa using k5)

theorem rfield_true (t : ByteArray) (p : Int) (w : World) (hm : t.size ≤ 4611686018427387904) (hf : fieldB t = true) :
    Calls Tryd.prog 39 #[.string t, .int .i64 p, .bool false] w fun e w' => e = .returned (.tuple #[.agg #[.int .u8 (nextB t 0), .int .u8 (nextB t 2), .int .i64 p, .int .i64 0, .bool false, .bool false, .string ⟨#[]⟩], .bool true]) ∧ Below w.heap.size w w' := by
  refine (rfield_any t p w hm).mono ?_
  rintro e w' ⟨x0, x1, x2, rfl, hx, hb⟩
  obtain ⟨rfl, rfl, rfl⟩ := hx hf
  exact ⟨by rw [hf], hb⟩
theorem rfield_false (t : ByteArray) (p : Int) (w : World) (hm : t.size ≤ 4611686018427387904) (hf : fieldB t = false) :
    Calls Tryd.prog 39 #[.string t, .int .i64 p, .bool false] w fun e w' => ∃ x0 x1 x2, e = .returned (.tuple #[.agg #[.int .u8 x0, .int .u8 x1, .int .i64 x2, .int .i64 0, .bool false, .bool false, .string ⟨#[]⟩], .bool false]) ∧ Below w.heap.size w w' := by
  refine (rfield_any t p w hm).mono ?_
  rintro e w' ⟨x0, x1, x2, rfl, hx, hb⟩
  exact ⟨x0, x1, x2, by rw [hf], hb⟩

theorem Tryd.infoRField : (Tryd.prog.info? 59).map (fun i => (i.zero, i.size, i.bytes)) = some (some (.agg #[.int .u8 0, .int .u8 0, .int .i64 0, .int .i64 0, .bool false, .bool false, .string ⟨#[]⟩]), 7, 48) := by kernel_rfl

/-- A field as the reference has it: name, kind, place. -/
structure GF where
  n : Int
  k : Int
  p : Int
def GF.cells (f : GF) : List Value := [.int .u8 f.n, .int .u8 f.k, .int .i64 f.p, .int .i64 0, .bool false, .bool false, .string ⟨#[]⟩]
def flatR (l : List GF) : List Value := l.flatMap GF.cells
theorem flatR_app (a b : List GF) : flatR (a ++ b) = flatR a ++ flatR b := by simp [flatR]
def RV (w : World) (base : Nat) (v : Value) (l : List GF) : Prop := w.ownsRow base 59 7 v l.length (flatR l)

/-- The loop of fields: n rounds are to come, from the place i on. -/
def gfLoop (t : ByteArray) (p : Int) : Nat → Nat → Nat → List GF → Option (List GF)
  | 0, _, _, l => some l
  | n + 1, i, fr, l =>
    if i < t.size ∧ nextB t i ≠ 44 then gfLoop t p n (i + 1) fr l
    else if fieldB (t.extract fr i) = false ∨ l.length = 6 then none
    else gfLoop t p n (i + 1) (i + 1) (l ++ [⟨nextB (t.extract fr i) 0, nextB (t.extract fr i) 2, p + fr⟩])

def gfFields (t : ByteArray) (p : Int) : Option (List GF) := if t.size = 0 then some [] else gfLoop t p (t.size + 1) 0 0 []

def FsPost (R : Option (List GF)) (w : World) (e : Ending) (w' : World) : Prop := ∃ (a : Option Addr) (n c : Nat),
  e = .returned (.tuple #[.slice a n c, .bool R.isSome]) ∧ RV w' w.heap.size (.slice a n c) (R.getD []) ∧ Below w.heap.size w w'

theorem RV.shape {w : World} {base : Nat} {v : Value} {l : List GF} (h : RV w base v l) : ∃ a c, v = .slice a l.length c := by
  rcases h.2 with ⟨rfl, hn⟩ | ⟨g, cap, cur, rfl, _⟩
  · exact ⟨none, 0, by rw [hn]⟩
  · exact ⟨_, _, rfl⟩
theorem RV.nil (w : World) (base : Nat) : RV w base (.slice none 0 0) [] := World.ownsRow_nil _ _ _ _
theorem RV.below {w w' : World} {base : Nat} {v : Value} {l : List GF} (h : RV w base v l) (hb : Below w.heap.size w w') : RV w' base v l := World.ownsRow.kept h (gb_below hb none) (by cases hv : v.ownBlock <;> simp)
theorem RV.alloc {w : World} {base : Nat} {v : Value} {l : List GF} (h : RV w base v l) (o : Obj) : RV (w.alloc o) base v l := World.ownsRow.alloc h o

theorem cell_seven (w1 : World) (o : Obj) (l : List Value) (T : TypeId) : ∀ (j : Nat) (u : Value), l[j]? = some u → ((w1.alloc o).alloc (.cells l.toArray T)).cell? ((⟨w1.heap.size + 1, 0, none⟩ : Addr).add j) = some u := by
  intro j u hj
  have e : (⟨w1.heap.size + 1, 0, none⟩ : Addr).add j = ⟨w1.heap.size + 1, j, none⟩ := by unfold Addr.add; split <;> simp_all
  rw [e]
  simpa using hj

theorem empty_size (t : ByteArray) : t.toList.isEmpty = decide (t.size = 0) := by
  have e : t.size = t.data.toList.length := rfl
  rw [Lib.toList_data, e]
  cases t.data.toList <;> simp

set_option maxHeartbeats 400000 in
set_option maxRecDepth 20000 in
theorem rfields_empty (t : ByteArray) (p : Int) (w : World) (hs : t.size = 0) :
    Calls Tryd.prog 31 #[.string t, .int .i64 p, .bool false] w (FsPost (gfFields t p) w) := by
  have e : gfFields t p = some [] := by simp [gfFields, hs]
  rw [e]
  have he : t.toList.isEmpty = true := by rw [empty_size, hs]; rfl
  clear hs e
  go_enter Tryd.func31, Tryd.ntmps31
  go_wp2
  go_ret2
  exact ⟨_, _, _, rfl, RV.nil _ _, Below.refl _ _⟩

theorem rapp_step {w w1 w2 : World} {v v' : Value} {l : List GF} {f : GF} {o1 o2 : Obj} (V1 : RV w1 w.heap.size v l) (B1 : Below w.heap.size w w1)
    (hown : w2.ownsRow w.heap.size 59 7 v' (l.length + 1) (flatR l ++ f.cells)) (hg : ((w1.alloc o1).alloc o2).grownBy w2 v.ownBlock) :
    RV w2 w.heap.size v' (l ++ [f]) ∧ Below w.heap.size w w2 := by
  have V2 : RV w2 w.heap.size v' (l ++ [f]) := by simpa [RV, flatR_app, flatR] using hown
  refine ⟨V2, ((B1.alloc B1.size o1).alloc (by have := B1.size; simp; omega) o2).grown hg (by have := B1.size; simp; omega) (fun k hk => (World.ownsRow.lt V1 k hk).1)⟩

set_option maxHeartbeats 1000000 in
set_option maxRecDepth 20000 in
theorem rfields_row (t : ByteArray) (p : Int) (w : World) (hs : 0 < t.size) (hm : t.size ≤ 1000) (hp : 0 ≤ p) (hp' : p ≤ 1000) :
    Calls Tryd.prog 31 #[.string t, .int .i64 p, .bool false] w (FsPost (gfFields t p) w) := by
  obtain ⟨i0, hi, hz0, hz1, hz2⟩ := info_parts Tryd.infoRField
  have he : t.toList.isEmpty = false := by rw [empty_size]; exact decide_eq_false (by omega)
  obtain ⟨R, hR⟩ : ∃ R, R = gfLoop t p (t.size + 1) 0 0 [] := ⟨_, rfl⟩
  have e : gfFields t p = R := by simp only [gfFields]; rw [if_neg (by omega), hR]
  rw [e]
  have HR : Hid (R = gfLoop t p (t.size + 1) 0 0 []) := hR
  clear e hR
  go_enter Tryd.func31, Tryd.ntmps31
  go_wp2
  go_loopw [8, 9, 10] (fun v f i wr => ∃ (k fr : Nat) (l : List GF), k ≤ t.size + 1 ∧ fr ≤ k ∧ l.length ≤ 6 ∧ i = .int .i64 k ∧ f = .int .i64 fr ∧ Hid (R = gfLoop t p (t.size + 1 - k) k fr l) ∧ RV wr w.heap.size v l ∧ Below w.heap.size w wr) (fun _ _ i _ => t.size + 1 - (intOf i).toNat)
  case atStart => exact ⟨0, 0, [], by omega, by omega, by simp, rfl, rfl, HR, RV.nil _ _, Below.refl _ _⟩
  case round =>
    obtain ⟨k, fr, l, hk, hfr, hl, rfl, rfl, HR', V0, hb⟩ := hrel
    clear HR
    by_cases hend : k = t.size + 1
    · have h2 : t.size < k := by omega
      have HR2 := HR'.out
      have e : t.size + 1 - k = 0 := by omega
      rw [e, gfLoop] at HR2
      subst HR2
      obtain ⟨ad, cp, rfl⟩ := V0.shape
      clear hend e HR'
      go_wp2
      go_ret2
      exact ⟨_, _, _, rfl, V0, hb⟩
    have hk' : k ≤ t.size := by omega
    obtain ⟨n', hn'⟩ : ∃ n', t.size + 1 - k = n' + 1 := ⟨t.size - k, by omega⟩
    have HR2 := HR'.out
    rw [hn', gfLoop] at HR2
    clear HR' hend
    have HN : Hid (t.size + 1 - k = n' + 1) := hn'
    clear hn'
    by_cases hc : k < t.size ∧ nextB t k ≠ 44
    · rw [if_pos hc] at HR2
      have HR : Hid (R = gfLoop t p n' (k + 1) fr l) := HR2
      clear HR2
      obtain ⟨hc1, hc2⟩ := hc
      rw [nextB_in hc1] at hc2
      have hc3 : (((t[k]'hc1).toNat : Int) != 44) = true := by simpa using hc2
      clear hc2
      go_wp2
      go_roundw
      case rel => exact ⟨k + 1, fr, l, by omega, by omega, hl, by go_num, rfl, by have := HN.out; rw [show t.size + 1 - (k + 1) = n' by omega]; exact HR, V0, hb⟩
      case measure => simp [intOf]; omega
    · rw [if_neg hc] at HR2
      have HR : Hid (R = _) := HR2
      clear HR2
      obtain ⟨ad, cp, rfl⟩ := V0.shape
      by_cases hlt : k < t.size
      · have hc1 : (((t[k]'hlt).toNat : Int) != 44) = false := by
          have : nextB t k = 44 := by
            by_cases h : nextB t k = 44
            · exact h
            · exact absurd ⟨hlt, h⟩ hc
          rw [nextB_in hlt] at this; simp [this]
        clear hc
        cases hfb' : fieldB (t.extract fr k) with
        | false =>
          have hfb : Hid (fieldB (t.extract fr k) = false) := hfb'
          have HR2 := HR.out
          rw [if_pos (.inl hfb')] at HR2
          subst HR2
          clear hfb' HR
          go_wp2_with (go_at_call 39; refine (rfield_false (t.extract fr k) (p + fr) wr (by simp; omega) hfb.out).mono ?_; rintro e w1 ⟨x0, x1, x2, rfl, hb1⟩; have V1 := V0.below hb1; have B1 := hb.trans (hb1.mono hb.size); have hs1 : w.heap.size ≤ w1.heap.size := B1.size; clear hb1)
          go_ret2
          exact ⟨_, _, _, rfl, RV.nil _ _, B1.alloc hs1 _⟩
        | true =>
          have hfb : Hid (fieldB (t.extract fr k) = true) := hfb'
          by_cases h6 : l.length = 6
          · have HR2 := HR.out
            rw [if_pos (.inr h6)] at HR2
            subst HR2
            have h6' : 6 ≤ l.length := by omega
            clear hfb' HR h6
            go_wp2_with (go_at_call 39; refine (rfield_true (t.extract fr k) (p + fr) wr (by simp; omega) hfb.out).mono ?_; rintro e w1 ⟨rfl, hb1⟩; have V1 := V0.below hb1; have B1 := hb.trans (hb1.mono hb.size); have hs1 : w.heap.size ≤ w1.heap.size := B1.size; clear hb1)
            go_ret2
            exact ⟨_, _, _, rfl, RV.nil _ _, B1.alloc hs1 _⟩
          · have HR2 := HR.out
            rw [if_neg (by rw [hfb']; simp [h6])] at HR2
            have HR3 : Hid (R = _) := HR2
            have h6' : l.length < 6 := by omega
            clear hfb' HR h6 HR2
            go_wp2_with (first | (go_at_call 39; refine (rfield_true (t.extract fr k) (p + fr) wr (by simp; omega) hfb.out).mono ?_; rintro e w1 ⟨rfl, hb1⟩; have V1 := V0.below hb1; have B1 := hb.trans (hb1.mono hb.size); have hs1 : w.heap.size ≤ w1.heap.size := B1.size; clear hb1) | (at_builtin; refine wpList_append_own _ rfl _ _ 51 rfl w.heap.size 59 i0 (.agg #[.int .u8 0, .int .u8 0, .int .i64 0, .int .i64 0, .bool false, .bool false, .string ⟨#[]⟩]) 7 48 Tryd.underlying51 hi hz0 hz1 hz2 rfl (by decide) _ l.length (flatR l) rfl ((V1.alloc _).alloc _) ⟨w1.heap.size + 1, 0, none⟩ 1 1 [.int .u8 (nextB (t.extract fr k) 0), .int .u8 (nextB (t.extract fr k) 2), .int .i64 (p + fr), .int .i64 0, .bool false, .bool false, .string ⟨#[]⟩] rfl rfl ?c1 ?c2 ?c3 ?c4 ?c5 ?_))
            case c1 => exact cell_seven _ _ _ _
            case c2 => intro u hu; simp at hu; rcases hu with rfl | rfl | rfl | rfl | rfl | rfl <;> rfl
            case c3 => unfold maxLen; omega
            case c4 => omega
            case c5 => simp; omega
            intro v' w2 hown hgr _
            obtain ⟨V2, B2⟩ := rapp_step (f := ⟨nextB (t.extract fr k) 0, nextB (t.extract fr k) 2, p + fr⟩) V1 B1 hown hgr
            clear hown hgr V1 B1 V0 hb
            go_wp2
            go_roundw
            case rel => exact ⟨k + 1, k + 1, l ++ [⟨nextB (t.extract fr k) 0, nextB (t.extract fr k) 2, p + fr⟩], by omega, by omega, by simp; omega, by go_num, by go_num, by have := HN.out; rw [show t.size + 1 - (k + 1) = n' by omega]; exact HR3, V2, B2⟩
            case measure => simp [intOf]; omega
      · have hge : t.size ≤ k := by omega
        clear hc hlt
        cases hfb' : fieldB (t.extract fr k) with
        | false =>
          have hfb : Hid (fieldB (t.extract fr k) = false) := hfb'
          have HR2 := HR.out
          rw [if_pos (.inl hfb')] at HR2
          subst HR2
          clear hfb' HR
          go_wp2_with (go_at_call 39; refine (rfield_false (t.extract fr k) (p + fr) wr (by simp; omega) hfb.out).mono ?_; rintro e w1 ⟨x0, x1, x2, rfl, hb1⟩; have V1 := V0.below hb1; have B1 := hb.trans (hb1.mono hb.size); have hs1 : w.heap.size ≤ w1.heap.size := B1.size; clear hb1)
          go_ret2
          exact ⟨_, _, _, rfl, RV.nil _ _, B1.alloc hs1 _⟩
        | true =>
          have hfb : Hid (fieldB (t.extract fr k) = true) := hfb'
          by_cases h6 : l.length = 6
          · have HR2 := HR.out
            rw [if_pos (.inr h6)] at HR2
            subst HR2
            have h6' : 6 ≤ l.length := by omega
            clear hfb' HR h6
            go_wp2_with (go_at_call 39; refine (rfield_true (t.extract fr k) (p + fr) wr (by simp; omega) hfb.out).mono ?_; rintro e w1 ⟨rfl, hb1⟩; have V1 := V0.below hb1; have B1 := hb.trans (hb1.mono hb.size); have hs1 : w.heap.size ≤ w1.heap.size := B1.size; clear hb1)
            go_ret2
            exact ⟨_, _, _, rfl, RV.nil _ _, B1.alloc hs1 _⟩
          · have HR2 := HR.out
            rw [if_neg (by rw [hfb']; simp [h6])] at HR2
            have HR3 : Hid (R = _) := HR2
            have h6' : l.length < 6 := by omega
            clear hfb' HR h6 HR2
            go_wp2_with (first | (go_at_call 39; refine (rfield_true (t.extract fr k) (p + fr) wr (by simp; omega) hfb.out).mono ?_; rintro e w1 ⟨rfl, hb1⟩; have V1 := V0.below hb1; have B1 := hb.trans (hb1.mono hb.size); have hs1 : w.heap.size ≤ w1.heap.size := B1.size; clear hb1) | (at_builtin; refine wpList_append_own _ rfl _ _ 51 rfl w.heap.size 59 i0 (.agg #[.int .u8 0, .int .u8 0, .int .i64 0, .int .i64 0, .bool false, .bool false, .string ⟨#[]⟩]) 7 48 Tryd.underlying51 hi hz0 hz1 hz2 rfl (by decide) _ l.length (flatR l) rfl ((V1.alloc _).alloc _) ⟨w1.heap.size + 1, 0, none⟩ 1 1 [.int .u8 (nextB (t.extract fr k) 0), .int .u8 (nextB (t.extract fr k) 2), .int .i64 (p + fr), .int .i64 0, .bool false, .bool false, .string ⟨#[]⟩] rfl rfl ?c1 ?c2 ?c3 ?c4 ?c5 ?_))
            case c1 => exact cell_seven _ _ _ _
            case c2 => intro u hu; simp at hu; rcases hu with rfl | rfl | rfl | rfl | rfl | rfl <;> rfl
            case c3 => unfold maxLen; omega
            case c4 => omega
            case c5 => simp; omega
            intro v' w2 hown hgr _
            obtain ⟨V2, B2⟩ := rapp_step (f := ⟨nextB (t.extract fr k) 0, nextB (t.extract fr k) 2, p + fr⟩) V1 B1 hown hgr
            clear hown hgr V1 B1 V0 hb
            go_wp2
            go_roundw
            case rel => exact ⟨k + 1, k + 1, l ++ [⟨nextB (t.extract fr k) 0, nextB (t.extract fr k) 2, p + fr⟩], by omega, by omega, by simp; omega, by go_num, by go_num, by have := HN.out; rw [show t.size + 1 - (k + 1) = n' by omega]; exact HR3, V2, B2⟩
            case measure => simp [intOf]; omega

theorem rfields_any (t : ByteArray) (p : Int) (w : World) (hm : t.size ≤ 1000) (hp : 0 ≤ p) (hp' : p ≤ 1000) :
    Calls Tryd.prog 31 #[.string t, .int .i64 p, .bool false] w (FsPost (gfFields t p) w) := by
  by_cases h : t.size = 0
  · exact rfields_empty t p w h
  · exact rfields_row t p w (by omega) hm hp hp'
end Go.Proofs.YthckelcjncnalaaDoor
