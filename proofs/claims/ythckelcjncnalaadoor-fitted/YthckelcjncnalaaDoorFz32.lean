import Derived.Test.YthckelcjncnalaaDoorFz31
import Derived.Test.YthckelcjncnalaaDoorFz25
import Derived.Test.YthckelcjncnalaaDoorFz26
namespace Go.Proofs.YthckelcjncnalaaDoor
open Go.RowKit

/-- A class of an update as the reference reads it: name, source, the source's place, fields. -/
structure UR where
  n : Int
  s : Int
  sa : Int
  l : List GU
def ugClass (t : ByteArray) (p : Int) : Option UR :=
  if 65 ≤ nextB t 0 ∧ nextB t 0 ≤ 90 then
    if nextB t 1 = 123 then (ufFields (t.extract 2 t.size) (p + 1 + 1)).map (fun l => ⟨nextB t 0, 0, 0, l⟩)
    else if nextB t 1 = 60 ∧ (65 ≤ nextB t 2 ∧ nextB t 2 ≤ 90) ∧ nextB t 3 = 123 then (ufFields (t.extract 4 t.size) (p + 3 + 1)).map (fun l => ⟨nextB t 0, nextB t 2, p + 2, l⟩)
    else none
  else none
def UcPost (R : Option UR) (p : Int) (w : World) (e : Ending) (w' : World) : Prop := ∃ (x0 x1 x3 : Int) (a : Option Addr) (n c : Nat),
  e = .returned (.tuple #[.agg #[.int .u8 x0, .int .u8 x1, .int .i64 p, .int .i64 x3, .slice a n c], .bool R.isSome]) ∧
    (∀ r, R = some r → x0 = r.n ∧ x1 = r.s ∧ x3 = r.sa ∧ UV w' w.heap.size (.slice a n c) r.l) ∧ Below w.heap.size w w'
theorem ugClass_low {t : ByteArray} {p b : Int} (hb : Brace t 0 b) (h : b < 1) : ugClass t p = none := by
  unfold ugClass
  by_cases h0 : 65 ≤ nextB t 0 ∧ nextB t 0 ≤ 90
  · rw [if_pos h0]
    rcases hb with ⟨rfl, hn⟩ | ⟨j, rfl, _, _, h4, _⟩
    · rw [if_neg (hn 1 (by omega)), if_neg (fun h => hn 3 (by omega) h.2.2)]
    · have : j = 0 := by omega
      subst this; omega
  · rw [if_neg h0]
theorem ugClass_letter {t : ByteArray} {p : Int} (h : ¬ (65 ≤ nextB t 0 ∧ nextB t 0 ≤ 90)) : ugClass t p = none := by
  unfold ugClass; rw [if_neg h]
theorem brace_not {t : ByteArray} {j i : Nat} (hb : Brace t 0 j) (h : i < j) : nextB t i ≠ 123 := by
  rcases hb with ⟨h1, _⟩ | ⟨j', e, _, _, _, h5⟩
  · omega
  · exact h5 i (by omega) (by omega)
theorem brace_at {t : ByteArray} {j : Nat} (hb : Brace t 0 j) : nextB t j = 123 := by
  rcases hb with ⟨h1, _⟩ | ⟨j', e, _, _, h4, _⟩
  · omega
  · have : j' = j := by omega
    rw [← this]; exact h4
/-- A head of another length than 2, or with something wrong. -/
theorem ugClass_head {t : ByteArray} {p : Int} {j : Nat} (hb : Brace t 0 j) (h : 2 ≤ j) (hn : ¬ (j = 3 ∧ nextB t 1 = 60 ∧ 65 ≤ nextB t 2 ∧ nextB t 2 ≤ 90)) : ugClass t p = none := by
  unfold ugClass
  by_cases h0 : 65 ≤ nextB t 0 ∧ nextB t 0 ≤ 90
  · rw [if_pos h0, if_neg (brace_not hb (by omega)), if_neg]
    rintro ⟨h1, h2, h3⟩
    apply hn
    refine ⟨?_, h1, h2.1, h2.2⟩
    rcases Nat.lt_trichotomy j 3 with h | h | h
    · have : j = 2 := by omega
      subst this
      have := brace_at hb; omega
    · exact h
    · exact absurd h3 (brace_not hb h)
  · rw [if_neg h0]
theorem ext_at {t : ByteArray} {a b i : Nat} (hb : b ≤ t.size) (h : i < (t.extract a b).size) : (((t.extract a b)[i]'h).toNat : Int) = nextB t (a + i) := by
  have hsz : (t.extract a b).size = min b t.size - a := ByteArray.size_extract
  rw [nextB_in (show a + i < t.size by omega), ByteArray.getElem_extract]

set_option maxHeartbeats 4000000 in
set_option maxRecDepth 20000 in
theorem uclass_any (t : ByteArray) (p : Int) (w : World) (hm : t.size ≤ 400) (hp : 0 ≤ p) (hp' : p ≤ 400) :
    Calls Tryd.prog 18 #[.string t, .int .i64 p, .bool true] w (UcPost (ugClass t p) p w) := by
  go_enter Tryd.func18, Tryd.ntmps18
  go_wp2
  go_loop [9, 10] (fun b i => ∃ (k : Nat) (bb : Int), k ≤ t.size ∧ i = .int .i64 ((k : Int) - 1) ∧ b = .int .i64 bb ∧ Brace t k bb) (fun _ i => (intOf i + 1).toNat)
  case atStart => exact ⟨t.size, -1, Nat.le_refl _, rfl, rfl, Brace.start t⟩
  case round =>
    obtain ⟨k, bb, hk, rfl, rfl, hB⟩ := hrel
    rcases k with _ | k
    · clear hk
      by_cases hb1 : bb < 1
      · have HR : Hid (ugClass t p = none) := ugClass_low hB hb1
        clear hB
        go_wp2
        refine bodyPost_ret (v := .tuple #[.agg #[.int .u8 0, .int .u8 0, .int .i64 p, .int .i64 0, .slice none 0 0], .bool false]) (by simp [results, Tryd.results18, go_sem]) rfl ⟨_, _, _, _, _, _, by rw [HR.out]; rfl, ?_, ?_⟩
        · intro r hr; rw [HR.out] at hr; cases hr
        · exact ((Below.refl _ _).alloc (Nat.le_refl _) _).alloc (by simp) _
      obtain ⟨j, rfl, hj⟩ : ∃ j : Nat, bb = j ∧ j < t.size := by
        rcases hB with ⟨rfl, _⟩ | ⟨j, rfl, _, h, _⟩
        · omega
        · exact ⟨j, rfl, h⟩
      have g0 : 0 < t.size := by omega
      have hj1 : 1 ≤ j := by omega
      cases am' : (decide (65 ≤ nextB t 0) && decide (nextB t 0 ≤ 90)) with
      | false =>
        have HR : Hid (ugClass t p = none) := ugClass_letter (by simp at am'; omega)
        have am := am'
        rw [nextB_in g0] at am
        clear hB am'
        go_wp2_with (go_at_call 30; refine (among_any _ _ _ _ false am).mono ?_; rintro e w' ⟨rfl, rfl⟩)
        refine bodyPost_ret (v := .tuple #[.agg #[.int .u8 0, .int .u8 0, .int .i64 p, .int .i64 0, .slice none 0 0], .bool false]) (by simp [results, Tryd.results18, go_sem]) rfl ⟨_, _, _, _, _, _, by rw [HR.out]; rfl, ?_, ?_⟩
        · intro r hr; rw [HR.out] at hr; cases hr
        · exact ((Below.refl _ _).alloc (Nat.le_refl _) _).alloc (by simp) _
      | true =>
        have am := am'
        rw [nextB_in g0] at am
        by_cases hj2 : 2 ≤ j
        · have hne : (t.extract 1 j).toList.isEmpty = false := by rw [empty_size]; exact decide_eq_false (by simp; omega)
          by_cases hj3 : j = 3
          · subst hj3
            have hsz : (t.extract 1 3).size = 2 := by rw [ByteArray.size_extract]; omega
            have hz0 : 0 < (t.extract 1 3).size := by omega
            have hz1 : 1 < (t.extract 1 3).size := by omega
            have q0 := ext_at (t := t) (a := 1) (b := 3) (i := 0) (by omega) hz0
            have q1 := ext_at (t := t) (a := 1) (b := 3) (i := 1) (by omega) hz1
            by_cases h60 : nextB t 1 = 60
            · have q0' : ((((t.extract 1 3)[0]'hz0).toNat : Int) != 60) = false := by rw [q0, h60]; rfl
              cases am2' : (decide (65 ≤ nextB t 2) && decide (nextB t 2 ≤ 90)) with
              | false =>
                have HR : Hid (ugClass t p = none) := ugClass_head hB (by omega) (by simp at am2'; omega)
                have am2 : (decide (65 ≤ (((t.extract 1 3)[1]'hz1).toNat : Int)) && decide ((((t.extract 1 3)[1]'hz1).toNat : Int) ≤ 90)) = false := by rw [q1]; exact am2'
                clear hB am' am2' q0 q1 h60
                go_wp2_with fail
                refine (among_any _ _ _ _ true am).mono ?_
                rintro e w' ⟨rfl, rfl⟩
                go_wp2_with fail
                refine (among_any _ _ _ _ false am2).mono ?_
                rintro e w' ⟨rfl, rfl⟩
                go_wp2
                refine bodyPost_ret (v := .tuple #[.agg #[.int .u8 (t[0]'g0).toNat, .int .u8 0, .int .i64 p, .int .i64 0, .slice none 0 0], .bool false]) (by simp [results, Tryd.results18, go_sem]) rfl ⟨_, _, _, _, _, _, by rw [HR.out]; rfl, ?_, ?_⟩
                · intro r hr; rw [HR.out] at hr; cases hr
                · exact ((Below.refl _ _).alloc (Nat.le_refl _) _).alloc (by simp) _
              | true =>
                have am2 : (decide (65 ≤ (((t.extract 1 3)[1]'hz1).toNat : Int)) && decide ((((t.extract 1 3)[1]'hz1).toNat : Int) ≤ 90)) = true := by rw [q1]; exact am2'
                have h123 := brace_at hB
                have HR : Hid (ugClass t p = (ufFields (t.extract 4 t.size) (p + 3 + 1)).map (fun l => ⟨nextB t 0, nextB t 2, p + 2, l⟩)) := by
                  show ugClass t p = _
                  unfold ugClass
                  rw [if_pos (by simpa using am'), if_neg (brace_not hB (by omega)), if_pos ⟨h60, by simpa using am2', h123⟩]
                have e0 : Hid (nextB t 0 = ((t[0]'g0).toNat : Int)) := nextB_in g0
                have e2 : Hid ((((t.extract 1 3)[1]'hz1).toNat : Int) = nextB t 2) := q1
                clear hB am' am2' q0 q1 h60 h123 hb1 hj2
                go_wp2_with fail
                refine (among_any _ _ _ _ true am).mono ?_
                rintro e w' ⟨rfl, rfl⟩
                go_wp2_with fail
                refine (among_any _ _ _ _ true am2).mono ?_
                rintro e w' ⟨rfl, rfl⟩
                go_wp2_with fail
                refine (ufields_any (t.extract 4 t.size) (p + 3 + 1) _ (by simp; omega) (by omega) (by omega)).mono ?_
                rintro e w1 ⟨a, n, c, rfl, V1, hb1⟩
                obtain ⟨lc1, lf1⟩ := bcell hb1
                have hzz : w.heap.size + 1 < w1.heap.size := by have := hb1.size; simp at this; omega
                have B1 : Below w.heap.size w w1 := (((Below.refl _ _).alloc (Nat.le_refl _) _).alloc (by simp) _).trans (hb1.mono (by simp; omega))
                go_wp2
                have d0 : w1.cell? ⟨w.heap.size, 0, none⟩ = some (.int .u8 0) := by go_simp
                have d1 : w1.cell? ⟨w.heap.size, 1, none⟩ = some (.int .u8 0) := by go_simp
                have d2 : w1.cell? ⟨w.heap.size, 2, none⟩ = some (.int .i64 0) := by go_simp
                have d3 : w1.cell? ⟨w.heap.size, 3, none⟩ = some (.int .i64 0) := by go_simp
                have d4 : w1.cell? ⟨w.heap.size, 4, none⟩ = some (.slice none 0 0) := by go_simp
                refine bodyPost_ret (v := .tuple #[.agg #[.int .u8 (t[0]'g0).toNat, .int .u8 ((t.extract 1 3)[1]'hz1).toNat, .int .i64 p, .int .i64 (p + 2), .slice a n c], .bool (ufFields (t.extract 4 t.size) (p + 3 + 1)).isSome]) (by simp [results, Tryd.results18, go_sem, d0, d1, d2, d3, d4]) rfl ⟨(t[0]'g0).toNat, ((t.extract 1 3)[1]'hz1).toNat, p + 2, a, n, c, by rw [HR.out]; simp, ?_, ?_⟩
                · intro r hr
                  rw [HR.out] at hr
                  obtain ⟨l, hl, rfl⟩ := Option.map_eq_some_iff.1 hr
                  refine ⟨e0.out.symm, e2.out, rfl, ?_⟩
                  rw [hl] at V1
                  have V2 : UV w1 (w.heap.size + 2) (.slice a n c) l := by simpa using V1
                  exact row_mono (row_kept (row_kept (row_kept (row_kept (row_kept (row_kept V2 (gb_set _ _ _ _) (by omega)) (gb_set _ _ _ _) (by omega)) (gb_set _ _ _ _) (by omega)) (gb_set _ _ _ _) (by omega)) (gb_set _ _ _ _) (by omega)) (gb_set _ _ _ _) (by omega)) (by omega)
                · exact (((((B1.setCell (by show _ ≤ w.heap.size + 1; omega) _).setCell (Nat.le_refl _) _).setCell (Nat.le_refl _) _).setCell (Nat.le_refl _) _).setCell (Nat.le_refl _) _).setCell (Nat.le_refl _) _
            · have q0' : ((((t.extract 1 3)[0]'hz0).toNat : Int) != 60) = true := by rw [q0]; simpa using h60
              have HR : Hid (ugClass t p = none) := ugClass_head hB (by omega) (by omega)
              clear hB am' q0 q1 h60
              go_wp2_with fail
              refine (among_any _ _ _ _ true am).mono ?_
              rintro e w' ⟨rfl, rfl⟩
              go_wp2
              refine bodyPost_ret (v := .tuple #[.agg #[.int .u8 (t[0]'g0).toNat, .int .u8 0, .int .i64 p, .int .i64 0, .slice none 0 0], .bool false]) (by simp [results, Tryd.results18, go_sem]) rfl ⟨_, _, _, _, _, _, by rw [HR.out]; rfl, ?_, ?_⟩
              · intro r hr; rw [HR.out] at hr; cases hr
              · exact ((Below.refl _ _).alloc (Nat.le_refl _) _).alloc (by simp) _
          · have HR : Hid (ugClass t p = none) := ugClass_head hB (by omega) (by omega)
            have hsz : (((t.extract 1 j).size : Int) != 2) = true := by rw [ByteArray.size_extract]; simp; omega
            clear hB am'
            go_wp2_with fail
            refine (among_any _ _ _ _ true am).mono ?_
            rintro e w' ⟨rfl, rfl⟩
            go_wp2
            refine bodyPost_ret (v := .tuple #[.agg #[.int .u8 (t[0]'g0).toNat, .int .u8 0, .int .i64 p, .int .i64 0, .slice none 0 0], .bool false]) (by simp [results, Tryd.results18, go_sem]) rfl ⟨_, _, _, _, _, _, by rw [HR.out]; rfl, ?_, ?_⟩
            · intro r hr; rw [HR.out] at hr; cases hr
            · exact ((Below.refl _ _).alloc (Nat.le_refl _) _).alloc (by simp) _
        · have hj3 : j = 1 := by omega
          subst hj3
          have h123 : nextB t 1 = 123 := by
            rcases hB with ⟨h, _⟩ | ⟨j, h, _, _, h4, _⟩
            · omega
            · have : j = 1 := by omega
              subst this; exact h4
          have HR : Hid (ugClass t p = (ufFields (t.extract 2 t.size) (p + 1 + 1)).map (fun l => ⟨nextB t 0, 0, 0, l⟩)) := by
            show ugClass t p = _
            unfold ugClass
            rw [if_pos (by simpa using am'), if_pos h123]
          have e0 : Hid (nextB t 0 = ((t[0]'g0).toNat : Int)) := nextB_in g0
          have hne : (t.extract 1 1).toList.isEmpty = true := by rw [empty_size]; simp
          clear hB am' h123 hb1 hj2
          go_wp2_with (first | (go_at_call 30; refine (among_any _ _ _ _ true am).mono ?_; rintro e w' ⟨rfl, rfl⟩) | (go_at_call 31; refine (ufields_any (t.extract 2 t.size) (p + 1 + 1) _ (by simp; omega) (by omega) (by omega)).mono ?_; rintro e w1 ⟨a, n, c, rfl, V1, hb1⟩; obtain ⟨lc1, lf1⟩ := bcell hb1; have hz1 : w.heap.size + 1 < w1.heap.size := by have := hb1.size; simp at this; omega))
          have d0 : w1.cell? ⟨w.heap.size, 0, none⟩ = some (.int .u8 0) := by go_simp
          have d1 : w1.cell? ⟨w.heap.size, 1, none⟩ = some (.int .u8 0) := by go_simp
          have d2 : w1.cell? ⟨w.heap.size, 2, none⟩ = some (.int .i64 0) := by go_simp
          have d3 : w1.cell? ⟨w.heap.size, 3, none⟩ = some (.int .i64 0) := by go_simp
          have d4 : w1.cell? ⟨w.heap.size, 4, none⟩ = some (.slice none 0 0) := by go_simp
          have B1 : Below w.heap.size w w1 := (((Below.refl _ _).alloc (Nat.le_refl _) _).alloc (by simp) _).trans (hb1.mono (by simp; omega))
          refine bodyPost_ret (v := .tuple #[.agg #[.int .u8 (t[0]'g0).toNat, .int .u8 0, .int .i64 p, .int .i64 0, .slice a n c], .bool (ufFields (t.extract 2 t.size) (p + 1 + 1)).isSome]) (by simp [results, Tryd.results18, go_sem, d0, d1, d2, d3, d4]) rfl ⟨(t[0]'g0).toNat, 0, 0, a, n, c, by rw [HR.out]; simp, ?_, ?_⟩
          · intro r hr
            rw [HR.out] at hr
            obtain ⟨l, hl, rfl⟩ := Option.map_eq_some_iff.1 hr
            refine ⟨e0.out.symm, rfl, rfl, ?_⟩
            rw [hl] at V1
            have V2 : UV w1 (w.heap.size + 2) (.slice a n c) l := by simpa using V1
            exact row_mono (row_kept (row_kept (row_kept (row_kept (row_kept (row_kept V2 (gb_set _ _ _ _) (by omega)) (gb_set _ _ _ _) (by omega)) (gb_set _ _ _ _) (by omega)) (gb_set _ _ _ _) (by omega)) (gb_set _ _ _ _) (by omega)) (gb_set _ _ _ _) (by omega)) (by omega)
          · exact (((((B1.setCell (by show _ ≤ w.heap.size + 1; omega) _).setCell (Nat.le_refl _) _).setCell (Nat.le_refl _) _).setCell (Nat.le_refl _) _).setCell (Nat.le_refl _) _).setCell (Nat.le_refl _) _
    · have hlt : k < t.size := by omega
      by_cases h : nextB t k = 123
      · have hB' := Brace.hit hlt h
        rw [nextB_in hlt] at h
        go_wp2
        go_round
        case rel => exact ⟨k, k, by omega, rfl, by go_num, hB'⟩
        case measure => simp [intOf]
      · have hB' := hB.miss h
        rw [nextB_in hlt] at h
        have h' : (((t[k]'hlt).toNat : Int) == 123) = false := by simpa using h
        go_wp2
        go_round
        case rel => exact ⟨k, bb, by omega, by go_num, rfl, hB'⟩
        case measure => simp [intOf]
end Go.Proofs.YthckelcjncnalaaDoor
namespace Go.Proofs.YthckelcjncnalaaDoor
open Go.RowKit

/-- A class as the reference has it: name, place, fields. -/
structure HC where
  n : Int
  s : Int
  p : Nat
  sa : Int
  l : List GU
structure HV where
  n : Int
  s : Int
  p : Nat
  sa : Int
  v : SV
def HV.cells (f : HV) : List Value := [.int .u8 f.n, .int .u8 f.s, .int .i64 f.p, .int .i64 f.sa, .slice f.v.a f.v.n f.v.c]
def flatH (l : List HV) : List Value := l.flatMap HV.cells
theorem flatH_app (a b : List HV) : flatH (a ++ b) = flatH a ++ flatH b := by simp [flatH]

structure UCls (w : World) (base : Nat) (v : Value) (vs : List HV) (cs : List HC) : Prop where
  row : w.ownsRow base 53 5 v vs.length (flatH vs)
  len : vs.length = cs.length
  fld : ∀ (i : Nat) (p : HV) (c : HC), vs[i]? = some p → cs[i]? = some c → (p.n = c.n ∧ p.s = c.s ∧ p.sa = c.sa) ∧ p.p = c.p ∧ UV w base p.v.val c.l

theorem UCls.nil (w : World) (base : Nat) : UCls w base (.slice none 0 0) [] [] := ⟨World.ownsRow_nil _ _ _ _, rfl, fun i p c h1 _ => by simp at h1⟩
theorem UCls.below {w w' : World} {base : Nat} {v : Value} {vs : List HV} {cs : List HC} (h : UCls w base v vs cs) (hb : Below w.heap.size w w') : UCls w' base v vs cs :=
  ⟨World.ownsRow.kept h.row (gb_below hb none) (by cases hv : v.ownBlock <;> simp), h.len, fun i p c h1 h2 => ⟨(h.fld i p c h1 h2).1, (h.fld i p c h1 h2).2.1, (h.fld i p c h1 h2).2.2.below hb⟩⟩
theorem UCls.shape {w : World} {base : Nat} {v : Value} {vs : List HV} {cs : List HC} (h : UCls w base v vs cs) : ∃ a c, v = .slice a cs.length c := by
  rw [← h.len]
  rcases h.row.2 with ⟨rfl, hn⟩ | ⟨g, cap, cur, rfl, _⟩
  · exact ⟨none, 0, by rw [hn]⟩
  · exact ⟨_, _, rfl⟩

theorem happ_step {w wr w1 w2 : World} {v v' : Value} {vs : List HV} {cs : List HC} {x xs xa : Int} {fr : Nat} {sv : SV} {l : List GU} {o1 o2 : Obj} (V1 : UCls w1 w.heap.size v vs cs) (B1 : Below w.heap.size w w1) (hwr : w.heap.size ≤ wr.heap.size) (F1 : UV w1 wr.heap.size sv.val l)
    (hown : w2.ownsRow w.heap.size 53 5 v' (vs.length + 1) (flatH vs ++ [.int .u8 x, .int .u8 xs, .int .i64 fr, .int .i64 xa, .slice sv.a sv.n sv.c])) (hg : ((w1.alloc o1).alloc o2).grownBy w2 v.ownBlock) :
    UCls w2 w.heap.size v' (vs ++ [⟨x, xs, fr, xa, sv⟩]) (cs ++ [⟨x, xs, fr, xa, l⟩]) ∧ Below w.heap.size w w2 := by
  have hg1 : w1.grownBy w2 v.ownBlock := gb_trans (gb_trans (World.grownBy_alloc w1 o1 _) (World.grownBy_alloc _ o2 _)) hg
  have hfk : ∀ (x : SV) f, UV w1 w.heap.size x.val f → UV w2 w.heap.size x.val f := fun x f h => World.ownsRow.kept h hg1 (row_apart h V1.row (by decide))
  refine ⟨⟨?_, by simp [V1.len], ?_⟩, ((B1.alloc B1.size o1).alloc (by have := B1.size; simp; omega) o2).grown hg (by have := B1.size; simp; omega) (fun k hk => (World.ownsRow.lt V1.row k hk).1)⟩
  · simpa [flatH_app, flatH, HV.cells] using hown
  · intro i p c h1 h2
    have hl := V1.len
    rcases Nat.lt_or_ge i vs.length with hi | hi
    · rw [List.getElem?_append_left hi] at h1
      rw [List.getElem?_append_left (by omega)] at h2
      have := V1.fld i p c h1 h2
      exact ⟨this.1, this.2.1, hfk _ _ this.2.2⟩
    · rw [List.getElem?_append_right hi] at h1
      rw [List.getElem?_append_right (by omega)] at h2
      have hi0 : i - vs.length = 0 := by
        have := (List.getElem?_eq_some_iff.1 h1).1; simp at this; omega
      have hj0 : i - cs.length = 0 := by omega
      rw [hi0] at h1; rw [hj0] at h2
      simp at h1 h2
      subst h1; subst h2
      exact ⟨⟨rfl, rfl, rfl⟩, rfl, hfk _ _ (row_mono F1 hwr)⟩

/-- The loop of All: n rounds are to come. -/
def haLoop (s : ByteArray) : Nat → Nat → Nat → List HC → Option (List HC × Nat)
  | 0, _, fr, l => some (l, fr)
  | n + 1, i, fr, l =>
    if nextB s i = 125 then
      match ugClass (s.extract fr i) fr with
      | none => none
      | some r => if l.length = 6 then none else haLoop s n (i + 1) (i + 1) (l ++ [⟨r.n, r.s, fr, r.sa, r.l⟩])
    else haLoop s n (i + 1) fr l

def haAll (s : ByteArray) : Option (List HC) :=
  match haLoop s s.size 0 0 [] with
  | none => none
  | some r => if 0 < r.1.length ∧ r.2 = s.size then some r.1 else none

def UAllPost (R : Option (List HC)) (w : World) (e : Ending) (w' : World) : Prop := ∃ (a : Option Addr) (n c : Nat),
  e = .returned (.tuple #[.slice a n c, .bool R.isSome]) ∧ (∀ cs, R = some cs → ∃ vs, UCls w' w.heap.size (.slice a n c) vs cs) ∧ Below w.heap.size w w'

theorem haAll_none {s : ByteArray} (h : haLoop s s.size 0 0 [] = none) : haAll s = none := by simp only [haAll]; rw [h]
theorem haAll_some {s : ByteArray} {l : List HC} {fr : Nat} (h : haLoop s s.size 0 0 [] = some (l, fr)) : haAll s = if 0 < l.length ∧ fr = s.size then some l else none := by simp only [haAll]; rw [h]

set_option maxHeartbeats 1000000 in
set_option maxRecDepth 20000 in
theorem uall_any (s : ByteArray) (w : World) (hm : s.size ≤ 400) :
    Calls Tryd.prog 10 #[.string s, .bool true] w (UAllPost (haAll s) w) := by
  obtain ⟨i0, hi, hz0, hz1, hz2⟩ := info_parts Tryd.infoRClass
  go_enter Tryd.func10, Tryd.ntmps10
  go_wp2
  go_loopw [6, 7, 8] (fun v f i wr => ∃ (k fr : Nat) (vs : List HV) (l : List HC), k ≤ s.size ∧ fr ≤ k ∧ l.length ≤ 6 ∧ i = .int .i64 k ∧ f = .int .i64 fr ∧ Hid (haLoop s s.size 0 0 [] = haLoop s (s.size - k) k fr l) ∧ UCls wr w.heap.size v vs l ∧ Below w.heap.size w wr) (fun _ _ i _ => s.size - (intOf i).toNat)
  case atStart => exact ⟨0, 0, [], [], by omega, by omega, by simp, rfl, rfl, rfl, UCls.nil _ _, Below.refl _ _⟩
  case round =>
    obtain ⟨k, fr, vs, l, hk, hfr, hl, rfl, rfl, HR', V0, hb⟩ := hrel
    obtain ⟨ad, cp, rfl⟩ := V0.shape
    by_cases hend : k = s.size
    · have HR2 := HR'.out
      have e : s.size - k = 0 := by omega
      rw [e, haLoop] at HR2
      have HA : Hid _ := haAll_some HR2
      have h2 : s.size ≤ k := by omega
      clear hend e HR' HR2
      by_cases hl0 : 0 < l.length
      · by_cases hfe : fr = s.size
        · have hfe' : ((fr : Int) == (s.size : Int)) = true := by simp [hfe]
          have HA2 : Hid (haAll s = some l) := by show haAll s = some l; rw [HA.out, if_pos ⟨hl0, hfe⟩]
          clear hfe HA
          go_wp2
          go_ret2
          exact ⟨_, _, _, by rw [HA2.out]; rfl, fun cs hcs => by rw [HA2.out] at hcs; injection hcs with hcs; subst hcs; exact ⟨vs, V0⟩, hb⟩
        · have hfe' : ((fr : Int) == (s.size : Int)) = false := by simp; omega
          have HA2 : Hid (haAll s = none) := by show haAll s = none; rw [HA.out, if_neg (fun h => hfe h.2)]
          clear hfe HA
          go_wp2
          go_ret2
          exact ⟨_, _, _, by rw [HA2.out]; rfl, (fun cs hcs => by rw [HA2.out] at hcs; cases hcs), hb⟩
      · have HA2 : Hid (haAll s = none) := by show haAll s = none; rw [HA.out, if_neg (fun h => hl0 h.1)]
        have hl1 : l.length ≤ 0 := by omega
        clear HA hl0
        go_wp2
        go_ret2
        exact ⟨_, _, _, by rw [HA2.out]; rfl, (fun cs hcs => by rw [HA2.out] at hcs; cases hcs), hb⟩
    have hlt : k < s.size := by omega
    obtain ⟨n', hn'⟩ : ∃ n', s.size - k = n' + 1 := ⟨s.size - k - 1, by omega⟩
    have HR2 := HR'.out
    rw [hn', haLoop] at HR2
    clear HR' hend
    have HN : Hid (s.size - k = n' + 1) := hn'
    clear hn'
    by_cases hc : nextB s k = 125
    · rw [if_pos hc] at HR2
      have hc1 : (((s[k]'hlt).toNat : Int) != 125) = false := by rw [nextB_in hlt] at hc; simp [hc]
      clear hc
      cases hcl' : ugClass (s.extract fr k) fr with
      | none =>
        rw [hcl'] at HR2
        have HA2 : Hid (haAll s = none) := haAll_none HR2
        have hcl : Hid (ugClass (s.extract fr k) fr = none) := hcl'
        clear HR2 hcl'
        go_wp2_with (go_at_call 18; refine (uclass_any (s.extract fr k) fr wr (by simp; omega) (by omega) (by omega)).mono ?_; rw [hcl.out]; rintro e w1 ⟨x0, x1, x3, sa, sn, sc, rfl, hx, hb1⟩; have V1 := V0.below hb1; have B1 := hb.trans (hb1.mono hb.size); have hs1 : w.heap.size ≤ w1.heap.size := B1.size; have hs2 : Hid (wr.heap.size ≤ w1.heap.size) := hb1.size; have HX : Hid _ := hx; clear hb1 hx)
        go_ret2
        exact ⟨_, _, _, by rw [HA2.out]; rfl, (fun cs hcs => by rw [HA2.out] at hcs; cases hcs), B1.alloc hs1 _⟩
      | some r =>
        rw [hcl'] at HR2
        have hcl : Hid (ugClass (s.extract fr k) fr = some r) := hcl'
        clear hcl'
        by_cases h6 : l.length = 6
        · simp only [h6, if_true] at HR2
          have HA2 : Hid (haAll s = none) := haAll_none HR2
          have h6' : 6 ≤ l.length := by omega
          clear HR2 h6
          go_wp2_with (go_at_call 18; refine (uclass_any (s.extract fr k) fr wr (by simp; omega) (by omega) (by omega)).mono ?_; rw [hcl.out]; rintro e w1 ⟨x0, x1, x3, sa, sn, sc, rfl, hx, hb1⟩; have V1 := V0.below hb1; have B1 := hb.trans (hb1.mono hb.size); have hs1 : w.heap.size ≤ w1.heap.size := B1.size; have hs2 : Hid (wr.heap.size ≤ w1.heap.size) := hb1.size; have HX : Hid _ := hx; clear hb1 hx)
          go_ret2
          exact ⟨_, _, _, by rw [HA2.out]; rfl, (fun cs hcs => by rw [HA2.out] at hcs; cases hcs), B1.alloc hs1 _⟩
        · simp only [h6, if_false] at HR2
          have HR3 : Hid _ := HR2
          have h6' : l.length < 6 := by omega
          have hvl := V0.len
          have HVL : Hid (vs.length = l.length) := hvl
          clear HR2 h6 hvl
          go_wp2_with (first | (go_at_call 18; refine (uclass_any (s.extract fr k) fr wr (by simp; omega) (by omega) (by omega)).mono ?_; rw [hcl.out]; rintro e w1 ⟨x0, x1, x3, sa, sn, sc, rfl, hx, hb1⟩; have V1 := V0.below hb1; have B1 := hb.trans (hb1.mono hb.size); have hs1 : w.heap.size ≤ w1.heap.size := B1.size; have hs2 : Hid (wr.heap.size ≤ w1.heap.size) := hb1.size; have HX : Hid _ := hx; clear hb1 hx) | (at_builtin; refine wpList_append_own _ rfl _ _ 25 rfl w.heap.size 53 i0 (.agg #[.int .u8 0, .int .u8 0, .int .i64 0, .int .i64 0, .slice none 0 0]) 5 48 Tryd.underlying25 hi hz0 hz1 hz2 rfl (by decide) _ vs.length (flatH vs) rfl ((V1.row.alloc _).alloc _) ⟨w1.heap.size + 1, 0, none⟩ 1 1 [.int .u8 x0, .int .u8 x1, .int .i64 fr, .int .i64 x3, .slice sa sn sc] rfl rfl ?c1 ?c2 ?c3 ?c4 ?c5 ?_))
          case c1 => exact cell_seven _ _ _ _
          case c2 => intro u hu; simp at hu; rcases hu with rfl | rfl | rfl | rfl | rfl <;> rfl
          case c3 => have := HVL.out; unfold maxLen; omega
          case c4 => have := HVL.out; omega
          case c5 => simp; omega
          intro v' w2 hown hgr _
          obtain ⟨hx0, hx1, hx3, hxv⟩ := HX.out r rfl
          obtain ⟨V2, B2⟩ := happ_step (sv := ⟨sa, sn, sc⟩) V1 B1 hb.size hxv hown hgr
          clear hown hgr V1 B1 V0 hb HX hxv
          go_wp2
          go_roundw
          case rel => exact ⟨k + 1, k + 1, _, _, by omega, by omega, by simp; omega, by go_num, by go_num, by have := HN.out; rw [show s.size - (k + 1) = n' by omega, hx0, hx1, hx3]; exact HR3, V2, B2⟩
          case measure => simp [intOf]; omega
    · rw [if_neg hc] at HR2
      have HR : Hid _ := HR2
      clear HR2
      rw [nextB_in hlt] at hc
      have hc3 : (((s[k]'hlt).toNat : Int) != 125) = true := by simpa using hc
      clear hc
      go_wp2
      go_roundw
      case rel => exact ⟨k + 1, fr, vs, l, by omega, by omega, hl, by go_num, rfl, by have := HN.out; rw [show s.size - (k + 1) = n' by omega]; exact HR, V0, hb⟩
      case measure => simp [intOf]; omega
end Go.Proofs.YthckelcjncnalaaDoor
