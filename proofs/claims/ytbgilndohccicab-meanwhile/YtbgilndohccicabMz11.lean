import Derived.Test.YtbgilndohccicabMz10
namespace Go.Proofs.Ytbgilndohccicab
open Go.RowKit

/-- A term of a sum; a field and a class as the text has them. -/
structure GT where
  w : Int
  v : Int
  p : Int
structure GFd where
  l : Int
  p : Int
  k : Int
  ts : List GT
  sp : Int
  ex : Bool
def zF : GFd := ⟨0, 0, 0, [], 0, false⟩
def flatT : List GT → List Value
  | [] => []
  | t :: r => .int .u8 t.w :: .int .i64 t.v :: .int .i64 t.p :: flatT r
/-- v is a slice of terms, made since base, that holds ts. -/
def TVb (w : World) (base : Nat) (v : Value) (ts : List GT) : Prop := w.ownsRow base 191 3 v ts.length (flatT ts)
theorem TVb.nil (w : World) (base : Nat) : TVb w base (.slice none 0 0) [] := World.ownsRow_nil _ _ _ _
theorem TVb.kept {w w' : World} {base b : Nat} {v : Value} {ts : List GT} (h : TVb w base v ts) (g : w.grownBy w' (some b)) (hb : b < base) : TVb w' base v ts := row_kept h g hb
theorem TVb.alloc {w : World} {base : Nat} {v : Value} {ts : List GT} (h : TVb w base v ts) (o : Obj) : TVb (w.alloc o) base v ts := World.ownsRow.alloc h o
theorem TVb.setOld {w : World} {base p o : Nat} {v x : Value} {ts : List GT} (h : TVb w base v ts) (hp : p < base) : TVb (w.setCell ⟨p, o, none⟩ x) base v ts := h.kept (gb_set w p o x) hp
theorem TVb.mono {w : World} {base base' : Nat} {v : Value} {ts : List GT} (h : TVb w base v ts) (hb : base' ≤ base) : TVb w base' v ts := row_mono h hb

/-- What readRule comes to. -/
structure RuleR where
  ok : Bool
  at_ : Nat
  ts : List GT
  sp : Int
  ex : Bool
def RulePost (R : RuleR) (w : World) (b : Nat) (s : ByteArray) (u : Bool) (e : Ending) (w' : World) : Prop := ∃ (a : Option Addr) (n c : Nat),
  e = .returned (.tuple #[.agg #[.slice a n c, .int .i64 R.sp, .bool R.ex], .bool R.ok]) ∧ TVb w' w.heap.size (.slice a n c) R.ts ∧ RS w' b s R.at_ u ∧ w.grownBy w' (some b)
/-- readRule does as ru says. -/
def RuleC (u : Bool) (ru : ByteArray → Nat → RuleR) : Prop := ∀ (s : ByteArray) (b k : Nat) (w : World), RS w b s k u →
  Calls Try.prog 110 #[.pointer (some ⟨b, 0, none⟩)] w (RulePost (ru s k) w b s u)
def noRule : ByteArray → Nat → RuleR := fun _ k => ⟨true, k, [], 0, false⟩

set_option maxHeartbeats 400000 in
theorem rule_no : RuleC false noRule := by
  intro s b k w h
  have hb := h.blt
  obtain ⟨c0, c1, c2, _, f1, f3, le, lt⟩ := id h
  go_enter Try.func110, Try.ntmps110
  go_wp2
  refine bodyPost_ret (v := .tuple #[.agg #[.slice none 0 0, .int .i64 0, .bool false], .bool true]) (by simp [results, Try.results110, go_sem]) rfl ⟨none, 0, 0, rfl, TVb.nil _ _, ?_, ?_⟩
  · show RS _ b s k false
    with_reducible repeat first | exact h | apply RS.drew | apply RS.drewN | apply RS.alloc | (refine RS.setOther ?_ (by omega) _)
  · with_reducible repeat first | exact World.grownBy.refl _ _ | apply gb_drew | apply gb_drew1 | apply gb_alloc | apply gb_setB | (refine gb_setNew ?_ (by omega) _)

/-- What readFrom comes to. -/
structure FromR where
  ok : Bool
  at_ : Nat
  l : Int
  p : Int
def FromC (u : Bool) (fr : ByteArray → Nat → FromR) : Prop := ∀ (s : ByteArray) (b k : Nat) (w : World), RS w b s k u →
  Calls Try.prog 103 #[.pointer (some ⟨b, 0, none⟩)] w fun e w' =>
    e = .returned (.tuple #[.agg #[.int .u8 (fr s k).l, .int .i64 (fr s k).p], .bool (fr s k).ok]) ∧ RS w' b s (fr s k).at_ u ∧ w.grownBy w' (some b)
def noFrom : ByteArray → Nat → FromR := fun _ k => ⟨true, k, 0, 0⟩
set_option maxHeartbeats 400000 in
theorem from_no : FromC false noFrom := by
  intro s b k w h
  have hb := h.blt
  obtain ⟨c0, c1, c2, _, f1, f3, le, lt⟩ := id h
  go_enter Try.func103, Try.ntmps103
  go_wp2
  refine bodyPost_ret (v := .tuple #[.agg #[.int .u8 0, .int .i64 0], .bool true]) (by simp [results, Try.results103, go_sem]) rfl ⟨rfl, ?_, ?_⟩
  · show RS _ b s k false
    with_reducible repeat first | exact h | apply RS.drew | apply RS.drewN | apply RS.alloc | (refine RS.setOther ?_ (by omega) _)
  · with_reducible repeat first | exact World.grownBy.refl _ _ | apply gb_drew | apply gb_drew1 | apply gb_alloc | apply gb_setB | (refine gb_setNew ?_ (by omega) _)

structure GFR where
  ok : Bool
  at_ : Nat
  f : GFd
/-- What readField does at k. -/
def gdField (ru : ByteArray → Nat → RuleR) (s : ByteArray) (k : Nat) : GFR :=
  if (decide (97 ≤ nextB s k) && decide (nextB s k ≤ 122)) = false then ⟨false, k, zF⟩
  else if (nextB s (k + 1) == 58) = false then ⟨false, k + 1, zF⟩
  else if isKindB (nextB s (k + 1 + 1)) = false then ⟨false, k + 1 + 1, zF⟩
  else if (ru s (k + 1 + 1 + 1)).ok = false then ⟨false, (ru s (k + 1 + 1 + 1)).at_, zF⟩
  else ⟨true, (ru s (k + 1 + 1 + 1)).at_, ⟨nextB s k, k, nextB s (k + 1 + 1), (ru s (k + 1 + 1 + 1)).ts, (ru s (k + 1 + 1 + 1)).sp, (ru s (k + 1 + 1 + 1)).ex⟩⟩
def fieldV (f : GFd) (a : Option Addr) (n c : Nat) : Value := .agg #[.int .u8 f.l, .int .i64 f.p, .int .u8 f.k, .slice a n c, .int .i64 f.sp, .bool f.ex]
def FieldPost (R : GFR) (w : World) (b : Nat) (s : ByteArray) (u : Bool) (e : Ending) (w' : World) : Prop := ∃ (a : Option Addr) (n c : Nat),
  e = .returned (.tuple #[fieldV R.f a n c, .bool R.ok]) ∧ TVb w' w.heap.size (.slice a n c) R.f.ts ∧ RS w' b s R.at_ u ∧ w.grownBy w' (some b)

set_option maxHeartbeats 1000000 in
theorem gfield_any {u : Bool} {ru : ByteArray → Nat → RuleR} (HRU : RuleC u ru) (s : ByteArray) (b k : Nat) (w : World) (h : RS w b s k u) :
    Calls Try.prog 108 #[.pointer (some ⟨b, 0, none⟩)] w (FieldPost (gdField ru s k) w b s u) := by
  have hb := h.blt
  have R0 : RS (w.alloc (.cells #[.int .u8 0, .int .i64 0, .int .u8 0, .slice none 0 0, .int .i64 0, .bool false] 162)) b s k u := h.alloc _
  have G0 : w.grownBy (w.alloc (.cells #[.int .u8 0, .int .i64 0, .int .u8 0, .slice none 0 0, .int .i64 0, .bool false] 162)) (some b) := World.grownBy_alloc _ _ _
  cases h1 : (decide (97 ≤ nextB s k) && decide (nextB s k ≤ 122)) with
  | false =>
    have e : gdField ru s k = ⟨false, k, zF⟩ := by unfold gdField; rw [if_pos h1]
    rw [e]; clear e
    go_enter Try.func108, Try.ntmps108
    go_wp2_with fail
    refine (letter_rs R0 (by omega) false h1).mono ?_
    rintro e w1 ⟨rfl, R1, g1⟩
    obtain ⟨lc1, lf1, ls1⟩ := Loc.of g1 (r := w.heap.size) (by simp) (by omega)
    simp only [Bool.false_eq_true, if_false] at R1 ⊢
    have G1 := gb_trans G0 g1
    go_wp2
    refine bodyPost_ret (v := .tuple #[fieldV zF none 0 0, .bool false]) (by simp [results, Try.results108, go_sem, lc1, ls1, fieldV, zF]) rfl ⟨_, _, _, rfl, TVb.nil _ _, ?_, ?_⟩
    · with_reducible repeat first | exact R1 | apply RS.drew | apply RS.drewN | apply RS.alloc | (refine RS.setOther ?_ (by omega) _)
    · with_reducible repeat first | exact G1 | apply gb_drew | apply gb_drew1 | apply gb_alloc | apply gb_setB | (refine gb_setNew ?_ (by omega) _)
  | true =>
  have hk0 : b ≠ w.heap.size := by omega
  cases h2 : (nextB s (k + 1) == 58) with
  | false =>
    have e : gdField ru s k = ⟨false, k + 1, zF⟩ := by unfold gdField; rw [if_neg (by rw [h1]; decide), if_pos h2]
    rw [e]; clear e
    go_enter Try.func108, Try.ntmps108
    go_wp2_with fail
    refine (letter_rs R0 (by omega) true h1).mono ?_
    rintro e w1 ⟨rfl, R1', g1⟩
    obtain ⟨lc1, lf1, ls1⟩ := Loc.of g1 (r := w.heap.size) (by simp) (by omega)
    simp only [if_true] at R1' ⊢
    have R1 : RS (w1.alloc (.cells #[.int .u8 (nextB s k), .int .i64 k] 153)) b s (k + 1) u := R1'.alloc _
    have G1 := gb_alloc (gb_trans G0 g1) (.cells #[.int .u8 (nextB s k), .int .i64 k] 153)
    clear R1' g1 R0 G0
    go_wp2_with fail
    refine (take_rs R1 (by omega) false h2).mono ?_
    rintro e w2 ⟨rfl, R2', g2⟩
    obtain ⟨lc2, lf2, ls2⟩ := Loc.of g2 (r := w.heap.size) (by simp; omega) (by omega)
    obtain ⟨mc2, mf2, ms2⟩ := Loc.of g2 (r := w1.heap.size) (by simp) (by omega)
    simp only [Bool.false_eq_true, if_false] at R2' ⊢
    have R2 := R2'
    have G2 := gb_trans G1 g2
    clear R2' g2 R1 G1
    go_wp2
    refine bodyPost_ret (v := .tuple #[fieldV zF none 0 0, .bool false]) (by simp [results, Try.results108, go_sem, lc1, ls1, lc2, fieldV, zF]) rfl ⟨_, _, _, rfl, TVb.nil _ _, ?_, ?_⟩
    · with_reducible repeat first | exact R2 | apply RS.drew | apply RS.drewN | apply RS.alloc | (refine RS.setOther ?_ (by omega) _)
    · with_reducible repeat first | exact G2 | apply gb_drew | apply gb_drew1 | apply gb_alloc | apply gb_setB | (refine gb_setNew ?_ (by omega) _)
  | true =>
  cases h3 : isKindB (nextB s (k + 1 + 1)) with
  | false =>
    have e : gdField ru s k = ⟨false, k + 1 + 1, zF⟩ := by unfold gdField; rw [if_neg (by rw [h1]; decide), if_neg (by rw [h2]; decide), if_pos h3]
    rw [e]; clear e
    go_enter Try.func108, Try.ntmps108
    go_wp2_with fail
    refine (letter_rs R0 (by omega) true h1).mono ?_
    rintro e w1 ⟨rfl, R1', g1⟩
    obtain ⟨lc1, lf1, ls1⟩ := Loc.of g1 (r := w.heap.size) (by simp) (by omega)
    simp only [if_true] at R1' ⊢
    have R1 : RS (w1.alloc (.cells #[.int .u8 (nextB s k), .int .i64 k] 153)) b s (k + 1) u := R1'.alloc _
    have G1 := gb_alloc (gb_trans G0 g1) (.cells #[.int .u8 (nextB s k), .int .i64 k] 153)
    clear R1' g1 R0 G0
    go_wp2_with fail
    refine (take_rs R1 (by omega) true h2).mono ?_
    rintro e w2 ⟨rfl, R2', g2⟩
    obtain ⟨lc2, lf2, ls2⟩ := Loc.of g2 (r := w.heap.size) (by simp; omega) (by omega)
    obtain ⟨mc2, mf2, ms2⟩ := Loc.of g2 (r := w1.heap.size) (by simp) (by omega)
    simp only [if_true] at R2' ⊢
    have R2 := R2'
    have G2 := gb_trans G1 g2
    clear R2' g2 R1 G1
    go_wp2_with fail
    refine (next_rs R2).mono ?_
    rintro e w' ⟨rfl, n, rfl⟩
    go_wp2_with fail
    refine (isKind_rs false h3).mono ?_
    rintro e w' ⟨rfl, rfl⟩
    go_wp2
    refine bodyPost_ret (v := .tuple #[fieldV zF none 0 0, .bool false]) (by simp [results, Try.results108, go_sem, lc1, ls1, lc2, fieldV, zF]) rfl ⟨_, _, _, rfl, TVb.nil _ _, ?_, ?_⟩
    · with_reducible repeat first | exact R2 | apply RS.drew | apply RS.drewN | apply RS.alloc | (refine RS.setOther ?_ (by omega) _)
    · with_reducible repeat first | exact G2 | apply gb_drew | apply gb_drew1 | apply gb_alloc | apply gb_setB | (refine gb_setNew ?_ (by omega) _)
  | true =>
  have hk2 : k + 1 + 1 < s.size := nextB_pos (isKindB_pos h3)
  obtain ⟨ok, at3, ts, sp, ex, hr⟩ : ∃ ok at3 ts sp ex, ru s (k + 1 + 1 + 1) = ⟨ok, at3, ts, sp, ex⟩ := ⟨_, _, _, _, _, rfl⟩
  cases ok with
  | false =>
    have e : gdField ru s k = ⟨false, at3, zF⟩ := by unfold gdField; rw [if_neg (by rw [h1]; decide), if_neg (by rw [h2]; decide), if_neg (by rw [h3]; decide), if_pos (by rw [hr]), hr]
    rw [e]; clear e
    go_enter Try.func108, Try.ntmps108
    go_wp2_with fail
    refine (letter_rs R0 (by omega) true h1).mono ?_
    rintro e w1 ⟨rfl, R1', g1⟩
    obtain ⟨lc1, lf1, ls1⟩ := Loc.of g1 (r := w.heap.size) (by simp) (by omega)
    simp only [if_true] at R1' ⊢
    have R1 : RS (w1.alloc (.cells #[.int .u8 (nextB s k), .int .i64 k] 153)) b s (k + 1) u := R1'.alloc _
    have G1 := gb_alloc (gb_trans G0 g1) (.cells #[.int .u8 (nextB s k), .int .i64 k] 153)
    clear R1' g1 R0 G0
    go_wp2_with fail
    refine (take_rs R1 (by omega) true h2).mono ?_
    rintro e w2 ⟨rfl, R2', g2⟩
    obtain ⟨lc2, lf2, ls2⟩ := Loc.of g2 (r := w.heap.size) (by simp; omega) (by omega)
    obtain ⟨mc2, mf2, ms2⟩ := Loc.of g2 (r := w1.heap.size) (by simp) (by omega)
    simp only [if_true] at R2' ⊢
    have R2 := R2'
    have G2 := gb_trans G1 g2
    clear R2' g2 R1 G1
    go_wp2_with fail
    refine (next_rs R2).mono ?_
    rintro e w' ⟨rfl, n, rfl⟩
    go_wp2_with fail
    refine (isKind_rs true h3).mono ?_
    rintro e w' ⟨rfl, rfl⟩
    obtain ⟨c0, c1, c2, _, f1, f3, le, lt⟩ := id R2
    have R3 : RS ((w2.drewN n).setCell ⟨b, 1, none⟩ (.int .i64 ((k : Int) + 1 + 1 + 1))) b s (k + 1 + 1 + 1) u := by simpa using (R2.drewN n).inc hk2
    have G3 := gb_setB (gb_drew G2 n) 1 (.int .i64 ((k : Int) + 1 + 1 + 1))
    have hz3 : ((w2.drewN n).setCell ⟨b, 1, none⟩ (.int .i64 ((k : Int) + 1 + 1 + 1))).heap.size = w2.heap.size := by simp
    have C := HRU s b (k + 1 + 1 + 1) _ R3
    rw [hr] at C
    go_wp2_with fail
    refine C.mono ?_
    rintro e w4 ⟨a4, n4, c4, rfl, T4', R4, g4⟩
    obtain ⟨lc4, lf4, ls4⟩ := Loc.of g4 (r := w.heap.size) (by rw [hz3]; omega) (by omega)
    obtain ⟨mc4, mf4, ms4⟩ := Loc.of g4 (r := w1.heap.size) (by rw [hz3]; omega) (by omega)
    rw [hz3] at T4'
    have G4 := gb_trans G3 g4
    have T4 := T4'
    clear g4 C R3 G3 R2 G2 hr T4'
    simp only [] at R4 T4 ⊢
    go_wp2
    refine bodyPost_ret (v := .tuple #[fieldV zF none 0 0, .bool false]) (by simp [results, Try.results108, go_sem, lc1, ls1, lc2, lc4, ls4, fieldV, zF]) rfl ⟨_, _, _, rfl, TVb.nil _ _, ?_, ?_⟩
    · with_reducible repeat first | exact R4 | apply RS.drew | apply RS.drewN | apply RS.alloc | (refine RS.setOther ?_ (by omega) _)
    · with_reducible repeat first | exact G4 | apply gb_drew | apply gb_drew1 | apply gb_alloc | apply gb_setB | (refine gb_setNew ?_ (by omega) _)
  | true =>
    have e : gdField ru s k = ⟨true, at3, ⟨nextB s k, k, nextB s (k + 1 + 1), ts, sp, ex⟩⟩ := by unfold gdField; rw [if_neg (by rw [h1]; decide), if_neg (by rw [h2]; decide), if_neg (by rw [h3]; decide), if_neg (by rw [hr]; simp), hr]
    rw [e]; clear e
    go_enter Try.func108, Try.ntmps108
    go_wp2_with fail
    refine (letter_rs R0 (by omega) true h1).mono ?_
    rintro e w1 ⟨rfl, R1', g1⟩
    obtain ⟨lc1, lf1, ls1⟩ := Loc.of g1 (r := w.heap.size) (by simp) (by omega)
    simp only [if_true] at R1' ⊢
    have R1 : RS (w1.alloc (.cells #[.int .u8 (nextB s k), .int .i64 k] 153)) b s (k + 1) u := R1'.alloc _
    have G1 := gb_alloc (gb_trans G0 g1) (.cells #[.int .u8 (nextB s k), .int .i64 k] 153)
    clear R1' g1 R0 G0
    go_wp2_with fail
    refine (take_rs R1 (by omega) true h2).mono ?_
    rintro e w2 ⟨rfl, R2', g2⟩
    obtain ⟨lc2, lf2, ls2⟩ := Loc.of g2 (r := w.heap.size) (by simp; omega) (by omega)
    obtain ⟨mc2, mf2, ms2⟩ := Loc.of g2 (r := w1.heap.size) (by simp) (by omega)
    simp only [if_true] at R2' ⊢
    have R2 := R2'
    have G2 := gb_trans G1 g2
    clear R2' g2 R1 G1
    go_wp2_with fail
    refine (next_rs R2).mono ?_
    rintro e w' ⟨rfl, n, rfl⟩
    go_wp2_with fail
    refine (isKind_rs true h3).mono ?_
    rintro e w' ⟨rfl, rfl⟩
    obtain ⟨c0, c1, c2, _, f1, f3, le, lt⟩ := id R2
    have R3 : RS ((w2.drewN n).setCell ⟨b, 1, none⟩ (.int .i64 ((k : Int) + 1 + 1 + 1))) b s (k + 1 + 1 + 1) u := by simpa using (R2.drewN n).inc hk2
    have G3 := gb_setB (gb_drew G2 n) 1 (.int .i64 ((k : Int) + 1 + 1 + 1))
    have hz3 : ((w2.drewN n).setCell ⟨b, 1, none⟩ (.int .i64 ((k : Int) + 1 + 1 + 1))).heap.size = w2.heap.size := by simp
    have C := HRU s b (k + 1 + 1 + 1) _ R3
    rw [hr] at C
    go_wp2_with fail
    refine C.mono ?_
    rintro e w4 ⟨a4, n4, c4, rfl, T4', R4, g4⟩
    obtain ⟨lc4, lf4, ls4⟩ := Loc.of g4 (r := w.heap.size) (by rw [hz3]; omega) (by omega)
    obtain ⟨mc4, mf4, ms4⟩ := Loc.of g4 (r := w1.heap.size) (by rw [hz3]; omega) (by omega)
    rw [hz3] at T4'
    have G4 := gb_trans G3 g4
    have T4 := T4'
    clear g4 C R3 G3 R2 G2 hr T4'
    simp only [] at R4 T4 ⊢
    go_wp2
    refine bodyPost_ret (v := .tuple #[fieldV ⟨nextB s k, k, nextB s (k + 1 + 1), ts, sp, ex⟩ a4 n4 c4, .bool true]) (by simp [results, Try.results108, go_sem, lc1, ls1, lc2, lc4, ls4, fieldV]) rfl ⟨_, _, _, rfl, ?_, ?_, ?_⟩
    · refine TVb.mono (base := w2.heap.size) (ts := ts) ?_ (by omega)
      with_reducible repeat first | exact T4 | apply TVb.alloc | (refine TVb.setOld ?_ (by omega))
    · with_reducible repeat first | exact R4 | apply RS.drew | apply RS.drewN | apply RS.alloc | (refine RS.setOther ?_ (by omega) _)
    · with_reducible repeat first | exact G4 | apply gb_drew | apply gb_drew1 | apply gb_alloc | apply gb_setB | (refine gb_setNew ?_ (by omega) _)
end Go.Proofs.Ytbgilndohccicab
