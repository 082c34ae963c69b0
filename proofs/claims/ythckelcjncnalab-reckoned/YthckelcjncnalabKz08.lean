import Derived.Test.YthckelcjncnalabKz07
namespace Go.Proofs.Ythckelcjncnalab
open Go.RowKit

structure GCd where
  l : Int
  p : Int
  fl : Int
  fp : Int
  fs : List GFd
def zC : GCd := ⟨0, 0, 0, 0, []⟩
structure GCR where
  ok : Bool
  at_ : Nat
  c : GCd
/-- What readClass does at k. -/
def gdClass (ru : ByteArray → Nat → RuleR) (fr : ByteArray → Nat → FromR) (s : ByteArray) (k : Nat) : GCR :=
  if (decide (65 ≤ nextB s k) && decide (nextB s k ≤ 90)) = false then ⟨false, k, zC⟩
  else if (fr s (k + 1)).ok = false then ⟨false, (fr s (k + 1)).at_, zC⟩
  else if (nextB s (fr s (k + 1)).at_ == 123) = false then ⟨false, (fr s (k + 1)).at_, zC⟩
  else if (gdFields ru s ((fr s (k + 1)).at_ + 1)).ok = false then ⟨false, (gdFields ru s ((fr s (k + 1)).at_ + 1)).at_, zC⟩
  else ⟨true, (gdFields ru s ((fr s (k + 1)).at_ + 1)).at_, ⟨nextB s k, k, (fr s (k + 1)).l, (fr s (k + 1)).p, (gdFields ru s ((fr s (k + 1)).at_ + 1)).fs⟩⟩
def classV (c : GCd) (a : Option Addr) (n m : Nat) : Value := .agg #[.int .u8 c.l, .int .i64 c.p, .int .u8 c.fl, .int .i64 c.fp, .slice a n m]
def ClassPost (R : GCR) (w : World) (b : Nat) (s : ByteArray) (u : Bool) (e : Ending) (w' : World) : Prop := ∃ (a : Option Addr) (n c : Nat) (rs : List RFd),
  e = .returned (.tuple #[classV R.c a n c, .bool R.ok]) ∧ GFs w' w.heap.size (.slice a n c) rs R.c.fs ∧ RS w' b s R.at_ u ∧ w.grownBy w' (some b)
theorem GFs.setOld {w : World} {base p o : Nat} {v x : Value} {rs : List RFd} {fs : List GFd} (h : GFs w base v rs fs) (hp : p < base) : GFs (w.setCell ⟨p, o, none⟩ x) base v rs fs := h.kept (gb_set w p o x) hp

set_option maxHeartbeats 1000000 in
set_option maxRecDepth 20000 in
theorem gclass_any {u : Bool} {ru : ByteArray → Nat → RuleR} {fr : ByteArray → Nat → FromR} (HRU : RuleC u ru) (HFR : FromC u fr) (s : ByteArray) (b k : Nat) (w : World) (h : RS w b s k u) :
    Calls Try.prog 68 #[.pointer (some ⟨b, 0, none⟩)] w (ClassPost (gdClass ru fr s k) w b s u) := by
  have hb := h.blt
  have hk0 : b ≠ w.heap.size := by omega
  have R0 : RS (w.alloc (.cells #[.int .u8 0, .int .i64 0, .int .u8 0, .int .i64 0, .slice none 0 0] 120)) b s k u := h.alloc _
  have G0 : w.grownBy (w.alloc (.cells #[.int .u8 0, .int .i64 0, .int .u8 0, .int .i64 0, .slice none 0 0] 120)) (some b) := World.grownBy_alloc _ _ _
  cases h1 : (decide (65 ≤ nextB s k) && decide (nextB s k ≤ 90)) with
  | false =>
    have e : gdClass ru fr s k = ⟨false, k, zC⟩ := by unfold gdClass; rw [if_pos h1]
    rw [e]; clear e
    go_enter Try.func68, Try.ntmps68
    go_wp2_with fail
    refine (letter_rs R0 (by omega) false h1).mono ?_
    rintro e w1 ⟨rfl, R1, g1⟩
    obtain ⟨lc1, lf1, ls1⟩ := Loc.of g1 (r := w.heap.size) (by simp) (by omega)
    simp only [Bool.false_eq_true, if_false] at R1 ⊢
    have G1 := gb_trans G0 g1
    go_wp2
    refine bodyPost_ret (v := .tuple #[classV zC none 0 0, .bool false]) (by simp [results, Try.results68, go_sem, lc1, ls1, classV, zC]) rfl ⟨_, _, _, [], rfl, GFs.nil _ _, ?_, ?_⟩
    · with_reducible repeat first | exact R1 | apply RS.drew | apply RS.drewN | apply RS.alloc | (refine RS.setOther ?_ (by omega) _)
    · with_reducible repeat first | exact G1 | apply gb_drew | apply gb_drew1 | apply gb_alloc | apply gb_setB | (refine gb_setNew ?_ (by omega) _)
  | true =>
  obtain ⟨ok, a2, l2, p2, hf⟩ : ∃ ok a2 l2 p2, fr s (k + 1) = ⟨ok, a2, l2, p2⟩ := ⟨_, _, _, _, rfl⟩
  cases ok with
  | false =>
    have e : gdClass ru fr s k = ⟨false, a2, zC⟩ := by unfold gdClass; rw [if_neg (by rw [h1]; decide), if_pos (by rw [hf]), hf]
    rw [e]; clear e
    go_enter Try.func68, Try.ntmps68
    go_wp2_with fail
    refine (letter_rs R0 (by omega) true h1).mono ?_
    rintro e w1 ⟨rfl, R1', g1⟩
    obtain ⟨lc1, lf1, ls1⟩ := Loc.of g1 (r := w.heap.size) (by simp) (by omega)
    simp only [if_true] at R1' ⊢
    have R1 : RS (w1.alloc (.cells #[.int .u8 (nextB s k), .int .i64 k] 117)) b s (k + 1) u := R1'.alloc _
    have G1 := gb_alloc (gb_trans G0 g1) (.cells #[.int .u8 (nextB s k), .int .i64 k] 117)
    have C := HFR s b (k + 1) _ R1
    rw [hf] at C
    clear R1' g1 R0 G0
    go_wp2_with fail
    refine C.mono ?_
    rintro e w2 ⟨rfl, R2', g2⟩
    obtain ⟨lc2, lf2, ls2⟩ := Loc.of g2 (r := w.heap.size) (by simp; omega) (by omega)
    obtain ⟨mc2, mf2, ms2⟩ := Loc.of g2 (r := w1.heap.size) (by simp) (by omega)
    simp only [] at R2' ⊢
    have R2 : RS (w2.alloc (.cells #[.int .u8 l2, .int .i64 p2] 117)) b s a2 u := R2'.alloc _
    have G2w := gb_trans G1 g2
    have G2 := gb_alloc G2w (.cells #[.int .u8 l2, .int .i64 p2] 117)
    have R2w : RS w2 b s a2 u := R2'
    clear R2' g2 R1 G1 C
    go_wp2
    refine bodyPost_ret (v := .tuple #[classV zC none 0 0, .bool false]) (by simp [results, Try.results68, go_sem, lc1, ls1, lc2, ls2, classV, zC]) rfl ⟨_, _, _, [], rfl, GFs.nil _ _, ?_, ?_⟩
    · with_reducible repeat first | exact R2w | apply RS.drew | apply RS.drewN | apply RS.alloc | (refine RS.setOther ?_ (by omega) _)
    · with_reducible repeat first | exact G2w | apply gb_drew | apply gb_drew1 | apply gb_alloc | apply gb_setB | (refine gb_setNew ?_ (by omega) _)
  | true =>
  cases h2 : (nextB s a2 == 123) with
  | false =>
    have e : gdClass ru fr s k = ⟨false, a2, zC⟩ := by unfold gdClass; rw [if_neg (by rw [h1]; decide), if_neg (by rw [hf]; simp), if_pos (by rw [hf]; exact h2), hf]
    rw [e]; clear e
    go_enter Try.func68, Try.ntmps68
    go_wp2_with fail
    refine (letter_rs R0 (by omega) true h1).mono ?_
    rintro e w1 ⟨rfl, R1', g1⟩
    obtain ⟨lc1, lf1, ls1⟩ := Loc.of g1 (r := w.heap.size) (by simp) (by omega)
    simp only [if_true] at R1' ⊢
    have R1 : RS (w1.alloc (.cells #[.int .u8 (nextB s k), .int .i64 k] 117)) b s (k + 1) u := R1'.alloc _
    have G1 := gb_alloc (gb_trans G0 g1) (.cells #[.int .u8 (nextB s k), .int .i64 k] 117)
    have C := HFR s b (k + 1) _ R1
    rw [hf] at C
    clear R1' g1 R0 G0
    go_wp2_with fail
    refine C.mono ?_
    rintro e w2 ⟨rfl, R2', g2⟩
    obtain ⟨lc2, lf2, ls2⟩ := Loc.of g2 (r := w.heap.size) (by simp; omega) (by omega)
    obtain ⟨mc2, mf2, ms2⟩ := Loc.of g2 (r := w1.heap.size) (by simp) (by omega)
    simp only [] at R2' ⊢
    have R2 : RS (w2.alloc (.cells #[.int .u8 l2, .int .i64 p2] 117)) b s a2 u := R2'.alloc _
    have G2w := gb_trans G1 g2
    have G2 := gb_alloc G2w (.cells #[.int .u8 l2, .int .i64 p2] 117)
    have R2w : RS w2 b s a2 u := R2'
    clear R2' g2 R1 G1 C
    go_wp2_with fail
    refine (take_rs R2 (by omega) false h2).mono ?_
    rintro e w3 ⟨rfl, R3', g3⟩
    obtain ⟨lc3, lf3, ls3⟩ := Loc.of g3 (r := w.heap.size) (by simp; omega) (by omega)
    obtain ⟨mc3, mf3, ms3⟩ := Loc.of g3 (r := w1.heap.size) (by simp; omega) (by omega)
    obtain ⟨nc3, nf3, ns3⟩ := Loc.of g3 (r := w2.heap.size) (by simp) (by omega)
    simp only [Bool.false_eq_true, if_false] at R3' ⊢
    have R3 := R3'
    have G3 := gb_trans G2 g3
    clear R3' g3 R2 G2
    go_wp2
    refine bodyPost_ret (v := .tuple #[classV zC none 0 0, .bool false]) (by simp [results, Try.results68, go_sem, lc1, ls1, lc2, ls2, lc3, classV, zC]) rfl ⟨_, _, _, [], rfl, GFs.nil _ _, ?_, ?_⟩
    · with_reducible repeat first | exact R3 | apply RS.drew | apply RS.drewN | apply RS.alloc | (refine RS.setOther ?_ (by omega) _)
    · with_reducible repeat first | exact G3 | apply gb_drew | apply gb_drew1 | apply gb_alloc | apply gb_setB | (refine gb_setNew ?_ (by omega) _)
  | true =>
  obtain ⟨ok, a4', fs4, hg⟩ : ∃ ok a4' fs4, gdFields ru s (a2 + 1) = ⟨ok, a4', fs4⟩ := ⟨_, _, _, rfl⟩
  cases ok with
  | false =>
    have e : gdClass ru fr s k = ⟨false, a4', zC⟩ := by unfold gdClass; rw [if_neg (by rw [h1]; decide), if_neg (by rw [hf]; simp), if_neg (by rw [hf]; simp [h2]), hf, if_pos (by rw [hg]), hg]
    rw [e]; clear e
    go_enter Try.func68, Try.ntmps68
    go_wp2_with fail
    refine (letter_rs R0 (by omega) true h1).mono ?_
    rintro e w1 ⟨rfl, R1', g1⟩
    obtain ⟨lc1, lf1, ls1⟩ := Loc.of g1 (r := w.heap.size) (by simp) (by omega)
    simp only [if_true] at R1' ⊢
    have R1 : RS (w1.alloc (.cells #[.int .u8 (nextB s k), .int .i64 k] 117)) b s (k + 1) u := R1'.alloc _
    have G1 := gb_alloc (gb_trans G0 g1) (.cells #[.int .u8 (nextB s k), .int .i64 k] 117)
    have C := HFR s b (k + 1) _ R1
    rw [hf] at C
    clear R1' g1 R0 G0
    go_wp2_with fail
    refine C.mono ?_
    rintro e w2 ⟨rfl, R2', g2⟩
    obtain ⟨lc2, lf2, ls2⟩ := Loc.of g2 (r := w.heap.size) (by simp; omega) (by omega)
    obtain ⟨mc2, mf2, ms2⟩ := Loc.of g2 (r := w1.heap.size) (by simp) (by omega)
    simp only [] at R2' ⊢
    have R2 : RS (w2.alloc (.cells #[.int .u8 l2, .int .i64 p2] 117)) b s a2 u := R2'.alloc _
    have G2w := gb_trans G1 g2
    have G2 := gb_alloc G2w (.cells #[.int .u8 l2, .int .i64 p2] 117)
    have R2w : RS w2 b s a2 u := R2'
    clear R2' g2 R1 G1 C
    go_wp2_with fail
    refine (take_rs R2 (by omega) true h2).mono ?_
    rintro e w3 ⟨rfl, R3', g3⟩
    obtain ⟨lc3, lf3, ls3⟩ := Loc.of g3 (r := w.heap.size) (by simp; omega) (by omega)
    obtain ⟨mc3, mf3, ms3⟩ := Loc.of g3 (r := w1.heap.size) (by simp; omega) (by omega)
    obtain ⟨nc3, nf3, ns3⟩ := Loc.of g3 (r := w2.heap.size) (by simp) (by omega)
    simp only [if_true] at R3' ⊢
    have R3 := R3'
    have G3 := gb_trans G2 g3
    clear R3' g3 R2 G2
    have C := gfields_any HRU s b (a2 + 1) _ R3
    rw [hg] at C
    go_wp2_with fail
    refine C.mono ?_
    rintro e w4 ⟨a4, n4, c4, rs4, rfl, F4, R4, g4⟩
    obtain ⟨lc4, lf4, ls4⟩ := Loc.of g4 (r := w.heap.size) (by omega) (by omega)
    obtain ⟨mc4, mf4, ms4⟩ := Loc.of g4 (r := w1.heap.size) (by omega) (by omega)
    obtain ⟨nc4, nf4, ns4⟩ := Loc.of g4 (r := w2.heap.size) (by omega) (by omega)
    simp only [] at R4 F4 ⊢
    have G4 := gb_trans G3 g4
    clear g4 R3 G3 C
    go_wp2
    refine bodyPost_ret (v := .tuple #[classV zC none 0 0, .bool false]) (by simp [results, Try.results68, go_sem, lc1, ls1, lc2, ls2, lc3, lc4, classV, zC]) rfl ⟨_, _, _, [], rfl, GFs.nil _ _, ?_, ?_⟩
    · with_reducible repeat first | exact R4 | apply RS.drew | apply RS.drewN | apply RS.alloc | (refine RS.setOther ?_ (by omega) _)
    · with_reducible repeat first | exact G4 | apply gb_drew | apply gb_drew1 | apply gb_alloc | apply gb_setB | (refine gb_setNew ?_ (by omega) _)
  | true =>
    have e : gdClass ru fr s k = ⟨true, a4', ⟨nextB s k, k, l2, p2, fs4⟩⟩ := by unfold gdClass; rw [if_neg (by rw [h1]; decide), if_neg (by rw [hf]; simp), if_neg (by rw [hf]; simp [h2]), hf, if_neg (by rw [hg]; simp), hg]
    rw [e]; clear e
    go_enter Try.func68, Try.ntmps68
    go_wp2_with fail
    refine (letter_rs R0 (by omega) true h1).mono ?_
    rintro e w1 ⟨rfl, R1', g1⟩
    obtain ⟨lc1, lf1, ls1⟩ := Loc.of g1 (r := w.heap.size) (by simp) (by omega)
    simp only [if_true] at R1' ⊢
    have R1 : RS (w1.alloc (.cells #[.int .u8 (nextB s k), .int .i64 k] 117)) b s (k + 1) u := R1'.alloc _
    have G1 := gb_alloc (gb_trans G0 g1) (.cells #[.int .u8 (nextB s k), .int .i64 k] 117)
    have C := HFR s b (k + 1) _ R1
    rw [hf] at C
    clear R1' g1 R0 G0
    go_wp2_with fail
    refine C.mono ?_
    rintro e w2 ⟨rfl, R2', g2⟩
    obtain ⟨lc2, lf2, ls2⟩ := Loc.of g2 (r := w.heap.size) (by simp; omega) (by omega)
    obtain ⟨mc2, mf2, ms2⟩ := Loc.of g2 (r := w1.heap.size) (by simp) (by omega)
    simp only [] at R2' ⊢
    have R2 : RS (w2.alloc (.cells #[.int .u8 l2, .int .i64 p2] 117)) b s a2 u := R2'.alloc _
    have G2w := gb_trans G1 g2
    have G2 := gb_alloc G2w (.cells #[.int .u8 l2, .int .i64 p2] 117)
    have R2w : RS w2 b s a2 u := R2'
    clear R2' g2 R1 G1 C
    go_wp2_with fail
    refine (take_rs R2 (by omega) true h2).mono ?_
    rintro e w3 ⟨rfl, R3', g3⟩
    obtain ⟨lc3, lf3, ls3⟩ := Loc.of g3 (r := w.heap.size) (by simp; omega) (by omega)
    obtain ⟨mc3, mf3, ms3⟩ := Loc.of g3 (r := w1.heap.size) (by simp; omega) (by omega)
    obtain ⟨nc3, nf3, ns3⟩ := Loc.of g3 (r := w2.heap.size) (by simp) (by omega)
    simp only [if_true] at R3' ⊢
    have R3 := R3'
    have G3 := gb_trans G2 g3
    clear R3' g3 R2 G2
    have C := gfields_any HRU s b (a2 + 1) _ R3
    rw [hg] at C
    go_wp2_with fail
    refine C.mono ?_
    rintro e w4 ⟨a4, n4, c4, rs4, rfl, F4, R4, g4⟩
    obtain ⟨lc4, lf4, ls4⟩ := Loc.of g4 (r := w.heap.size) (by omega) (by omega)
    obtain ⟨mc4, mf4, ms4⟩ := Loc.of g4 (r := w1.heap.size) (by omega) (by omega)
    obtain ⟨nc4, nf4, ns4⟩ := Loc.of g4 (r := w2.heap.size) (by omega) (by omega)
    simp only [] at R4 F4 ⊢
    have G4 := gb_trans G3 g4
    clear g4 R3 G3 C
    go_wp2
    refine bodyPost_ret (v := .tuple #[classV ⟨nextB s k, k, l2, p2, fs4⟩ a4 n4 c4, .bool true]) (by simp [results, Try.results68, go_sem, lc1, ls1, lc2, ls2, lc3, lc4, classV]) rfl ⟨_, _, _, rs4, rfl, ?_, ?_, ?_⟩
    · refine GFs.mono (base := w3.heap.size) (fs := fs4) ?_ (by omega)
      with_reducible repeat first | exact F4 | apply GFs.alloc | (refine GFs.setOld ?_ (by omega))
    · with_reducible repeat first | exact R4 | apply RS.drew | apply RS.drewN | apply RS.alloc | (refine RS.setOther ?_ (by omega) _)
    · with_reducible repeat first | exact G4 | apply gb_drew | apply gb_drew1 | apply gb_alloc | apply gb_setB | (refine gb_setNew ?_ (by omega) _)
end Go.Proofs.Ythckelcjncnalab
