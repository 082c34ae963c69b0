import Derived.Test.YtbgilndohccicabMz12
namespace Go.Proofs.Ytbgilndohccicab
open Go.RowKit

structure GCd where
  l : Int
  p : Int
  fl : Int
  fp : Int
  fs : List GFd
def zC : GCd := ⟨0, 0, 0, 0, []⟩
structure GCR where
  ok : Bool
  at_ : Nat
  c : GCd
/-- What readClass does at k. -/
def gdClass (ru : ByteArray → Nat → RuleR) (fr : ByteArray → Nat → FromR) (s : ByteArray) (k : Nat) : GCR :=
  if (decide (65 ≤ nextB s k) && decide (nextB s k ≤ 90)) = false then ⟨false, k, zC⟩
  else if (fr s (k + 1)).ok = false then ⟨false, (fr s (k + 1)).at_, zC⟩
  else if (nextB s (fr s (k + 1)).at_ == 123) = false then ⟨false, (fr s (k + 1)).at_, zC⟩
  else if (gdFields ru s ((fr s (k + 1)).at_ + 1)).ok = false then ⟨false, (gdFields ru s ((fr s (k + 1)).at_ + 1)).at_, zC⟩
  else ⟨true, (gdFields ru s ((fr s (k + 1)).at_ + 1)).at_, ⟨nextB s k, k, (fr s (k + 1)).l, (fr s (k + 1)).p, (gdFields ru s ((fr s (k + 1)).at_ + 1)).fs⟩⟩
def classV (c : GCd) (a : Option Addr) (n m : Nat) : Value := .agg #[.int .u8 c.l, .int .i64 c.p, .int .u8 c.fl, .int .i64 c.fp, .slice a n m]
def ClassPost (R : GCR) (w : World) (b : Nat) (s : ByteArray) (u : Bool) (e : Ending) (w' : World) : Prop := ∃ (a : Option Addr) (n c : Nat) (rs : List RFd),
  e = .returned (.tuple #[classV R.c a n c, .bool R.ok]) ∧ GFs w' w.heap.size (.slice a n c) rs R.c.fs ∧ RS w' b s R.at_ u ∧ w.grownBy w' (some b)
theorem GFs.setOld {w : World} {base p o : Nat} {v x : Value} {rs : List RFd} {fs : List GFd} (h : GFs w base v rs fs) (hp : p < base) : GFs (w.setCell ⟨p, o, none⟩ x) base v rs fs := h.kept (gb_set w p o x) hp

set_option maxHeartbeats 1000000 in
set_option maxRecDepth 20000 in
theorem gclass_any {u : Bool} {ru : ByteArray → Nat → RuleR} {fr : ByteArray → Nat → FromR} (HRU : RuleC u ru) (HFR : FromC u fr) (s : ByteArray) (b k : Nat) (w : World) (h : RS w b s k u) :
    Calls Try.prog 96 #[.pointer (some ⟨b, 0, none⟩)] w (ClassPost (gdClass ru fr s k) w b s u) := by
  have hb := h.blt
  have hk0 : b ≠ w.heap.size := by omega
  have R0 : RS (w.alloc (.cells #[.int .u8 0, .int .i64 0, .int .u8 0, .int .i64 0, .slice none 0 0] 156)) b s k u := h.alloc _
  have G0 : w.grownBy (w.alloc (.cells #[.int .u8 0, .int .i64 0, .int .u8 0, .int .i64 0, .slice none 0 0] 156)) (some b) := World.grownBy_alloc _ _ _
  cases h1 : (decide (65 ≤ nextB s k) && decide (nextB s k ≤ 90)) with
  | false =>
    have e : gdClass ru fr s k = ⟨false, k, zC⟩ := by unfold gdClass; rw [if_pos h1]
    rw [e]; clear e
    go_enter Try.func96, Try.ntmps96
    go_wp2_with fail
    refine (letter_rs R0 (by omega) false h1).mono ?_
    rintro e w1 ⟨rfl, R1, g1⟩
    obtain ⟨lc1, lf1, ls1⟩ := Loc.of g1 (r := w.heap.size) (by simp) (by omega)
    simp only [Bool.false_eq_true, if_false] at R1 ⊢
    have G1 := gb_trans G0 g1
    go_wp2
    refine bodyPost_ret (v := .tuple #[classV zC none 0 0, .bool false]) (by simp [results, Try.results96, go_sem, lc1, ls1, classV, zC]) rfl ⟨_, _, _, [], rfl, GFs.nil _ _, ?_, ?_⟩
    · with_reducible repeat first | exact R1 | apply RS.drew | apply RS.drewN | apply RS.alloc | (refine RS.setOther ?_ (by omega) _)
    · with_reducible repeat first | exact G1 | apply gb_drew | apply gb_drew1 | apply gb_alloc | apply gb_setB | (refine gb_setNew ?_ (by omega) _)
  | true =>
  obtain ⟨ok, a2, l2, p2, hf⟩ : ∃ ok a2 l2 p2, fr s (k + 1) = ⟨ok, a2, l2, p2⟩ := ⟨_, _, _, _, rfl⟩
  cases ok with
  | false =>
    have e : gdClass ru fr s k = ⟨false, a2, zC⟩ := by unfold gdClass; rw [if_neg (by rw [h1]; decide), if_pos (by rw [hf]), hf]
    rw [e]; clear e
    go_enter Try.func96, Try.ntmps96
    go_wp2_with fail
    refine (letter_rs R0 (by omega) true h1).mono ?_
    rintro e w1 ⟨rfl, R1', g1⟩
    obtain ⟨lc1, lf1, ls1⟩ := Loc.of g1 (r := w.heap.size) (by simp) (by omega)
    simp only [if_true] at R1' ⊢
    have R1 : RS (w1.alloc (.cells #[.int .u8 (nextB s k), .int .i64 k] 153)) b s (k + 1) u := R1'.alloc _
    have G1 := gb_alloc (gb_trans G0 g1) (.cells #[.int .u8 (nextB s k), .int .i64 k] 153)
    have C := HFR s b (k + 1) _ R1
    rw [hf] at C
    clear R1' g1 R0 G0
    go_wp2_with fail
    refine C.mono ?_
    rintro e w2 ⟨rfl, R2', g2⟩
    obtain ⟨lc2, lf2, ls2⟩ := Loc.of g2 (r := w.heap.size) (by simp; omega) (by omega)
    obtain ⟨mc2, mf2, ms2⟩ := Loc.of g2 (r := w1.heap.size) (by simp) (by omega)
    simp only [] at R2' ⊢
    have R2 : RS (w2.alloc (.cells #[.int .u8 l2, .int .i64 p2] 153)) b s a2 u := R2'.alloc _
    have G2w := gb_trans G1 g2
    have G2 := gb_alloc G2w (.cells #[.int .u8 l2, .int .i64 p2] 153)
    have R2w : RS w2 b s a2 u := R2'
    clear R2' g2 R1 G1 C
    go_wp2
    refine bodyPost_ret (v := .tuple #[classV zC none 0 0, .bool false]) (by simp [results, Try.results96, go_sem, lc1, ls1, lc2, ls2, classV, zC]) rfl ⟨_, _, _, [], rfl, GFs.nil _ _, ?_, ?_⟩
    · with_reducible repeat first | exact R2w | apply RS.drew | apply RS.drewN | apply RS.alloc | (refine RS.setOther ?_ (by omega) _)
    · with_reducible repeat first | exact G2w | apply gb_drew | apply gb_drew1 | apply gb_alloc | apply gb_setB | (refine gb_setNew ?_ (by omega) _)
  | true =>
  cases h2 : (nextB s a2 == 123) with
  | false =>
    have e : gdClass ru fr s k = ⟨false, a2, zC⟩ := by unfold gdClass; rw [if_neg (by rw [h1]; decide), if_neg (by rw [hf]; simp), if_pos (by rw [hf]; exact h2), hf]
    rw [e]; clear e
    go_enter Try.func96, Try.ntmps96
    go_wp2_with fail
    refine (letter_rs R0 (by omega) true h1).mono ?_
    rintro e w1 ⟨rfl, R1', g1⟩
    obtain ⟨lc1, lf1, ls1⟩ := Loc.of g1 (r := w.heap.size) (by simp) (by omega)
    simp only [if_true] at R1' ⊢
    have R1 : RS (w1.alloc (.cells #[.int .u8 (nextB s k), .int .i64 k] 153)) b s (k + 1) u := R1'.alloc _
    have G1 := gb_alloc (gb_trans G0 g1) (.cells #[.int .u8 (nextB s k), .int .i64 k] 153)
    have C := HFR s b (k + 1) _ R1
    rw [hf] at C
    clear R1' g1 R0 G0
    go_wp2_with fail
    refine C.mono ?_
    rintro e w2 ⟨rfl, R2', g2⟩
    obtain ⟨lc2, lf2, ls2⟩ := Loc.of g2 (r := w.heap.size) (by simp; omega) (by omega)
    obtain ⟨mc2, mf2, ms2⟩ := Loc.of g2 (r := w1.heap.size) (by simp) (by omega)
    simp only [] at R2' ⊢
    have R2 : RS (w2.alloc (.cells #[.int .u8 l2, .int .i64 p2] 153)) b s a2 u := R2'.alloc _
    have G2w := gb_trans G1 g2
    have G2 := gb_alloc G2w (.cells #[.int .u8 l2, .int .i64 p2] 153)
    have R2w : RS w2 b s a2 u := R2'
    clear R2' g2 R1 G1 C
    go_wp2_with fail
    refine (take_rs R2 (by omega) false h2).mono ?_
    rintro e w3 ⟨rfl, R3', g3⟩
    obtain ⟨lc3, lf3, ls3⟩ := Loc.of g3 (r := w.heap.size) (by simp; omega) (by omega)
    obtain ⟨mc3, mf3, ms3⟩ := Loc.of g3 (r := w1.heap.size) (by simp; omega) (by omega)
    obtain ⟨nc3, nf3, ns3⟩ := Loc.of g3 (r := w2.heap.size) (by simp) (by omega)
    simp only [Bool.false_eq_true, if_false] at R3' ⊢
    have R3 := R3'
    have G3 := gb_trans G2 g3
    clear R3' g3 R2 G2
    go_wp2
    refine bodyPost_ret (v := .tuple #[classV zC none 0 0, .bool false]) (by simp [results, Try.results96, go_sem, lc1, ls1, lc2, ls2, lc3, classV, zC]) rfl ⟨_, _, _, [], rfl, GFs.nil _ _, ?_, ?_⟩
    · with_reducible repeat first | exact R3 | apply RS.drew | apply RS.drewN | apply RS.alloc | (refine RS.setOther ?_ (by omega) _)
    · with_reducible repeat first | exact G3 | apply gb_drew | apply gb_drew1 | apply gb_alloc | apply gb_setB | (refine gb_setNew ?_ (by omega) _)
  | true =>
  obtain ⟨ok, a4', fs4, hg⟩ : ∃ ok a4' fs4, gdFields ru s (a2 + 1) = ⟨ok, a4', fs4⟩ := ⟨_, _, _, rfl⟩
  cases ok with
  | false =>
    have e : gdClass ru fr s k = ⟨false, a4', zC⟩ := by unfold gdClass; rw [if_neg (by rw [h1]; decide), if_neg (by rw [hf]; simp), if_neg (by rw [hf]; simp [h2]), hf, if_pos (by rw [hg]), hg]
    rw [e]; clear e
    go_enter Try.func96, Try.ntmps96
    go_wp2_with fail
    refine (letter_rs R0 (by omega) true h1).mono ?_
    rintro e w1 ⟨rfl, R1', g1⟩
    obtain ⟨lc1, lf1, ls1⟩ := Loc.of g1 (r := w.heap.size) (by simp) (by omega)
    simp only [if_true] at R1' ⊢
    have R1 : RS (w1.alloc (.cells #[.int .u8 (nextB s k), .int .i64 k] 153)) b s (k + 1) u := R1'.alloc _
    have G1 := gb_alloc (gb_trans G0 g1) (.cells #[.int .u8 (nextB s k), .int .i64 k] 153)
    have C := HFR s b (k + 1) _ R1
    rw [hf] at C
    clear R1' g1 R0 G0
    go_wp2_with fail
    refine C.mono ?_
    rintro e w2 ⟨rfl, R2', g2⟩
    obtain ⟨lc2, lf2, ls2⟩ := Loc.of g2 (r := w.heap.size) (by simp; omega) (by omega)
    obtain ⟨mc2, mf2, ms2⟩ := Loc.of g2 (r := w1.heap.size) (by simp) (by omega)
    simp only [] at R2' ⊢
    have R2 : RS (w2.alloc (.cells #[.int .u8 l2, .int .i64 p2] 153)) b s a2 u := R2'.alloc _
    have G2w := gb_trans G1 g2
    have G2 := gb_alloc G2w (.cells #[.int .u8 l2, .int .i64 p2] 153)
    have R2w : RS w2 b s a2 u := R2'
    clear R2' g2 R1 G1 C
    go_wp2_with fail
    refine (take_rs R2 (by omega) true h2).mono ?_
    rintro e w3 ⟨rfl, R3', g3⟩
    obtain ⟨lc3, lf3, ls3⟩ := Loc.of g3 (r := w.heap.size) (by simp; omega) (by omega)
    obtain ⟨mc3, mf3, ms3⟩ := Loc.of g3 (r := w1.heap.size) (by simp; omega) (by omega)
    obtain ⟨nc3, nf3, ns3⟩ := Loc.of g3 (r := w2.heap.size) (by simp) (by omega)
    simp only [if_true] at R3' ⊢
    have R3 := R3'
    have G3 := gb_trans G2 g3
    clear R3' g3 R2 G2
    have C := gfields_any HRU s b (a2 + 1) _ R3
    rw [hg] at C
    go_wp2_with fail
    refine C.mono ?_
    rintro e w4 ⟨a4, n4, c4, rs4, rfl, F4, R4, g4⟩
    obtain ⟨lc4, lf4, ls4⟩ := Loc.of g4 (r := w.heap.size) (by omega) (by omega)
    obtain ⟨mc4, mf4, ms4⟩ := Loc.of g4 (r := w1.heap.size) (by omega) (by omega)
    obtain ⟨nc4, nf4, ns4⟩ := Loc.of g4 (r := w2.heap.size) (by omega) (by omega)
    simp only [] at R4 F4 ⊢
    have G4 := gb_trans G3 g4
    clear g4 R3 G3 C
    go_wp2
    refine bodyPost_ret (v := .tuple #[classV zC none 0 0, .bool false]) (by simp [results, Try.results96, go_sem, lc1, ls1, lc2, ls2, lc3, lc4, classV, zC]) rfl ⟨_, _, _, [], rfl, GFs.nil _ _, ?_, ?_⟩
    · with_reducible repeat first | exact R4 | apply RS.drew | apply RS.drewN | apply RS.alloc | (refine RS.setOther ?_ (by omega) _)
    · with_reducible repeat first | exact G4 | apply gb_drew | apply gb_drew1 | apply gb_alloc | apply gb_setB | (refine gb_setNew ?_ (by omega) _)
  | true =>
    have e : gdClass ru fr s k = ⟨true, a4', ⟨nextB s k, k, l2, p2, fs4⟩⟩ := by unfold gdClass; rw [if_neg (by rw [h1]; decide), if_neg (by rw [hf]; simp), if_neg (by rw [hf]; simp [h2]), hf, if_neg (by rw [hg]; simp), hg]
    rw [e]; clear e
    go_enter Try.func96, Try.ntmps96
    go_wp2_with fail
    refine (letter_rs R0 (by omega) true h1).mono ?_
    rintro e w1 ⟨rfl, R1', g1⟩
    obtain ⟨lc1, lf1, ls1⟩ := Loc.of g1 (r := w.heap.size) (by simp) (by omega)
    simp only [if_true] at R1' ⊢
    have R1 : RS (w1.alloc (.cells #[.int .u8 (nextB s k), .int .i64 k] 153)) b s (k + 1) u := R1'.alloc _
    have G1 := gb_alloc (gb_trans G0 g1) (.cells #[.int .u8 (nextB s k), .int .i64 k] 153)
    have C := HFR s b (k + 1) _ R1
    rw [hf] at C
    clear R1' g1 R0 G0
    go_wp2_with fail
    refine C.mono ?_
    rintro e w2 ⟨rfl, R2', g2⟩
    obtain ⟨lc2, lf2, ls2⟩ := Loc.of g2 (r := w.heap.size) (by simp; omega) (by omega)
    obtain ⟨mc2, mf2, ms2⟩ := Loc.of g2 (r := w1.heap.size) (by simp) (by omega)
    simp only [] at R2' ⊢
    have R2 : RS (w2.alloc (.cells #[.int .u8 l2, .int .i64 p2] 153)) b s a2 u := R2'.alloc _
    have G2w := gb_trans G1 g2
    have G2 := gb_alloc G2w (.cells #[.int .u8 l2, .int .i64 p2] 153)
    have R2w : RS w2 b s a2 u := R2'
    clear R2' g2 R1 G1 C
    go_wp2_with fail
    refine (take_rs R2 (by omega) true h2).mono ?_
    rintro e w3 ⟨rfl, R3', g3⟩
    obtain ⟨lc3, lf3, ls3⟩ := Loc.of g3 (r := w.heap.size) (by simp; omega) (by omega)
    obtain ⟨mc3, mf3, ms3⟩ := Loc.of g3 (r := w1.heap.size) (by simp; omega) (by omega)
    obtain ⟨nc3, nf3, ns3⟩ := Loc.of g3 (r := w2.heap.size) (by simp) (by omega)
    simp only [if_true] at R3' ⊢
    have R3 := R3'
    have G3 := gb_trans G2 g3
    clear R3' g3 R2 G2
    have C := gfields_any HRU s b (a2 + 1) _ R3
    rw [hg] at C
    go_wp2_with fail
    refine C.mono ?_
    rintro e w4 ⟨a4, n4, c4, rs4, rfl, F4, R4, g4⟩
    obtain ⟨lc4, lf4, ls4⟩ := Loc.of g4 (r := w.heap.size) (by omega) (by omega)
    obtain ⟨mc4, mf4, ms4⟩ := Loc.of g4 (r := w1.heap.size) (by omega) (by omega)
    obtain ⟨nc4, nf4, ns4⟩ := Loc.of g4 (r := w2.heap.size) (by omega) (by omega)
    simp only [] at R4 F4 ⊢
    have G4 := gb_trans G3 g4
    clear g4 R3 G3 C
    go_wp2
    refine bodyPost_ret (v := .tuple #[classV ⟨nextB s k, k, l2, p2, fs4⟩ a4 n4 c4, .bool true]) (by simp [results, Try.results96, go_sem, lc1, ls1, lc2, ls2, lc3, lc4, classV]) rfl ⟨_, _, _, rs4, rfl, ?_, ?_, ?_⟩
    · refine GFs.mono (base := w3.heap.size) (fs := fs4) ?_ (by omega)
      with_reducible repeat first | exact F4 | apply GFs.alloc | (refine GFs.setOld ?_ (by omega))
    · with_reducible repeat first | exact R4 | apply RS.drew | apply RS.drewN | apply RS.alloc | (refine RS.setOther ?_ (by omega) _)
    · with_reducible repeat first | exact G4 | apply gb_drew | apply gb_drew1 | apply gb_alloc | apply gb_setB | (refine gb_setNew ?_ (by omega) _)
end Go.Proofs.Ytbgilndohccicab
namespace Go.Proofs.Ytbgilndohccicab
open Go.RowKit

/-- A class as it lies in memory. -/
structure RCd where
  l : Int
  p : Int
  fl : Int
  fp : Int
  f : SV
def rcdV (r : RCd) : List Value := [.int .u8 r.l, .int .i64 r.p, .int .u8 r.fl, .int .i64 r.fp, .slice r.f.a r.f.n r.f.c]
def flatD (rs : List RCd) : List Value := rs.flatMap rcdV
structure CRel (w : World) (base : Nat) (r : RCd) (c : GCd) : Prop where
  l : r.l = c.l
  p : r.p = c.p
  fl : r.fl = c.fl
  fp : r.fp = c.fp
  fs : ∃ rs, GFs w base (.slice r.f.a r.f.n r.f.c) rs c.fs
/-- v is a slice of classes, made since base. -/
structure GCs (w : World) (base : Nat) (v : Value) (rs : List RCd) (cs : List GCd) : Prop where
  row : w.ownsRow base 156 5 v rs.length (flatD rs)
  len : rs.length = cs.length
  el : ∀ (i : Nat) (r : RCd) (c : GCd), rs[i]? = some r → cs[i]? = some c → CRel w base r c
theorem GCs.nil (w : World) (base : Nat) : GCs w base (.slice none 0 0) [] [] := ⟨World.ownsRow_nil _ _ _ _, rfl, fun i r f h _ => by simp at h⟩
theorem CRel.kept {w w' : World} {base b : Nat} {r : RCd} {c : GCd} (h : CRel w base r c) (g : w.grownBy w' (some b)) (hb : b < base) : CRel w' base r c := by
  obtain ⟨rs, hf⟩ := h.fs
  exact ⟨h.l, h.p, h.fl, h.fp, rs, hf.kept g hb⟩
theorem CRel.mono {w : World} {base base' : Nat} {r : RCd} {c : GCd} (h : CRel w base r c) (hb : base' ≤ base) : CRel w base' r c := by
  obtain ⟨rs, hf⟩ := h.fs
  exact ⟨h.l, h.p, h.fl, h.fp, rs, hf.mono hb⟩
theorem CRel.below {w w' : World} {base : Nat} {r : RCd} {c : GCd} (h : CRel w base r c) (hb : Below w.heap.size w w') : CRel w' base r c := by
  obtain ⟨rs, hf⟩ := h.fs
  exact ⟨h.l, h.p, h.fl, h.fp, rs, hf.below hb⟩
theorem GCs.kept {w w' : World} {base b : Nat} {v : Value} {rs : List RCd} {cs : List GCd} (h : GCs w base v rs cs) (g : w.grownBy w' (some b)) (hb : b < base) : GCs w' base v rs cs :=
  ⟨row_kept h.row g hb, h.len, fun i r f h1 h2 => (h.el i r f h1 h2).kept g hb⟩
theorem GCs.mono {w : World} {base base' : Nat} {v : Value} {rs : List RCd} {cs : List GCd} (h : GCs w base v rs cs) (hb : base' ≤ base) : GCs w base' v rs cs :=
  ⟨row_mono h.row hb, h.len, fun i r f h1 h2 => (h.el i r f h1 h2).mono hb⟩
theorem GCs.below {w w' : World} {base : Nat} {v : Value} {rs : List RCd} {cs : List GCd} (h : GCs w base v rs cs) (hb : Below w.heap.size w w') : GCs w' base v rs cs :=
  ⟨World.ownsRow.kept h.row (gb_below hb none) (by cases hv : v.ownBlock <;> simp), h.len, fun i r f h1 h2 => (h.el i r f h1 h2).below hb⟩
theorem GCs.shape {w : World} {base : Nat} {v : Value} {rs : List RCd} {cs : List GCd} (h : GCs w base v rs cs) : ∃ a c, v = .slice a cs.length c := by
  rw [← h.len]
  rcases h.row.2 with ⟨rfl, hn⟩ | ⟨g, cap, cur, rfl, _⟩
  · exact ⟨none, 0, by rw [hn]⟩
  · exact ⟨_, _, rfl⟩
theorem GFs.apart {w1 w2 : World} {base base' : Nat} {e : TypeId} {sz n : Nat} {xs : List Value} {v x : Value} {rs : List RFd} {fs : List GFd} (h : GFs w1 base v rs fs) (hx : w1.ownsRow base' e sz x n xs) (g : w1.grownBy w2 x.ownBlock) (h1 : 162 ≠ e) (h2 : 191 ≠ e) : GFs w2 base v rs fs :=
  ⟨World.ownsRow.kept h.row g (row_apart h.row hx h1), h.len, fun i r f h3 h4 => ⟨(h.el i r f h3 h4).l, (h.el i r f h3 h4).p, (h.el i r f h3 h4).k, (h.el i r f h3 h4).sp, (h.el i r f h3 h4).ex, World.ownsRow.kept (h.el i r f h3 h4).ts g (row_apart (h.el i r f h3 h4).ts hx h2)⟩⟩
theorem GCs.app {w1 w2 : World} {base : Nat} {v v' : Value} {rs : List RCd} {cs : List GCd} {r : RCd} {c : GCd} {o1 o2 : Obj} (V : GCs w1 base v rs cs) (F : CRel w1 base r c)
    (hown : w2.ownsRow base 156 5 v' (rs.length + 1) (flatD rs ++ rcdV r)) (hg : ((w1.alloc o1).alloc o2).grownBy w2 v.ownBlock) : GCs w2 base v' (rs ++ [r]) (cs ++ [c]) := by
  have hg1 : w1.grownBy w2 v.ownBlock := gb_trans (gb_trans (World.grownBy_alloc w1 o1 _) (World.grownBy_alloc _ o2 _)) hg
  have hk : ∀ r c, CRel w1 base r c → CRel w2 base r c := fun r c h => by
    obtain ⟨rs, hf⟩ := h.fs
    exact ⟨h.l, h.p, h.fl, h.fp, rs, hf.apart V.row hg1 (by decide) (by decide)⟩
  have hl := V.len
  refine ⟨by simpa [flatD] using hown, by simp [hl], fun i r' f' h1 h2 => ?_⟩
  rcases Nat.lt_or_ge i rs.length with hi | hi
  · rw [List.getElem?_append_left hi] at h1
    rw [List.getElem?_append_left (by omega)] at h2
    exact hk _ _ (V.el i r' f' h1 h2)
  · rw [List.getElem?_append_right hi] at h1
    rw [List.getElem?_append_right (by omega)] at h2
    have hi0 : i - rs.length = 0 := by
      have := (List.getElem?_eq_some_iff.1 h1).1; simp at this; omega
    have hj0 : i - cs.length = 0 := by omega
    rw [hi0] at h1; rw [hj0] at h2
    simp at h1 h2
    subst h1; subst h2
    exact hk _ _ F

theorem gb_below_drew (w : World) (n : Nat) : Below w.heap.size w (w.drewN n) := ⟨rfl, rfl, rfl, Nat.le_refl _, fun _ _ => rfl⟩
theorem Try.infoGClass : (Try.prog.info? 156).map (fun i => (i.zero, i.size, i.bytes)) = some (some (.agg #[.int .u8 0, .int .i64 0, .int .u8 0, .int .i64 0, .slice none 0 0]), 5, 56) := by kernel_rfl

structure GCSR where
  ok : Bool
  at_ : Nat
  cs : List GCd
def gcLoop (ru : ByteArray → Nat → RuleR) (fr : ByteArray → Nat → FromR) (s : ByteArray) : Nat → List GCd → Nat → GCSR
  | 0, _, k => ⟨false, k, []⟩
  | n + 1, cs, k =>
    if (gdClass ru fr s k).ok = false then ⟨false, (gdClass ru fr s k).at_, []⟩
    else if (gdClass ru fr s k).at_ = s.size then ⟨true, (gdClass ru fr s k).at_, cs ++ [(gdClass ru fr s k).c]⟩
    else gcLoop ru fr s n (cs ++ [(gdClass ru fr s k).c]) (gdClass ru fr s k).at_
def ClassesPost (R : GCSR) (w : World) (b : Nat) (s : ByteArray) (u : Bool) (e : Ending) (w' : World) : Prop := ∃ (a : Option Addr) (n c : Nat) (rs : List RCd),
  e = .returned (.tuple #[.slice a n c, .bool R.ok]) ∧ GCs w' w.heap.size (.slice a n c) rs R.cs ∧ RS w' b s R.at_ u ∧ w.grownBy w' (some b)

set_option maxHeartbeats 1000000 in
set_option maxRecDepth 20000 in
theorem gclasses_any {u : Bool} {ru : ByteArray → Nat → RuleR} {fr : ByteArray → Nat → FromR} (HRU : RuleC u ru) (HFR : FromC u fr) (s : ByteArray) (b k : Nat) (w : World) (h : RS w b s k u) :
    Calls Try.prog 91 #[.pointer (some ⟨b, 0, none⟩)] w (ClassesPost (gcLoop ru fr s 6 [] k) w b s u) := by
  obtain ⟨i0, hi, hz0, hz1, hz2⟩ := infoParts2 Try.infoGClass
  have hb := h.blt
  obtain ⟨R, hR⟩ : ∃ R, R = gcLoop ru fr s 6 [] k := ⟨_, rfl⟩
  rw [← hR]
  have HR : Hid (R = gcLoop ru fr s 6 [] k) := hR
  clear hR
  go_enter Try.func91, Try.ntmps91
  go_wp2
  go_loopg [4] 7 (fun gk v wr => ∃ cs rs k, gk = 7 - cs.length ∧ cs.length ≤ 6 ∧ R = gcLoop ru fr s (6 - cs.length) cs k ∧ RS wr b s k u ∧ GCs wr w.heap.size v rs cs ∧ w.grownBy wr (some b))
  case atStart => exact ⟨[], [], k, rfl, by decide, HR.out, h, GCs.nil _ _, World.grownBy.refl _ _⟩
  case round =>
    obtain ⟨cs, rs, k, hgk, hlen, hR', R0, V0, G0⟩ := hrel
    obtain ⟨ad, cp, rfl⟩ := V0.shape
    by_cases h6 : cs.length = 6
    · rw [h6, Nat.sub_self, gcLoop] at hR'
      subst hR'
      have h6' : 6 ≤ cs.length := by omega
      clear h6 hgk HR
      go_wp2
      go_ret2
      exact ⟨_, _, _, [], rfl, GCs.nil _ _, R0, G0⟩
    have Fc := gclass_any HRU HFR s b k wr R0
    obtain ⟨ok, a, c, hr⟩ : ∃ ok a c, gdClass ru fr s k = ⟨ok, a, c⟩ := ⟨_, _, _, rfl⟩
    obtain ⟨n', hn'⟩ : ∃ n', 6 - cs.length = n' + 1 := ⟨6 - cs.length - 1, by omega⟩
    rw [hn', gcLoop, hr] at hR'
    rw [hr] at Fc
    simp only [] at hR' Fc
    have hl6 : cs.length < 6 := by omega
    have hs0 := G0.size
    have HK : Hid (6 - cs.length = n' + 1 ∧ gk = 7 - cs.length) := ⟨hn', hgk⟩
    clear hgk HR hr hn' h6
    cases ok with
    | false =>
      rw [if_pos rfl] at hR'
      subst hR'
      go_wp2_with fail
      refine Fc.mono ?_
      rintro e w1 ⟨a1, n1, c1, rs1, rfl, F1, R1, g1⟩
      simp only [classV] at R1 F1 ⊢
      have G1 := gb_trans G0 g1
      clear Fc
      go_wp2
      go_ret2
      exact ⟨_, _, _, [], rfl, GCs.nil _ _, R1.alloc _, gb_alloc G1 _⟩
    | true =>
      rw [if_neg (by decide)] at hR'
      have HR : Hid (R = _) := hR'
      clear hR'
      go_wp2_with fail
      refine Fc.mono ?_
      rintro e w1 ⟨a1, n1, c1, rs1, rfl, F1', R1, g1⟩
      simp only [classV] at R1 F1' ⊢
      have V1 := V0.kept g1 hb
      have G1 := gb_trans G0 g1
      have hs1 := G1.size
      have hvl : rs.length = cs.length := V1.len
      have F1 : CRel w1 w.heap.size ⟨c.l, c.p, c.fl, c.fp, ⟨a1, n1, c1⟩⟩ c := ⟨rfl, rfl, rfl, rfl, rs1, F1'.mono hs0⟩
      clear Fc V0 F1' g1
      have V1r := V1.row
      rw [hvl] at V1r
      have HVL : Hid (rs.length = cs.length) := hvl
      clear hvl
      go_wp2_with (at_builtin; refine wpList_append_own _ rfl _ _ 123 rfl w.heap.size 156 i0 _ 5 56 Try.underlying123 hi hz0 hz1 hz2 rfl (by decide) _ cs.length (flatD rs) rfl ((V1r.alloc _).alloc _) ⟨w1.heap.size + 1, 0, none⟩ 1 1 (rcdV ⟨c.l, c.p, c.fl, c.fp, ⟨a1, n1, c1⟩⟩) rfl rfl ?c1 ?c2 ?c3 ?c4 ?c5 ?_)
      case c1 => exact cells_list _ _ _ _
      case c2 => intro y hy; simp [rcdV] at hy; rcases hy with rfl | rfl | rfl | rfl | rfl <;> rfl
      case c3 => unfold maxLen; omega
      case c4 => omega
      case c5 => simp; omega
      intro v' w2 hown hgr _
      rw [← HVL.out] at hown
      have V2 := V1.app F1 hown hgr
      obtain ⟨R2, G2⟩ := own_frame hb (Nat.le_refl _) R1 V1r G1 hgr
      obtain ⟨ad', cp', hv'⟩ := V2.shape
      have hl1 : (cs ++ [c]).length = cs.length + 1 := by simp
      rw [hl1] at hv'
      subst hv'
      clear hown hgr V1 V1r R1 F1 hl1 HVL
      obtain ⟨p0, p1, p2, _, q1, q3, ple, plt⟩ := id R2
      by_cases ha : a = s.size
      · have HR2 := HR.out
        rw [if_pos ha] at HR2
        subst HR2
        have ha' : ((a : Int) == (s.size : Int)) = true := by simp [ha]
        clear ha HR
        go_wp2
        go_quiet (fail)
        go_wp2
        go_ret2
        exact ⟨_, _, _, _, rfl, V2.below (gb_below_drew _ _), R2.drewN nq, gb_drew G2 nq⟩
      · have HR2 := HR.out
        rw [if_neg ha] at HR2
        have HR' : Hid (R = _) := HR2
        have ha' : ((a : Int) == (s.size : Int)) = false := by simp; omega
        clear ha HR HR2
        go_wp2
        go_quiet (fail)
        go_wp2
        go_roundg (n' + 1)
        case measure => have := HK.out; omega
        case rel =>
          have hk := HK.out
          refine ⟨cs ++ [c], _, a, by simp; omega, by simp; omega, ?_, R2.drewN nq, V2.below (gb_below_drew _ _), gb_drew G2 nq⟩
          have e : 6 - (cs ++ [c]).length = n' := by simp; omega
          rw [e]; exact HR'.out
end Go.Proofs.Ytbgilndohccicab
