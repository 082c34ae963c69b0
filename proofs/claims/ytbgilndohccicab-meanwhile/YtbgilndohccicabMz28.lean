import Derived.Test.YtbgilndohccicabMz27
import Derived.Test.YtbgilndohccicabMz22
import Derived.Test.YtbgilndohccicabMz02
import Derived.Test.YtbgilndohccicabMz16
namespace Go.Proofs.Ytbgilndohccicab
open Go.RowKit

def folR (cs : Sch) (r : DH) (root name : Int) (t : Nat) : DH := if (fref (ffind cs r.R r.K root name)).e = 0 then { r with R := set1 r.R t (r.C (ffind cs r.R r.K root name).n (ffind cs r.R r.K root name).i).toNat } else r
theorem fol_one {p : PH} {r : DH} (h : Sim csL p r) (hp : Pw p) (hw : Wf csL r) (root name : Int) (t : Nat) (ht : t < 8) : Sim csL (pfolD csL p root name t) (folR csL r root name t) ∧ Pw (pfolD csL p root name t) ∧ Wf csL (folR csL r root name t) ∧ (frf (ffind csL p.R p.K root name) t).e = (fref (ffind csL r.R r.K root name)).e := by
  have e := ref_meet h root name
  have ef := frf_ok (ffind csL p.R p.K root name) ht
  refine ⟨?_, pfol_pw hp root name t, ?_, by rw [ef, e]⟩
  · unfold pfolD folR
    by_cases h0 : (fref (ffind csL p.R p.K root name)).e = 0
    · rw [if_pos (by rw [ef]; exact h0), if_pos (e.symm.trans h0), Int.toNat_natCast]
      exact follow_meet h root name t h0
    · rw [if_neg (by rw [ef]; exact h0), if_neg (fun hh => h0 (e.trans hh))]
      exact h
  · unfold folR
    split
    · rename_i h0
      obtain ⟨b1, b2, _⟩ := fref_e0 h0
      obtain ⟨n, _, hn, hn0, i, _, hi, eb⟩ := ffind_at b1
      obtain ⟨f, hf, hk⟩ := ffind_fld b1
      have hrn := hw.root n hn
      have hb1 : 0 < (ffind csL r.R r.K root name).n ∧ (ffind csL r.R r.K root name).n ≤ r.n := by rw [eb]; simp only []; omega
      have hr := hw.ref _ hb1.1 hb1.2 _ f hf (by rw [hk]; exact b2)
      exact hw.setRoot t _ (by omega)
    · exact hw
theorem HK.fol {w w' : World} {lo hi hb : Nat} {sv : SV} {vs : List (Int × SV)} {sz : Int} {p p' : PH} {r r' : DH} (h : HK w lo hi hb sv vs sz p r) (hp : HP w' hb sv sz p'.R p'.K p'.N p'.F) (g : w.grownBy w' (some hb)) (pw : Pw p') (sim : Sim csL p' r') (wf : Wf csL r') : HK w' lo hi hb sv vs sz p' r' :=
  ⟨hp, h.cl.keep fun k _ hk => g.block k (by have := h.hp.lt; have := h.b2; omega) (fun e => by injection e with e; have := h.b2; omega), h.b2, h.b3, pw, sim, wf⟩
theorem HK.other {w w' : World} {lo hi hb b : Nat} {sv : SV} {vs : List (Int × SV)} {sz : Int} {p : PH} {r : DH} (h : HK w lo hi hb sv vs sz p r) (g : w.grownBy w' (some b)) (hb' : b < lo ∨ hb < b) : HK w' lo hi hb sv vs sz p r :=
  ⟨h.hp.kept (g.block hb h.hp.lt (fun e => by injection e with e; have := h.b2; have := h.b3; omega)), h.cl.keep fun k hk1 hk => g.block k (by have := h.hp.lt; have := h.b2; omega) (fun e => by injection e with e; have := h.b2; omega), h.b2, h.b3, h.pw, h.sim, h.wf⟩
/-- Two heaps beside one, and what has been kept. -/
def TS (P : Nat → Prop) (lo hi hb lo' hi' hb' : Nat) (sv sv' : SV) (vs vs' : List (Int × SV)) (sz : Int) (w w' : World) : Prop := Prot P w w' ∧ ∃ p q r, HK w' lo hi hb sv vs sz p r ∧ HK w' lo' hi' hb' sv' vs' sz q r
set_option maxRecDepth 20000 in
set_option maxHeartbeats 2000000 in
theorem trail_any {P : Nat → Prop} {w : World} {lo hi hb lo' hi' hb' : Nat} {sv sv' : SV} {vs vs' : List (Int × SV)} {sz : Int} {p q : PH} {r : DH} (h : HK w lo hi hb sv vs sz p r) (k : HK w lo' hi' hb' sv' vs' sz q r) (hlt : hb < lo') (n1 : ¬ P hb) (n2 : ¬ P hb') (pl : ∀ k, P k → k < w.heap.size) :
    Calls Try.prog 26 #[.pointer (some ⟨hb, 0, none⟩), .pointer (some ⟨hb', 0, none⟩)] w fun e w' => e = .returned (.bool true) ∧ Prot P w w' := by
  have HG : Hid (TS P lo hi hb lo' hi' hb' sv sv' vs vs' sz w w) := ⟨Prot.refl _ _, p, q, r, h, k⟩
  have HP0 : Hid (hb < lo' ∧ ¬ P hb ∧ ¬ P hb' ∧ (∀ k, P k → k < w.heap.size) ∧ lo' ≤ hb') := ⟨hlt, n1, n2, pl, Nat.le_trans k.b3 k.b2⟩
  clear h k n1 n2 pl hlt
  go_enter Try.func26, Try.ntmps26
  go_wp2
  go_loopw [5] (fun iv wr => ∃ i : Nat, i ≤ 7 ∧ iv = .int .i64 i ∧ Hid (TS P lo hi hb lo' hi' hb' sv sv' vs vs' sz w wr)) (fun iv _ => 7 - (intOf iv).toNat)
  case atStart => exact ⟨0, by omega, rfl, HG.out⟩
  case round =>
    clear HG
    obtain ⟨i, hi7, rfl, HG⟩ := hrel
    by_cases hlt : i < 7
    · have e7 : decide ((i : Int) + 1 < 8) = true := by simp; omega
      go_wp2
      go_loopw [6] (fun kv wq => ∃ k : Nat, k ≤ 2 ∧ kv = .int .i64 k ∧ Hid (TS P lo hi hb lo' hi' hb' sv sv' vs vs' sz w wq)) (fun kv _ => 2 - (intOf kv).toNat)
      case atStart => exact ⟨0, by omega, rfl, HG.out⟩
      case round =>
        clear HG
        obtain ⟨k, hk, rfl, HG⟩ := hrel
        by_cases hk2 : k < 2
        · rename World => wo
          obtain ⟨B1, p, q, r, h1, h2⟩ := HG.out
          have hsz : k < ({ data := #[97, 98] } : ByteArray).size := hk2
          obtain ⟨f, ef⟩ : ∃ f : Int, (((({ data := #[97, 98] } : ByteArray)[k]'hsz).toNat : Nat) : Int) = f := ⟨_, rfl⟩
          have HEF : Hid ((((({ data := #[97, 98] } : ByteArray)[k]'hsz).toNat : Nat) : Int) = f) := ef
          obtain ⟨s1, s2, s3, s4⟩ := fol_one h1.sim h1.pw h1.wf i f 7 (by omega)
          obtain ⟨t1, t2, _, t4⟩ := fol_one h2.sim h2.pw h2.wf i f 7 (by omega)
          have C1 := pfollow_any hb sv sz p lo vs csL wo h1.hp h1.cl.cls h1.pw csL_6 i f (7 : Nat)
          have C2 := fun W (hW : HK W lo' hi' hb' sv' vs' sz q r) => pfollow_any hb' sv' sz q lo' vs' csL W hW.hp hW.cl.cls hW.pw csL_6 i f (7 : Nat)
          unfold POp at C1 C2
          rw [s4] at C1
          rw [t4] at C2
          generalize (fref (ffind csL r.R r.K i f)).e = y at C1 C2
          have HQ : Hid (Sim csL (pfolD csL p i f (7 : Nat)) (folR csL r i f 7) ∧ Pw (pfolD csL p i f (7 : Nat)) ∧ Wf csL (folR csL r i f 7) ∧ Sim csL (pfolD csL q i f (7 : Nat)) (folR csL r i f 7) ∧ Pw (pfolD csL q i f (7 : Nat))) := ⟨s1, s2, s3, t1, t2⟩
          have HA : Hid (HK wo lo hi hb sv vs sz p r ∧ HK wo lo' hi' hb' sv' vs' sz q r ∧ Prot P w wo) := ⟨h1, h2, B1⟩
          clear ef h1 h2 B1 s1 s2 s3 s4 t1 t2 t4 HG
          go_wp2_with fail
          rw [HEF.out]
          refine C1.mono ?_
          rintro e w1 ⟨rfl, hp1, g1⟩
          have k1 := HA.out.1.fol hp1 g1 HQ.out.2.1 HQ.out.1 HQ.out.2.2.1
          have k2 := HA.out.2.1.other g1 (.inl HP0.out.1)
          have P1 : Prot P w w1 := HA.out.2.2.trans (Prot.gb (HA.out.2.2.lt HP0.out.2.2.2.1) g1 (fun b e => by injection e with e; subst e; exact HP0.out.2.1))
          have C3 := C2 _ k2
          have HB1 : Hid (HK w1 lo hi hb sv vs sz (pfolD csL p i f (7 : Nat)) (folR csL r i f 7) ∧ HK w1 lo' hi' hb' sv' vs' sz q r ∧ Prot P w w1) := ⟨k1, k2, P1⟩
          clear C1 C2 hp1 g1 k1 k2 P1 HA
          go_wp2_with fail
          rw [HEF.out]
          refine C3.mono ?_
          rintro e w2 ⟨rfl, hp2, g2⟩
          have k2 := HB1.out.2.1.fol hp2 g2 HQ.out.2.2.2.2 HQ.out.2.2.2.1 HQ.out.2.2.1
          have k1 := HB1.out.1.other g2 (.inr (by have := HP0.out.1; have := HP0.out.2.2.2.2; omega))
          have P2 : Prot P w w2 := HB1.out.2.2.trans (Prot.gb (HB1.out.2.2.lt HP0.out.2.2.2.1) g2 (fun b e => by injection e with e; subst e; exact HP0.out.2.2.1))
          have C4 := alike_any k1 k2
          have HB2 : Hid (HK w2 lo hi hb sv vs sz (pfolD csL p i f (7 : Nat)) (folR csL r i f 7) ∧ HK w2 lo' hi' hb' sv' vs' sz (pfolD csL q i f (7 : Nat)) (folR csL r i f 7) ∧ Prot P w w2) := ⟨k1, k2, P2⟩
          clear C3 hp2 g2 k1 k2 P2 HB1
          go_wp2_with fail
          refine C4.mono ?_
          rintro e w3 ⟨rfl, B3⟩
          have HG3 : Hid (TS P lo hi hb lo' hi' hb' sv sv' vs vs' sz w w3) := ⟨HB2.out.2.2.trans (Prot.of (HB2.out.2.2.lt HP0.out.2.2.2.1) B3), _, _, _, HB2.out.1.below B3, HB2.out.2.1.below B3⟩
          clear C4 B3 HB2
          go_wp2
          exact ⟨⟨k + 1, by omega, rfl, HG3.out⟩, by simp [intOf]; omega⟩
        · obtain rfl : k = 2 := by omega
          go_wp2
          exact ⟨⟨i + 1, by omega, rfl, HG.out⟩, by simp [intOf]; omega⟩
    · obtain rfl : i = 7 := by omega
      go_wp2
      go_ret
      exact ⟨rfl, HG.out.1⟩
end Go.Proofs.Ytbgilndohccicab
namespace Go.Proofs.Ytbgilndohccicab
open Go.RowKit

theorem below_gbN {w w' : World} (g : w.grownBy w' none) : Below w.heap.size w w' := ⟨g.os, g.tape, g.output, g.size, fun k hk => g.block k hk (by simp)⟩
set_option maxHeartbeats 600000 in
theorem here_any (s : ByteArray) (b k : Nat) (u : Bool) (w : World) (h : RS w b s k u) :
    Calls Try.prog 113 #[.pointer (some ⟨b, 0, none⟩)] w fun e w' =>
      e = .returned (.agg #[.int .u8 (nextB s k), .int .i64 0, .int .i64 k]) ∧ Below w.heap.size w w' := by
  have hb := h.blt
  have R0 : RS (w.alloc (.cells #[.int .u8 0, .int .i64 0, .int .i64 0] 191)) b s k u := h.alloc _
  obtain ⟨c0, c1, c2, _, f1, f3, le, lt⟩ := id h
  go_enter Try.func113, Try.ntmps113
  go_wp2
  go_region_with (go_at_call 107; refine (next_rs (s := s) (b := b) (k := k) (u := u) (by with_reducible repeat first | exact R0 | apply RS.drew | apply RS.alloc | apply RS.drewN)).mono ?_; rintro e w' ⟨rfl, n, rfl⟩)
  all_goals
    go_wp2_with fail
    refine bodyPost_ret (v := .agg #[.int .u8 (nextB s k), .int .i64 0, .int .i64 k]) (by simp [results, Try.results113, go_sem]) rfl ⟨rfl, below_gbN ?_⟩
    with_reducible repeat first | exact World.grownBy.refl _ _ | apply gb_drew | apply gb_drew1 | apply gb_alloc | (refine gb_setNew ?_ (by omega) _)
set_option maxHeartbeats 400000 in
theorem isLetter_any (x y z : Int) (w : World) :
    Calls Try.prog 98 #[.agg #[.int .u8 x, .int .i64 y, .int .i64 z]] w fun e w' => e = .returned (.bool (decide (97 ≤ x) && decide (x ≤ 122))) ∧ Below w.heap.size w w' := by
  go_enter Try.func98, Try.ntmps98
  go_wp2_with fail
  refine (isIn_any x 97 122 _).mono ?_
  rintro e w' ⟨rfl, rfl⟩
  go_wp2
  go_ret
  exact ⟨rfl, (Below.refl _ _).alloc (Nat.le_refl _) _⟩
end Go.Proofs.Ytbgilndohccicab
namespace Go.Proofs.Ytbgilndohccicab
open Go.RowKit

/-- A field's kind, by its letter. -/
def kdF (fs : List (Int × Int)) (x : Int) : Int × Bool := if idxF fs x < 0 then (0, false) else ((fs[(idxF fs x).toNat]?.getD (0, 0)).2, true)
theorem idxF_ltU (fs : List (Int × Int)) (x : Int) : idxF fs x < fs.length := by
  unfold idxF
  cases h : fs.findIdx? (fun p => p.1 == x) with
  | none => simp only []; omega
  | some i =>
    rw [List.findIdx?_eq_some_iff_getElem] at h
    obtain ⟨hi, _⟩ := h
    simp only []; omega
set_option maxHeartbeats 400000 in
theorem kindOf_any (L x : Int) (a : Option Addr) (n c : Nat) (fs : List (Int × Int)) (w : World) (h : FV w (.slice a n c) fs) :
    Calls Try.prog 97 #[.agg #[.int .u8 L, .slice a n c], .int .u8 x] w fun e w' => e = .returned (.tuple #[.int .u8 (kdF fs x).1, .bool (kdF fs x).2]) ∧ Below w.heap.size w w' := by
  have hlt := idxF_ltU fs x
  have C := index_any L x (.slice a n c) fs (w.alloc (.cells #[.int .u8 L, .slice a n c] 88)) (h.alloc _)
  unfold kdF
  by_cases h0 : idxF fs x < 0
  · rw [if_pos h0]
    obtain ⟨i, hi⟩ : ∃ i, i = idxF fs x := ⟨_, rfl⟩
    rw [← hi] at C h0
    clear hi hlt
    go_enter Try.func97, Try.ntmps97
    go_wp2_with fail
    refine C.mono ?_
    rintro e w1 ⟨rfl, B1⟩
    have m1 : w1.cell? ⟨w.heap.size, 1, none⟩ = some (.slice a n c) := (B1.cell (p := ⟨w.heap.size, 1, none⟩) (by simp)).trans (by go_simp)
    go_wp2
    go_ret2
    exact ⟨rfl, ((Below.refl _ _).alloc (Nat.le_refl _) _).trans (B1.mono (by simp))⟩
  · rw [if_neg h0]
    obtain ⟨i, hi⟩ : ∃ i : Nat, (i : Int) = idxF fs x := ⟨(idxF fs x).toNat, by omega⟩
    rw [← hi] at C hlt ⊢
    have hin : i < fs.length := by omega
    rw [Int.toNat_natCast]
    rcases h.shape with ⟨e, rfl⟩ | ⟨g, cap, e, hg, hm, hc⟩
    · simp at hin
    cases e
    have hc1 := (hc i hin).2
    have hm' : fs.length ≤ 9223372036854775807 := by unfold maxLen at hm; omega
    generalize (fs[i]?.getD (0, 0)).2 = kd at hc1 ⊢
    generalize fs.length = m at *
    clear hi h0 hc h
    go_enter Try.func97, Try.ntmps97
    go_wp2_with fail
    refine C.mono ?_
    rintro e w1 ⟨rfl, B1⟩
    have m1 : w1.cell? ⟨w.heap.size, 1, none⟩ = some (.slice (some ⟨g, 0, none⟩) m c) := (B1.cell (p := ⟨w.heap.size, 1, none⟩) (by simp)).trans (by go_simp)
    have m2 : w1.cell? ⟨g, i * 2 + 1, none⟩ = some (.int .u8 kd) := (B1.cell (p := ⟨g, i * 2 + 1, none⟩) (by simp; omega)).trans (by go_simp)
    go_wp2
    go_ret2
    exact ⟨rfl, ((Below.refl _ _).alloc (Nat.le_refl _) _).trans (B1.mono (by simp))⟩
theorem kindOf_rs {L x : Int} {a : Option Addr} {n c : Nat} {fs : List (Int × Int)} {w : World} (h : FV w (.slice a n c) fs) (y : Int) (z : Bool) (hy : kdF fs x = (y, z)) :
    Calls Try.prog 97 #[.agg #[.int .u8 L, .slice a n c], .int .u8 x] w fun e w' => e = .returned (.tuple #[.int .u8 y, .bool z]) ∧ Below w.heap.size w w' := by
  have := kindOf_any L x a n c fs w h
  rw [hy] at this; exact this
set_option maxHeartbeats 400000 in
theorem isZero_any (x y z : Int) (w : World) :
    Calls Try.prog 99 #[.agg #[.int .u8 x, .int .i64 y, .int .i64 z]] w fun e w' => e = .returned (.bool (decide (x = 48) && decide (y = 0))) ∧ Below w.heap.size w w' := by
  by_cases h : x = 48
  · have h1 : (x == 48) = true := by simpa using h
    by_cases h2 : y = 0
    · have h3 : (y == 0) = true := by simpa using h2
      rw [decide_eq_true h, decide_eq_true h2]
      clear h h2
      go_enter Try.func99, Try.ntmps99
      go_wp2
      go_ret
      exact ⟨rfl, (Below.refl _ _).alloc (Nat.le_refl _) _⟩
    · have h3 : (y == 0) = false := by simpa using h2
      rw [decide_eq_true h, decide_eq_false h2]
      clear h h2
      go_enter Try.func99, Try.ntmps99
      go_wp2
      go_ret
      exact ⟨rfl, (Below.refl _ _).alloc (Nat.le_refl _) _⟩
  · have h1 : (x == 48) = false := by simpa using h
    rw [decide_eq_false h]
    clear h
    go_enter Try.func99, Try.ntmps99
    go_wp2
    go_ret
    exact ⟨rfl, (Below.refl _ _).alloc (Nat.le_refl _) _⟩
def tV (t : GT) : List Value := [.int .u8 t.w, .int .i64 t.v, .int .i64 t.p]
theorem flatT_map (ts : List GT) : flatT ts = ts.flatMap tV := by
  induction ts with
  | nil => rfl
  | cons t r ih => simp only [flatT, ih, List.flatMap_cons, tV, List.cons_append, List.nil_append]
def zT : GT := ⟨0, 0, 0⟩
structure TCell (w : World) (g i : Nat) (t : GT) : Prop where
  c0 : w.cell? ⟨g, i * 3, none⟩ = some (.int .u8 t.w)
  c1 : w.cell? ⟨g, i * 3 + 1, none⟩ = some (.int .i64 t.v)
  c2 : w.cell? ⟨g, i * 3 + 2, none⟩ = some (.int .i64 t.p)
theorem TCell.below {w w' : World} {B g i : Nat} {t : GT} (h : TCell w g i t) (hb : Below B w w') (hg : g < B) : TCell w' g i t :=
  ⟨(hb.cell (p := ⟨g, _, none⟩) hg).trans h.c0, (hb.cell (p := ⟨g, _, none⟩) hg).trans h.c1, (hb.cell (p := ⟨g, _, none⟩) hg).trans h.c2⟩
theorem TVb.cells {w : World} {base : Nat} {v : Value} {ts : List GT} (h : TVb w base v ts) : (v = .slice none 0 0 ∧ ts = []) ∨ ∃ g cap, v = .slice (some ⟨g, 0, none⟩) ts.length cap ∧ g < w.heap.size ∧ ts.length ≤ maxLen ∧ ∀ i, i < ts.length → TCell w g i (ts[i]?.getD zT) := by
  have h' := h
  unfold TVb at h'
  rw [flatT_map] at h'
  rcases h.2 with ⟨rfl, hn⟩ | ⟨g, cap, cur, rfl, _, hg, h1, h2, _⟩
  · exact .inl ⟨rfl, List.length_eq_zero_iff.1 hn⟩
  · refine .inr ⟨g, cap, rfl, ?_, by omega, fun i hi => ?_⟩
    · exact (World.ownsRow.lt h' g rfl).2
    · have hx := getD_of hi zT
      exact ⟨by simpa using row_cell h' (fun _ => rfl) (j := 0) hx rfl, row_cell h' (fun _ => rfl) (j := 1) hx rfl, row_cell h' (fun _ => rfl) (j := 2) hx rfl⟩
end Go.Proofs.Ytbgilndohccicab
namespace Go.Proofs.Ytbgilndohccicab
open Go.RowKit

def isLw (x : Int) : Bool := decide (97 ≤ x) && decide (x ≤ 122)
/-- faultOfNumber: the error and its place. -/
def fNum (fs : List (Int × Int)) : List GT → Int × Int
  | [] => (0, 0)
  | t :: r => if isLw t.w = true then (if (kdF fs t.w).2 = false then (5, t.p) else if (kdF fs t.w).1 = 114 then (6, t.p) else fNum fs r) else fNum fs r
def FN2 (R : Int × Int) (w : World) (e : Ending) (w' : World) : Prop := e = .returned (.tuple #[.int .i64 R.1, .int .i64 R.2]) ∧ Below w.heap.size w w'
theorem isLetter_rs {x y z : Int} {w : World} (q : Bool) (hq : isLw x = q) :
    Calls Try.prog 98 #[.agg #[.int .u8 x, .int .i64 y, .int .i64 z]] w fun e w' => e = .returned (.bool q) ∧ Below w.heap.size w w' := by
  subst hq; exact isLetter_any x y z w
set_option maxHeartbeats 400000 in
theorem fNum_nil (L : Int) (a : Option Addr) (n c : Nat) (fs : List (Int × Int)) (sp : Int) (ex : Bool) (w : World) :
    Calls Try.prog 94 #[.agg #[.int .u8 L, .slice a n c], .agg #[.slice none 0 0, .int .i64 sp, .bool ex]] w (FN2 (fNum fs []) w) := by
  go_enter Try.func94, Try.ntmps94
  go_wp2
  refine wp_loop_rounds 1 ?_; rw [rounds_succ]
  go_wp2
  go_ret2
  exact ⟨rfl, ((Below.refl _ _).alloc (Nat.le_refl _) _).alloc (by simp) _⟩
set_option maxHeartbeats 1000000 in
set_option maxRecDepth 20000 in
theorem fNum_row (L : Int) (a : Option Addr) (n c : Nat) (fs : List (Int × Int)) (g cap m : Nat) (ts : List GT) (sp : Int) (ex : Bool) (w : World) (hV : FV w (.slice a n c) fs) (hm : m = ts.length) (hmx : m ≤ 9223372036854775807) (hg : g < w.heap.size)
    (hc : ∀ i, i < m → TCell w g i (ts[i]?.getD zT)) :
    Calls Try.prog 94 #[.agg #[.int .u8 L, .slice a n c], .agg #[.slice (some ⟨g, 0, none⟩) m cap, .int .i64 sp, .bool ex]] w (FN2 (fNum fs ts) w) := by
  obtain ⟨R, hR⟩ : ∃ R, R = fNum fs ts := ⟨_, rfl⟩
  rw [← hR]
  have HR : Hid (R = fNum fs ts) := hR
  have HM : Hid (m = ts.length) := hm
  have HV : Hid (FV w (.slice a n c) fs) := hV
  have HC : Hid (∀ i, i < m → TCell w g i (ts[i]?.getD zT)) := hc
  obtain ⟨W, hW⟩ : ∃ W, W = (w.alloc (.cells #[.int .u8 L, .slice a n c] 88)).alloc (.cells #[.slice (some ⟨g, 0, none⟩) m cap, .int .i64 sp, .bool ex] 160) := ⟨_, rfl⟩
  have B0 : Below w.heap.size w W := by rw [hW]; exact ((Below.refl _ _).alloc (Nat.le_refl _) _).alloc (by simp) _
  have z0 : W.heap.size = w.heap.size + 2 := by rw [hW]; simp
  have y0 : W.cell? ⟨w.heap.size, 0, none⟩ = some (.int .u8 L) := by rw [hW]; go_simp
  have y1 : W.cell? ⟨w.heap.size, 1, none⟩ = some (.slice a n c) := by rw [hW]; go_simp
  have HB0 : Hid (Below w.heap.size w W) := B0
  clear hR hm hV hc B0
  go_enter Try.func94, Try.ntmps94
  go_wp2
  rw [← hW]
  clear hW
  go_loopw [13] (fun i wr => ∃ k : Nat, k ≤ m ∧ i = .int .i64 k ∧ R = fNum fs (ts.drop k) ∧ Below W.heap.size W wr) (fun i _ => m - (intOf i).toNat)
  case atStart => exact ⟨0, Nat.zero_le _, rfl, HR.out, Below.refl _ _⟩
  case round =>
    obtain ⟨k, hk, rfl, hr, hb⟩ := hrel
    have hsz := hb.size
    have Y0 : wr.cell? ⟨w.heap.size, 0, none⟩ = some (.int .u8 L) := (hb.cell (p := ⟨w.heap.size, 0, none⟩) (by show w.heap.size < _; omega)).trans y0
    have Y1 : wr.cell? ⟨w.heap.size, 1, none⟩ = some (.slice a n c) := (hb.cell (p := ⟨w.heap.size, 1, none⟩) (by show w.heap.size < _; omega)).trans y1
    have BW : Below w.heap.size w wr := HB0.out.trans (hb.mono (by omega))
    have hwr : w.heap.size < wr.heap.size := by omega
    by_cases hlt : k < m
    · obtain ⟨t, ht⟩ : ∃ t, t = ts[k]?.getD zT := ⟨_, rfl⟩
      have htk : ts[k]? = some t := by rw [ht]; exact getD_of (by rw [← HM.out]; exact hlt) zT
      obtain ⟨x0, x1, x2⟩ := (HC.out k hlt).below BW hg
      rw [← ht] at x0 x1 x2
      have hgr : g < wr.heap.size := by omega
      rw [drop_cons htk, fNum] at hr
      have HR1 : Hid (R = (if isLw t.w = true then (if (kdF fs t.w).2 = false then (5, t.p) else if (kdF fs t.w).1 = 114 then (6, t.p) else fNum fs (ts.drop (k + 1))) else fNum fs (ts.drop (k + 1)))) := hr
      clear ht htk hr
      cases hl : isLw t.w with
      | false =>
        have HR2 : Hid (R = fNum fs (ts.drop (k + 1))) := by show R = _; rw [HR1.out, if_neg (by rw [hl]; decide)]
        go_wp2_with fail
        refine (isLetter_rs false hl).mono ?_
        rintro e w1 ⟨rfl, B1⟩
        go_wp2
        go_roundw
        case rel => exact ⟨k + 1, by omega, by go_num, HR2.out, (hb.alloc hsz _).trans (B1.mono (by simp; omega))⟩
        case measure => simp [intOf]; omega
      | true =>
        obtain ⟨kd, kn, hkd⟩ : ∃ kd kn, kdF fs t.w = (kd, kn) := ⟨_, _, rfl⟩
        go_wp2_with fail
        refine (isLetter_rs true hl).mono ?_
        rintro e w1 ⟨rfl, B1⟩
        have B2 : Below W.heap.size W w1 := (hb.alloc hsz _).trans (B1.mono (by simp; omega))
        have B3 : Below w.heap.size w w1 := HB0.out.trans (B2.mono (by omega))
        have s1 : wr.heap.size < w1.heap.size := by have := B1.size; simp at this; omega
        have Y2 : w1.cell? ⟨w.heap.size, 0, none⟩ = some (.int .u8 L) := (B2.cell (p := ⟨w.heap.size, 0, none⟩) (by show w.heap.size < _; omega)).trans y0
        have Y3 : w1.cell? ⟨w.heap.size, 1, none⟩ = some (.slice a n c) := (B2.cell (p := ⟨w.heap.size, 1, none⟩) (by show w.heap.size < _; omega)).trans y1
        have q0 : w1.cell? ⟨wr.heap.size, 0, none⟩ = some (.int .u8 t.w) := (B1.cell (p := ⟨wr.heap.size, 0, none⟩) (by simp)).trans (by go_simp)
        have q2 : w1.cell? ⟨wr.heap.size, 2, none⟩ = some (.int .i64 t.p) := (B1.cell (p := ⟨wr.heap.size, 2, none⟩) (by simp)).trans (by go_simp)
        have KK := kindOf_rs (L := L) (x := t.w) (HV.out.below B3) kd kn hkd
        clear Y0 Y1 x0 x1 x2 B1
        go_wp2_with fail
        refine KK.mono ?_
        rintro e w2 ⟨rfl, B4⟩
        have B5 : Below W.heap.size W w2 := B2.trans (B4.mono B2.size)
        have B6 : Below w.heap.size w w2 := B3.trans (B4.mono B3.size)
        have r2 : w2.cell? ⟨wr.heap.size, 2, none⟩ = some (.int .i64 t.p) := (B4.cell (p := ⟨wr.heap.size, 2, none⟩) s1).trans q2
        clear Y2 Y3 q0 q2 KK B4
        cases kn with
        | false =>
          have HR2 : Hid (R = (5, t.p)) := by show R = _; rw [HR1.out, if_pos hl, if_pos (by rw [hkd])]
          go_wp2
          go_quiet (fail)
          go_wp2
          go_ret2
          rw [HR2.out]
          exact ⟨rfl, B6.trans ((gb_below_drew _ _).mono B6.size)⟩
        | true =>
          by_cases h114 : kd = 114
          · have HR2 : Hid (R = (6, t.p)) := by show R = _; rw [HR1.out, if_pos hl, if_neg (by rw [hkd]; simp), if_pos (by rw [hkd]; exact h114)]
            have e1 : (kd == 114) = true := by simpa using h114
            clear h114
            go_wp2
            go_quiet (fail)
            go_wp2
            go_ret2
            rw [HR2.out]
            exact ⟨rfl, B6.trans ((gb_below_drew _ _).mono B6.size)⟩
          · have HR2 : Hid (R = fNum fs (ts.drop (k + 1))) := by show R = _; rw [HR1.out, if_pos hl, if_neg (by rw [hkd]; simp), if_neg (by rw [hkd]; exact h114)]
            have e1 : (kd == 114) = false := by simpa using h114
            clear h114
            go_wp2
            go_roundw
            case rel => exact ⟨k + 1, by omega, by go_num, HR2.out, B5⟩
            case measure => simp [intOf]; omega
    · have HR2 : Hid (R = (0, 0)) := by
        show R = _
        rw [hr, List.drop_eq_nil_of_le (by rw [← HM.out]; omega)]; rfl
      go_wp2
      go_ret2
      rw [HR2.out]
      exact ⟨rfl, BW⟩
theorem faultOfNumber_any (L : Int) (a : Option Addr) (n c : Nat) (fs : List (Int × Int)) (ta : Option Addr) (tn tc : Nat) (base : Nat) (ts : List GT) (sp : Int) (ex : Bool) (w : World) (hV : FV w (.slice a n c) fs) (hT : TVb w base (.slice ta tn tc) ts) :
    Calls Try.prog 94 #[.agg #[.int .u8 L, .slice a n c], .agg #[.slice ta tn tc, .int .i64 sp, .bool ex]] w (FN2 (fNum fs ts) w) := by
  rcases hT.cells with ⟨e, rfl⟩ | ⟨g, cap, e, hg, hm, hc⟩
  · cases e; exact fNum_nil L a n c fs sp ex w
  · cases e; exact fNum_row L a n c fs g _ _ ts sp ex w hV rfl (by unfold maxLen at hm; omega) hg hc
end Go.Proofs.Ytbgilndohccicab
