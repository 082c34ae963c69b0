import Derived.Test.YthckelcjncnalaaLj6
namespace Go.Proofs.Ythckelcjncnalaa
open Go.RowKit

def lS : ByteArray := ⟨#[78, 123, 118, 58, 108, 44, 97, 58, 114, 44, 98, 58, 114, 125, 81, 123, 118, 58, 119, 44, 97, 58, 114, 125]⟩
set_option maxRecDepth 100000 in
theorem lS_ok : readE lS = 0 := by kernel_rfl
set_option maxRecDepth 100000 in
theorem lS_cs : readC lS = csL := by kernel_rfl
theorem lS_new {sz : Int} (h1 : 1 ≤ sz) (h2 : sz ≤ 200) : newE lS sz = 0 := by
  unfold newE; rw [lS_ok, if_neg (by decide), if_neg (by omega)]
theorem lS_zero : newE lS 0 = 7 := by
  unfold newE; rw [lS_ok, if_neg (by decide), if_pos (by omega)]
def pL0 : PH := ⟨fun _ => 0, fun _ => 0, fun _ _ => 0, fun _ _ => 0⟩
def gL0 : GG := ⟨fun _ => -1, fun _ => 78, fun _ => 0, fun _ => -1, fun _ => -1, 0⟩
theorem gL0_w : GW gL0 := ⟨fun i _ => by show -1 ≤ (-1 : Int) ∧ (-1 : Int) < (0 : Nat); omega, fun i h => absurd h (Nat.not_lt_zero i), fun i h => absurd h (Nat.not_lt_zero i), fun i h => absurd h (Nat.not_lt_zero i), fun i h => absurd h (Nat.not_lt_zero i)⟩
theorem newL (sz : Int) (h1 : 1 ≤ sz) (h2 : sz ≤ 200) (w : World) : Calls Try.prog 15 #[.string lS, .int .i64 sz] w fun e w' => Below w.heap.size w w' ∧ ∃ hi hb sv vs, e = .returned (.tuple #[.pointer (some ⟨hb, 0, none⟩), .int .i64 0]) ∧ w.heap.size ≤ hi ∧ hi ≤ hb ∧ HP w' hb sv sz pL0.R pL0.K pL0.N pL0.F ∧ ClsIn w' w.heap.size hi (.slice sv.a sv.n sv.c) vs csL := by
  have PN := pnew_any lS sz w (by decide)
  unfold PNPost at PN
  rw [lS_cs] at PN
  refine PN.mono ?_
  rintro e w' ⟨B, h⟩
  rcases h with ⟨h, _⟩ | ⟨_, h⟩
  · exact absurd (lS_new h1 h2) h
  · exact ⟨B, h⟩
theorem newL0 (w : World) : Calls Try.prog 15 #[.string lS, .int .i64 0] w fun e w' => e = .returned (.tuple #[.pointer none, .int .i64 7]) ∧ Below w.heap.size w w' := by
  have PN := pnew_any lS 0 w (by decide)
  unfold PNPost at PN
  refine PN.mono ?_
  rintro e w' ⟨B, h⟩
  rw [lS_zero] at h
  rcases h with ⟨_, h⟩ | ⟨h, _⟩
  · exact ⟨h, B⟩
  · exact absurd h (by decide)
theorem Try.infoGraph : (Try.prog.info? 49).map (fun i => (i.zero, i.size)) = some (some (.agg #[.pointer none, .int .i64 0, .slice none 0 0, .int .i64 0, .int .i64 0, .int .i64 0, .int .i64 0, .int .i64 0, .int .i64 0, .int .i64 0, .int .i64 0, .int .u8 0]), 12) := by kernel_rfl
theorem gp_begin {w : World} {gb hb : Nat} {sz : Int} (hg : w.heap[gb]? = some (.cells #[.pointer none, .int .i64 sz, .slice none 0 0, .int .i64 0, .int .i64 0, .int .i64 0, .int .i64 0, .int .i64 0, .int .i64 0, .int .i64 0, .int .i64 0, .int .u8 78] 49)) : GP (w.setCell ⟨gb, 0, none⟩ (.pointer (some ⟨hb, 0, none⟩))) gb hb sz (.slice none 0 0) (fun _ => 0) := by
  have c := fun o => cell_of_row w gb o _ _ _ hg
  have hl : gb < w.heap.size := (Array.getElem?_eq_some_iff.1 hg).1
  refine ⟨?_, by rw [scOff w _ (by omega), c]; rfl, by rw [scOff w _ (by omega), c]; rfl, fun i hi => ?_, by rw [scOff w _ (by omega), c]; rfl, fun o => ?_⟩
  · have h0 : w.cell? ⟨gb, 0, none⟩ = some (.pointer none) := by rw [c]; rfl
    clear c
    go_simp
  · rw [scOff w _ (by omega), c]
    have : i = 0 ∨ i = 1 ∨ i = 2 ∨ i = 3 ∨ i = 4 ∨ i = 5 ∨ i = 6 ∨ i = 7 := by omega
    rcases this with rfl | rfl | rfl | rfl | rfl | rfl | rfl | rfl <;> rfl
  · have := frozen_of_row w gb o _ _ hg
    simpa using this
def rk (k : Nat) : Nat → Int := fun j => if j < k then -1 else 0
theorem rk_set (k : Nat) : set1 (rk k) k (-1) = rk (k + 1) := by
  funext j
  unfold rk
  by_cases e : j = k
  · subst e; rw [set1_self, if_pos (by omega)]
  · rw [set1_ne _ _ e]
    by_cases h : j < k
    · rw [if_pos h, if_pos (by omega)]
    · rw [if_neg h, if_neg (by omega)]
theorem GP.congrR {w : World} {gb hb : Nat} {sz : Int} {nv : Value} {R R' : Nat → Int} (h : GP w gb hb sz nv R) (e : ∀ i, i < 8 → R i = R' i) : GP w gb hb sz nv R' := ⟨h.h, h.s, h.n, fun i hi => by rw [← e i hi]; exact h.r i hi, h.t, h.frz⟩
/-- While the roots are set. -/
structure BG (B gb lo hi hb : Nat) (sv : SV) (vs : List (Int × SV)) (sz : Int) (k : Nat) (w0 w : World) : Prop where
  hp : HP w hb sv sz pL0.R pL0.K pL0.N pL0.F
  cl : ClsIn w lo hi (.slice sv.a sv.n sv.c) vs csL
  gp : GP w gb hb sz (.slice none 0 0) (rk k)
  bel : Below B w0 w
theorem BG.step {B gb lo hi hb : Nat} {sv : SV} {vs : List (Int × SV)} {sz : Int} {k : Nat} {w0 w : World} (h : BG B gb lo hi hb sv vs sz k w0 w) (hk : k < 8) (h0 : B ≤ gb) (h1 : gb < lo) (h2 : hi ≤ hb) (h3 : lo ≤ hi) : BG B gb lo hi hb sv vs sz (k + 1) w0 (w.setCell ⟨gb, 3 + k, none⟩ (.int .i64 (-1))) :=
  ⟨h.hp.kept (heap_setCell_other _ _ _ _ (by show hb ≠ gb; omega)), h.cl.keep fun b hb1 _ => heap_setCell_other _ _ _ _ (by show b ≠ gb; omega), by rw [← rk_set]; exact h.gp.setR hk _, h.bel.setCell (by show B ≤ gb; exact h0) _⟩
theorem BG.fin {B gb lo hi hb : Nat} {sv : SV} {vs : List (Int × SV)} {sz : Int} {w0 w : World} (h : BG B gb lo hi hb sv vs sz 8 w0 w) (h0 : B ≤ gb) (h1 : gb < lo) (h2 : hi ≤ hb) (h3 : lo ≤ hi) (s0 : 0 ≤ sz) (s1 : sz ≤ 200) : GSt B gb lo hi hb sv vs sz 0 w0 w := by
  refine ⟨h.bel, .slice none 0 0, pL0, gL0, ⟨h.hp, h.cl, h.gp.congrR (fun i hi => by unfold rk; rw [if_pos hi]; rfl), ND.nil _ _ _ rfl, h0, h1, h2, h3, ⟨fun i _ => by show (0 : Nat) < 201; omega, fun a j _ _ => by show (0 : Nat) < 201; omega⟩, sim_new csL pL0 (dh gL0) (fun _ _ => rfl) (fun _ _ => rfl), gL0_w, s0, s1⟩, Nat.le_refl _⟩
set_option maxRecDepth 20000 in
set_option maxHeartbeats 2000000 in
theorem begun_any (size : Int) (h1 : -9223372036854775808 ≤ size) (h2 : size ≤ 9223372036854775807) (w : World) :
    Calls Try.prog 11 #[.int .i64 size] w fun e w' => ∃ gb lo hi hb sv vs sz, e = .returned (.pointer (some ⟨gb, 0, none⟩)) ∧ GSt w.heap.size gb lo hi hb sv vs sz 0 w w' := by
  have PK := pick_any size 60 w (by decide) (by decide) h1 h2
  have hpb := pickI_bd size 60 (by decide)
  obtain ⟨k, hk⟩ : ∃ k, k = pickI size 60 := ⟨_, rfl⟩
  rw [← hk] at PK hpb
  obtain ⟨hz, hsz⟩ := zero_of_info Try.infoGraph
  clear hk h1 h2
  go_enter Try.func11, Try.ntmps11
  go_wp2_with fail
  refine PK.mono ?_
  rintro e wp ⟨rfl, rfl⟩
  have NL := fun w' => newL (8 + k) (by omega) (by omega) w'
  unfold lS at NL
  have HNL : Hid _ := NL
  clear NL PK
  go_wp2_with fail
  obtain ⟨wA, hwA⟩ : ∃ wA, wA = wp.alloc (.cells #[.pointer none, .int .i64 (8 + k), .slice none 0 0, .int .i64 0, .int .i64 0, .int .i64 0, .int .i64 0, .int .i64 0, .int .i64 0, .int .i64 0, .int .i64 0, .int .u8 78] 49) := ⟨_, rfl⟩
  have hblk : wA.heap[wp.heap.size]? = some (.cells #[.pointer none, .int .i64 (8 + k), .slice none 0 0, .int .i64 0, .int .i64 0, .int .i64 0, .int .i64 0, .int .i64 0, .int .i64 0, .int .i64 0, .int .i64 0, .int .u8 78] 49) := by rw [hwA]; exact heap_alloc_new wp _
  have hszA : wA.heap.size = wp.heap.size + 1 := by rw [hwA]; simp
  have BA : Below wp.heap.size wp wA := by rw [hwA]; exact (Below.refl _ _).alloc (Nat.le_refl _) _
  rw [← hwA]
  refine (HNL.out wA).mono ?_
  rintro e w1 ⟨B1, hi, hb, sv, vs, rfl, t1, t2, hp1, cl1⟩
  have N0 := newL0 w1
  unfold lS at N0
  have HQ : Hid (HP w1 hb sv (8 + k) pL0.R pL0.K pL0.N pL0.F ∧ ClsIn w1 wA.heap.size hi (.slice sv.a sv.n sv.c) vs csL ∧ w1.heap[wp.heap.size]? = some (.cells #[.pointer none, .int .i64 (8 + k), .slice none 0 0, .int .i64 0, .int .i64 0, .int .i64 0, .int .i64 0, .int .i64 0, .int .i64 0, .int .i64 0, .int .i64 0, .int .u8 78] 49) ∧ Below wp.heap.size wp w1) := ⟨hp1, cl1, by rw [B1.block _ (by omega)]; exact hblk, BA.trans (B1.mono (by omega))⟩
  have HS : Hid (wA.heap.size = wp.heap.size + 1) := hszA
  clear HNL hblk BA B1 hp1 cl1 hwA hszA hz hsz
  go_wp2_with fail
  refine N0.mono ?_
  rintro e w2 ⟨rfl, B2⟩
  obtain ⟨q1, q2, q3, q4⟩ := HQ.out
  have hgs : wp.heap.size < w1.heap.size := (Array.getElem?_eq_some_iff.1 q3).1
  have hhb : hb < w1.heap.size := q1.lt
  have r3 : w2.heap[wp.heap.size]? = some (.cells #[.pointer none, .int .i64 (8 + k), .slice none 0 0, .int .i64 0, .int .i64 0, .int .i64 0, .int .i64 0, .int .i64 0, .int .i64 0, .int .i64 0, .int .i64 0, .int .u8 78] 49) := by rw [B2.block _ hgs]; exact q3
  have c0 : w2.cell? ⟨wp.heap.size, 0, none⟩ = some (.pointer none) := by rw [cell_of_row w2 _ 0 _ _ _ r3]; rfl
  have f0 := frozen_of_row w2 wp.heap.size 0 _ _ r3
  have hg2 : wp.heap.size < w2.heap.size := (Array.getElem?_eq_some_iff.1 r3).1
  have S0 : BG wp.heap.size wp.heap.size wA.heap.size hi hb sv vs (8 + k) 0 wp (w2.setCell ⟨wp.heap.size, 0, none⟩ (.pointer (some ⟨hb, 0, none⟩))) := by
    have hS := HS.out
    refine ⟨(q1.below B2).kept (heap_setCell_other _ _ _ _ (by show hb ≠ wp.heap.size; omega)), (q2.keep fun b _ hb' => B2.block b (by omega)).keep fun b hb1 _ => heap_setCell_other _ _ _ _ (by show b ≠ wp.heap.size; omega), (gp_begin r3).congrR (fun i _ => by unfold rk; rw [if_neg (by omega)]), (q4.trans (B2.mono (by omega))).setCell (Nat.le_refl _) _⟩
  have HB0 : Hid (BG wp.heap.size wp.heap.size wA.heap.size hi hb sv vs (8 + k) 0 wp (w2.setCell ⟨wp.heap.size, 0, none⟩ (.pointer (some ⟨hb, 0, none⟩)))) := S0
  have HO : Hid (wp.heap.size ≤ wp.heap.size ∧ wp.heap.size < wA.heap.size ∧ hi ≤ hb ∧ wA.heap.size ≤ hi ∧ 0 ≤ 8 + k ∧ 8 + k ≤ 200) := ⟨Nat.le_refl _, by have := HS.out; omega, t2, t1, by omega, by omega⟩
  clear N0 HQ B2 q1 q2 q3 q4 r3 S0 HS t1 t2
  go_wp2
  go_loopw [8] (fun iv wr => ∃ i : Nat, i ≤ 8 ∧ iv = .int .i64 i ∧ Hid (BG wp.heap.size wp.heap.size wA.heap.size hi hb sv vs (8 + k) i wp wr)) (fun iv _ => 8 - (intOf iv).toNat)
  case atStart => exact ⟨0, by omega, rfl, HB0.out⟩
  case round =>
    clear HB0 c0 f0 hg2
    obtain ⟨i, hi8, rfl, HB⟩ := hrel
    by_cases hlt : i < 8
    · have ci := HB.out.gp.r i hlt
      have fi := HB.out.gp.frz (3 + i)
      have hgi := HB.out.gp.lt
      have HB2 : Hid (BG wp.heap.size wp.heap.size wA.heap.size hi hb sv vs (8 + k) (i + 1) wp (wr.setCell ⟨wp.heap.size, 3 + i, none⟩ (.int .i64 (-1)))) := HB.out.step hlt HO.out.1 HO.out.2.1 HO.out.2.2.1 HO.out.2.2.2.1
      have hib : (0 : Int) ≤ (i : Int) ∧ (i : Int) < 8 := by omega
      go_wp2
      exact ⟨⟨i + 1, by omega, rfl, HB2.out⟩, by simp [intOf]; omega⟩
    · obtain rfl : i = 8 := by omega
      go_wp2
      go_ret
      obtain ⟨o1, o2, o3, o4, o5, o6⟩ := HO.out
      exact ⟨_, _, _, _, _, _, _, rfl, HB.out.fin o1 o2 o3 o4 o5 o6⟩
end Go.Proofs.Ythckelcjncnalaa
