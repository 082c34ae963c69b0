import Derived.Test.YtbgilndohccicabMz26
import Derived.Test.YtbgilndohccicabMz18
namespace Go.Proofs.Ytbgilndohccicab
open Go.RowKit

/-- A step of the script. -/
structure StV where
  k : Int
  a : Int
  b : Int
  c : Int
  v : Int
structure StV.ok (o : StV) : Prop where
  a1 : -9223372036854775808 ≤ o.a
  a2 : o.a ≤ 9223372036854775807
  b1 : -9223372036854775808 ≤ o.b
  b2 : o.b ≤ 9223372036854775807
  c1 : -9223372036854775808 ≤ o.c
  c2 : o.c ≤ 9223372036854775807
  v1 : -9223372036854775808 ≤ o.v
  v2 : o.v ≤ 9223372036854775807
/-- The script's cells. -/
structure ScL (w : World) (a : Option Addr) (len : Nat) (O : Nat → StV) : Prop where
  row : 0 < len → ∃ g o, a = some ⟨g, o, none⟩ ∧ g < w.heap.size ∧ ∀ i, i < len →
    w.cell? ⟨g, o + i * 5, none⟩ = some (.int .i64 (O i).k) ∧ w.cell? ⟨g, o + i * 5 + 1, none⟩ = some (.int .i64 (O i).a) ∧ w.cell? ⟨g, o + i * 5 + 2, none⟩ = some (.int .i64 (O i).b) ∧ w.cell? ⟨g, o + i * 5 + 3, none⟩ = some (.int .i64 (O i).c) ∧ w.cell? ⟨g, o + i * 5 + 4, none⟩ = some (.int .i64 (O i).v)
  ok : ∀ i, i < len → (O i).ok
/-- What a script makes of the graph. -/
noncomputable def scG (sz : Int) (G : GG) (O : Nat → StV) : Nat → GG
  | 0 => G
  | n + 1 => stG sz (scG sz G O n) (O n).k (O n).a (O n).b (O n).c (O n).v
theorem scG_n (sz : Int) (G : GG) (O : Nat → StV) : ∀ n, (scG sz G O n).n ≤ G.n + n := by
  intro n
  induction n with
  | zero => exact Nat.le_refl _
  | succ n ih =>
    have := stG_n sz (scG sz G O n) (O n).k (O n).a (O n).b (O n).c (O n).v
    show (stG sz (scG sz G O n) (O n).k (O n).a (O n).b (O n).c (O n).v).n ≤ _
    omega
theorem Prot.cell {P : Nat → Prop} {w w' : World} (h : Prot P w w') {p : Addr} (hp : P p.block) : w'.cell? p = w.cell? p := World.cell?_of_block (h.block _ hp)
/-- The state of a graph, and what has been kept. -/
def GS2 (P : Nat → Prop) (gb lo hi hb : Nat) (sv : SV) (vs : List (Int × SV)) (sz : Int) (N : Nat → Nat → Int) (G : GG) (w w' : World) : Prop := Prot P w w' ∧ ∃ nv p, LK w' P gb lo hi hb sv vs sz nv p G ∧ ∀ j, p.N 201 j = N 201 j
set_option maxRecDepth 20000 in
set_option maxHeartbeats 2000000 in
theorem gscript_any {P : Nat → Prop} {gb lo hi hb : Nat} {sv : SV} {vs : List (Int × SV)} {sz : Int} {nv : Value} {p : PH} {G : GG} {w : World} (h : LK w P gb lo hi hb sv vs sz nv p G) (a : Option Addr) (len cap : Nat) (O : Nat → StV) (hS : ScL w a len O) (hSP : 0 < len → ∀ g o, a = some ⟨g, o, none⟩ → P g) (hlen : G.n + len ≤ 7036874417560) :
    Calls Try.prog 20 #[.pointer (some ⟨gb, 0, none⟩), .slice a len cap] w (GOk P gb lo hi hb sv vs sz p.N (scG sz G O len) w) := by
  have HG : Hid (GS2 P gb lo hi hb sv vs sz p.N G w w) := ⟨Prot.refl _ _, nv, p, h, fun _ => rfl⟩
  have HS : Hid (ScL w a len O) := hS
  have HSP : Hid (0 < len → ∀ g o, a = some ⟨g, o, none⟩ → P g) := hSP
  clear h hS hSP
  unfold GOk
  go_enter Try.func20, Try.ntmps20
  go_wp2
  go_loopw [5] (fun iv wr => ∃ i : Nat, i ≤ len ∧ iv = .int .i64 i ∧ Hid (GS2 P gb lo hi hb sv vs sz p.N (scG sz G O i) w wr)) (fun iv _ => len - (intOf iv).toNat)
  case atStart => exact ⟨0, by omega, rfl, HG.out⟩
  case round =>
    clear HG
    obtain ⟨i, hi', rfl, HG⟩ := hrel
    by_cases hlt : i < len
    · obtain ⟨g, so, ea, hg, hcell⟩ := HS.out.row (by omega)
      obtain ⟨q0, q1, q2, q3, q4⟩ := hcell i hlt
      have ok := HS.out.ok i hlt
      have hPg := HSP.out (by omega) g so ea
      obtain ⟨o, ho⟩ : ∃ o, o = O i := ⟨_, rfl⟩
      have HO : Hid (scG sz G O (i + 1) = stG sz (scG sz G O i) o.k o.a o.b o.c o.v) := by show scG sz G O (i + 1) = _; rw [ho]; rfl
      rw [← ho] at q0 q1 q2 q3 q4 ok
      obtain ⟨B1, nv1, p1, L, hN1⟩ := HG.out
      have z0 := (B1.cell (p := ⟨g, so + i * 5, none⟩) hPg).trans q0
      have z1 := (B1.cell (p := ⟨g, so + i * 5 + 1, none⟩) hPg).trans q1
      have z2 := (B1.cell (p := ⟨g, so + i * 5 + 2, none⟩) hPg).trans q2
      have z3 := (B1.cell (p := ⟨g, so + i * 5 + 3, none⟩) hPg).trans q3
      have z4 := (B1.cell (p := ⟨g, so + i * 5 + 4, none⟩) hPg).trans q4
      have hgr : g < wr.heap.size := Nat.lt_of_lt_of_le hg B1.size
      have C := gplay_any L o.k o.a o.b o.c o.v ok.a1 ok.a2 ok.b1 ok.b2 ok.c1 ok.c2 ok.v1 ok.v2 (by have := scG_n sz G O i; omega)
      unfold GOk at C
      have HN1 : Hid (∀ j, p1.N 201 j = p.N 201 j) := hN1
      have HB1 : Hid (Prot P w wr) := B1
      have hib : (0 : Int) ≤ (i : Int) ∧ (i : Int) < (len : Int) := by omega
      have HEA : Hid (a = some ⟨g, so, none⟩) := ea
      rw [ea]
      clear q0 q1 q2 q3 q4 hcell ok ho ea B1 L hN1 HG hPg
      obtain ⟨ok, oa, ob, oc, ov⟩ := o
      simp only [] at z0 z1 z2 z3 z4 C
      go_wp2_with fail
      refine C.mono ?_
      rintro e w2 ⟨rfl, B2, nv', p', L', hN'⟩
      have HG2 : Hid (GS2 P gb lo hi hb sv vs sz p.N (scG sz G O (i + 1)) w w2) := by
        show GS2 P gb lo hi hb sv vs sz p.N (scG sz G O (i + 1)) w w2
        rw [HO.out]
        exact ⟨HB1.out.trans B2, nv', p', L', fun j => (hN' j).trans (HN1.out j)⟩
      clear C B2 L' hN'
      go_wp2
      exact ⟨⟨i + 1, by omega, rfl, HG2.out⟩, by simp [intOf]; omega⟩
    · obtain rfl : i = len := by omega
      go_wp2
      go_ret
      exact ⟨rfl, HG.out⟩
end Go.Proofs.Ytbgilndohccicab
namespace Go.Proofs.Ytbgilndohccicab
open Go.RowKit

def lS : ByteArray := ⟨#[78, 123, 118, 58, 108, 44, 97, 58, 114, 44, 98, 58, 114, 125, 81, 123, 118, 58, 119, 44, 97, 58, 114, 125]⟩
set_option maxRecDepth 100000 in
theorem lS_ok : readE lS = 0 := by kernel_rfl
set_option maxRecDepth 100000 in
theorem lS_cs : readC lS = csL := by kernel_rfl
theorem lS_new {sz : Int} (h1 : 1 ≤ sz) (h2 : sz ≤ 200) : newE lS sz = 0 := by
  unfold newE; rw [lS_ok, if_neg (by decide), if_neg (by omega)]
theorem lS_zero : newE lS 0 = 7 := by
  unfold newE; rw [lS_ok, if_neg (by decide), if_pos (by omega)]
def pL0 : PH := ⟨fun _ => 0, fun _ => 0, fun _ _ => 0, fun _ _ => 0⟩
def gL0 : GG := ⟨fun _ => -1, fun _ => 78, fun _ => 0, fun _ => -1, fun _ => -1, 0⟩
theorem gL0_w : GW gL0 := ⟨fun i _ => by show -1 ≤ (-1 : Int) ∧ (-1 : Int) < (0 : Nat); omega, fun i h => absurd h (Nat.not_lt_zero i), fun i h => absurd h (Nat.not_lt_zero i), fun i h => absurd h (Nat.not_lt_zero i), fun i h => absurd h (Nat.not_lt_zero i)⟩
theorem newL (sz : Int) (h1 : 1 ≤ sz) (h2 : sz ≤ 200) (w : World) : Calls Try.prog 9 #[.string lS, .int .i64 sz] w fun e w' => Below w.heap.size w w' ∧ ∃ hi hb sv vs, e = .returned (.tuple #[.pointer (some ⟨hb, 0, none⟩), .int .i64 0]) ∧ w.heap.size ≤ hi ∧ hi ≤ hb ∧ HP w' hb sv sz pL0.R pL0.K pL0.N pL0.F ∧ ClsIn w' w.heap.size hi (.slice sv.a sv.n sv.c) vs csL := by
  have PN := pnew_any lS sz w (by decide)
  unfold PNPost at PN
  rw [lS_cs] at PN
  refine PN.mono ?_
  rintro e w' ⟨B, h⟩
  rcases h with ⟨h, _⟩ | ⟨_, h⟩
  · exact absurd (lS_new h1 h2) h
  · exact ⟨B, h⟩
theorem newL0 (w : World) : Calls Try.prog 9 #[.string lS, .int .i64 0] w fun e w' => e = .returned (.tuple #[.pointer none, .int .i64 7]) ∧ Below w.heap.size w w' := by
  have PN := pnew_any lS 0 w (by decide)
  unfold PNPost at PN
  refine PN.mono ?_
  rintro e w' ⟨B, h⟩
  rw [lS_zero] at h
  rcases h with ⟨_, h⟩ | ⟨h, _⟩
  · exact ⟨h, B⟩
  · exact absurd h (by decide)
theorem Try.infoGraph : (Try.prog.info? 58).map (fun i => (i.zero, i.size)) = some (some (.agg #[.pointer none, .int .i64 0, .slice none 0 0, .int .i64 0, .int .i64 0, .int .i64 0, .int .i64 0, .int .i64 0, .int .i64 0, .int .i64 0, .int .i64 0, .int .u8 0]), 12) := by kernel_rfl
theorem gp_begin {w : World} {gb hb : Nat} {sz : Int} (hg : w.heap[gb]? = some (.cells #[.pointer none, .int .i64 sz, .slice none 0 0, .int .i64 0, .int .i64 0, .int .i64 0, .int .i64 0, .int .i64 0, .int .i64 0, .int .i64 0, .int .i64 0, .int .u8 78] 58)) : GP (w.setCell ⟨gb, 0, none⟩ (.pointer (some ⟨hb, 0, none⟩))) gb hb sz (.slice none 0 0) (fun _ => 0) := by
  have c := fun o => cell_of_row w gb o _ _ _ hg
  have hl : gb < w.heap.size := (Array.getElem?_eq_some_iff.1 hg).1
  refine ⟨?_, by rw [scOff w _ (by omega), c]; rfl, by rw [scOff w _ (by omega), c]; rfl, fun i hi => ?_, by rw [scOff w _ (by omega), c]; rfl, fun o => ?_⟩
  · have h0 : w.cell? ⟨gb, 0, none⟩ = some (.pointer none) := by rw [c]; rfl
    clear c
    go_simp
  · rw [scOff w _ (by omega), c]
    have : i = 0 ∨ i = 1 ∨ i = 2 ∨ i = 3 ∨ i = 4 ∨ i = 5 ∨ i = 6 ∨ i = 7 := by omega
    rcases this with rfl | rfl | rfl | rfl | rfl | rfl | rfl | rfl <;> rfl
  · have := frozen_of_row w gb o _ _ hg
    simpa using this
def rk (k : Nat) : Nat → Int := fun j => if j < k then -1 else 0
theorem rk_set (k : Nat) : set1 (rk k) k (-1) = rk (k + 1) := by
  funext j
  unfold rk
  by_cases e : j = k
  · subst e; rw [set1_self, if_pos (by omega)]
  · rw [set1_ne _ _ e]
    by_cases h : j < k
    · rw [if_pos h, if_pos (by omega)]
    · rw [if_neg h, if_neg (by omega)]
theorem GP.congrR {w : World} {gb hb : Nat} {sz : Int} {nv : Value} {R R' : Nat → Int} (h : GP w gb hb sz nv R) (e : ∀ i, i < 8 → R i = R' i) : GP w gb hb sz nv R' := ⟨h.h, h.s, h.n, fun i hi => by rw [← e i hi]; exact h.r i hi, h.t, h.frz⟩
/-- While the roots are set. -/
structure BG (B gb lo hi hb : Nat) (sv : SV) (vs : List (Int × SV)) (sz : Int) (k : Nat) (w0 w : World) : Prop where
  hp : HP w hb sv sz pL0.R pL0.K pL0.N pL0.F
  cl : ClsIn w lo hi (.slice sv.a sv.n sv.c) vs csL
  gp : GP w gb hb sz (.slice none 0 0) (rk k)
  bel : Below B w0 w
theorem BG.step {B gb lo hi hb : Nat} {sv : SV} {vs : List (Int × SV)} {sz : Int} {k : Nat} {w0 w : World} (h : BG B gb lo hi hb sv vs sz k w0 w) (hk : k < 8) (h0 : B ≤ gb) (h1 : gb < lo) (h2 : hi ≤ hb) (h3 : lo ≤ hi) : BG B gb lo hi hb sv vs sz (k + 1) w0 (w.setCell ⟨gb, 3 + k, none⟩ (.int .i64 (-1))) :=
  ⟨h.hp.kept (heap_setCell_other _ _ _ _ (by show hb ≠ gb; omega)), h.cl.keep fun b hb1 _ => heap_setCell_other _ _ _ _ (by show b ≠ gb; omega), by rw [← rk_set]; exact h.gp.setR hk _, h.bel.setCell (by show B ≤ gb; exact h0) _⟩
/-- A graph at its beginning. -/
def GB (gb lo hi hb : Nat) (sv : SV) (vs : List (Int × SV)) (sz : Int) (w0 w : World) : Prop := Below w0.heap.size w0 w ∧ w0.heap.size ≤ gb ∧ ∀ P : Nat → Prop, (∀ k, P k → k < w0.heap.size) → LK w P gb lo hi hb sv vs sz (.slice none 0 0) pL0 gL0
theorem BG.fin {gb lo hi hb : Nat} {sv : SV} {vs : List (Int × SV)} {sz : Int} {w0 w : World} (h : BG w0.heap.size gb lo hi hb sv vs sz 8 w0 w) (h0 : w0.heap.size ≤ gb) (h1 : gb < lo) (h2 : hi ≤ hb) (h3 : lo ≤ hi) (s0 : 0 ≤ sz) (s1 : sz ≤ 200) : GB gb lo hi hb sv vs sz w0 w := by
  refine ⟨h.bel, h0, fun P hP => ⟨h.hp, h.cl, h.gp.congrR (fun i hi => by unfold rk; rw [if_pos hi]; rfl), ND.nil _ _ _ rfl, fun hh => ?_, fun hh => ?_, fun g hg => (by cases hg), fun k hk => Nat.lt_of_lt_of_le (hP k hk) h.bel.size, h1, h2, h3, ⟨fun i _ => by show (0 : Nat) < 201; omega, fun a j _ _ => by show (0 : Nat) < 201; omega⟩, sim_new csL pL0 (dh gL0) (fun _ _ => rfl) (fun _ _ => rfl), gL0_w, s0, s1⟩⟩
  · have := hP _ hh; omega
  · have := hP _ hh; omega
set_option maxRecDepth 20000 in
set_option maxHeartbeats 2000000 in
theorem begun_any (size : Int) (h1 : -9223372036854775808 ≤ size) (h2 : size ≤ 9223372036854775807) (w : World) :
    Calls Try.prog 18 #[.int .i64 size] w fun e w' => ∃ gb lo hi hb sv vs, e = .returned (.pointer (some ⟨gb, 0, none⟩)) ∧ GB gb lo hi hb sv vs (8 + pickI size 60) w w' := by
  have PK := pick_any size 60 w (by decide) (by decide) h1 h2
  have hpb := pickI_bd size 60 (by decide)
  obtain ⟨k, hk⟩ : ∃ k, k = pickI size 60 := ⟨_, rfl⟩
  rw [← hk] at PK hpb ⊢
  obtain ⟨hz, hsz⟩ := zero_of_info Try.infoGraph
  clear hk h1 h2
  go_enter Try.func18, Try.ntmps18
  go_wp2_with fail
  refine PK.mono ?_
  rintro e wp ⟨rfl, rfl⟩
  have NL := fun w' => newL (8 + k) (by omega) (by omega) w'
  unfold lS at NL
  have HNL : Hid _ := NL
  clear NL PK
  go_wp2_with fail
  obtain ⟨wA, hwA⟩ : ∃ wA, wA = wp.alloc (.cells #[.pointer none, .int .i64 (8 + k), .slice none 0 0, .int .i64 0, .int .i64 0, .int .i64 0, .int .i64 0, .int .i64 0, .int .i64 0, .int .i64 0, .int .i64 0, .int .u8 78] 58) := ⟨_, rfl⟩
  have hblk : wA.heap[wp.heap.size]? = some (.cells #[.pointer none, .int .i64 (8 + k), .slice none 0 0, .int .i64 0, .int .i64 0, .int .i64 0, .int .i64 0, .int .i64 0, .int .i64 0, .int .i64 0, .int .i64 0, .int .u8 78] 58) := by rw [hwA]; exact heap_alloc_new wp _
  have hszA : wA.heap.size = wp.heap.size + 1 := by rw [hwA]; simp
  have BA : Below wp.heap.size wp wA := by rw [hwA]; exact (Below.refl _ _).alloc (Nat.le_refl _) _
  rw [← hwA]
  refine (HNL.out wA).mono ?_
  rintro e w1 ⟨B1, hi, hb, sv, vs, rfl, t1, t2, hp1, cl1⟩
  have N0 := newL0 w1
  unfold lS at N0
  have HQ : Hid (HP w1 hb sv (8 + k) pL0.R pL0.K pL0.N pL0.F ∧ ClsIn w1 wA.heap.size hi (.slice sv.a sv.n sv.c) vs csL ∧ w1.heap[wp.heap.size]? = some (.cells #[.pointer none, .int .i64 (8 + k), .slice none 0 0, .int .i64 0, .int .i64 0, .int .i64 0, .int .i64 0, .int .i64 0, .int .i64 0, .int .i64 0, .int .i64 0, .int .u8 78] 58) ∧ Below wp.heap.size wp w1) := ⟨hp1, cl1, by rw [B1.block _ (by omega)]; exact hblk, BA.trans (B1.mono (by omega))⟩
  have HS : Hid (wA.heap.size = wp.heap.size + 1) := hszA
  clear HNL hblk BA B1 hp1 cl1 hwA hszA hz hsz
  go_wp2_with fail
  refine N0.mono ?_
  rintro e w2 ⟨rfl, B2⟩
  obtain ⟨q1, q2, q3, q4⟩ := HQ.out
  have hgs : wp.heap.size < w1.heap.size := (Array.getElem?_eq_some_iff.1 q3).1
  have hhb : hb < w1.heap.size := q1.lt
  have r3 : w2.heap[wp.heap.size]? = some (.cells #[.pointer none, .int .i64 (8 + k), .slice none 0 0, .int .i64 0, .int .i64 0, .int .i64 0, .int .i64 0, .int .i64 0, .int .i64 0, .int .i64 0, .int .i64 0, .int .u8 78] 58) := by rw [B2.block _ hgs]; exact q3
  have c0 : w2.cell? ⟨wp.heap.size, 0, none⟩ = some (.pointer none) := by rw [cell_of_row w2 _ 0 _ _ _ r3]; rfl
  have f0 := frozen_of_row w2 wp.heap.size 0 _ _ r3
  have hg2 : wp.heap.size < w2.heap.size := (Array.getElem?_eq_some_iff.1 r3).1
  have S0 : BG wp.heap.size wp.heap.size wA.heap.size hi hb sv vs (8 + k) 0 wp (w2.setCell ⟨wp.heap.size, 0, none⟩ (.pointer (some ⟨hb, 0, none⟩))) := by
    have hS := HS.out
    refine ⟨(q1.below B2).kept (heap_setCell_other _ _ _ _ (by show hb ≠ wp.heap.size; omega)), (q2.keep fun b _ hb' => B2.block b (by omega)).keep fun b hb1 _ => heap_setCell_other _ _ _ _ (by show b ≠ wp.heap.size; omega), (gp_begin r3).congrR (fun i _ => by unfold rk; rw [if_neg (by omega)]), (q4.trans (B2.mono (by omega))).setCell (Nat.le_refl _) _⟩
  have HB0 : Hid (BG wp.heap.size wp.heap.size wA.heap.size hi hb sv vs (8 + k) 0 wp (w2.setCell ⟨wp.heap.size, 0, none⟩ (.pointer (some ⟨hb, 0, none⟩)))) := S0
  have HO : Hid (wp.heap.size ≤ wp.heap.size ∧ wp.heap.size < wA.heap.size ∧ hi ≤ hb ∧ wA.heap.size ≤ hi ∧ 0 ≤ 8 + k ∧ 8 + k ≤ 200) := ⟨Nat.le_refl _, by have := HS.out; omega, t2, t1, by omega, by omega⟩
  clear N0 HQ B2 q1 q2 q3 q4 r3 S0 HS t1 t2
  go_wp2
  go_loopw [8] (fun iv wr => ∃ i : Nat, i ≤ 8 ∧ iv = .int .i64 i ∧ Hid (BG wp.heap.size wp.heap.size wA.heap.size hi hb sv vs (8 + k) i wp wr)) (fun iv _ => 8 - (intOf iv).toNat)
  case atStart => exact ⟨0, by omega, rfl, HB0.out⟩
  case round =>
    clear HB0 c0 f0 hg2
    obtain ⟨i, hi8, rfl, HB⟩ := hrel
    by_cases hlt : i < 8
    · have ci := HB.out.gp.r i hlt
      have fi := HB.out.gp.frz (3 + i)
      have hgi := HB.out.gp.lt
      have HB2 : Hid (BG wp.heap.size wp.heap.size wA.heap.size hi hb sv vs (8 + k) (i + 1) wp (wr.setCell ⟨wp.heap.size, 3 + i, none⟩ (.int .i64 (-1)))) := HB.out.step hlt HO.out.1 HO.out.2.1 HO.out.2.2.1 HO.out.2.2.2.1
      have hib : (0 : Int) ≤ (i : Int) ∧ (i : Int) < 8 := by omega
      go_wp2
      exact ⟨⟨i + 1, by omega, rfl, HB2.out⟩, by simp [intOf]; omega⟩
    · obtain rfl : i = 8 := by omega
      go_wp2
      go_ret
      obtain ⟨o1, o2, o3, o4, o5, o6⟩ := HO.out
      exact ⟨_, _, _, _, _, _, rfl, HB.out.fin o1 o2 o3 o4 o5 o6⟩
end Go.Proofs.Ytbgilndohccicab
namespace Go.Proofs.Ytbgilndohccicab
open Go.RowKit

/-- A heap of the program beside the document's. -/
structure HK (w : World) (lo hi hb : Nat) (sv : SV) (vs : List (Int × SV)) (sz : Int) (p : PH) (r : DH) : Prop where
  hp : HP w hb sv sz p.R p.K p.N p.F
  cl : ClsIn w lo hi (.slice sv.a sv.n sv.c) vs csL
  b2 : hi ≤ hb
  b3 : lo ≤ hi
  pw : Pw p
  sim : Sim csL p r
  wf : Wf csL r
theorem LK.hk {w : World} {P : Nat → Prop} {gb lo hi hb : Nat} {sv : SV} {vs : List (Int × SV)} {sz : Int} {nv : Value} {p : PH} {G : GG} (h : LK w P gb lo hi hb sv vs sz nv p G) (hn : G.n ≤ 7036874417560) : HK w lo hi hb sv vs sz p (dh G) := ⟨h.hp, h.cl, h.b2, h.b3, h.pw, h.sim, h.gw.wf hn⟩
theorem HK.below {w w' : World} {lo hi hb : Nat} {sv : SV} {vs : List (Int × SV)} {sz : Int} {p : PH} {r : DH} (h : HK w lo hi hb sv vs sz p r) (b : Below w.heap.size w w') : HK w' lo hi hb sv vs sz p r :=
  ⟨h.hp.below b, h.cl.keep fun k _ hk => b.block k (by have := h.hp.lt; have := h.b2; omega), h.b2, h.b3, h.pw, h.sim, h.wf⟩
theorem class_two {cs : Sch} {p q : PH} {r : DH} (h : Sim cs p r) (k : Sim cs q r) (i : Nat) (hi : i < 8) : pclsI p i = pclsI q i := by
  obtain ⟨a1, a2⟩ := class_meet' h i hi
  obtain ⟨b1, b2⟩ := class_meet' k i hi
  unfold pclsI
  rw [rtB_of hi, if_neg (show ¬ (true = false) by decide), if_neg (show ¬ (true = false) by decide), Int.toNat_natCast]
  by_cases e : p.R i = 0
  · rw [if_pos e, if_pos (b1.2 (a1.1 e))]
  · have e' : q.R i ≠ 0 := fun hh => e (a1.2 (b1.1 hh))
    rw [if_neg e, if_neg e', a2 e, b2 e']
theorem same_two {cs : Sch} {p q : PH} {r : DH} (h : Sim cs p r) (k : Sim cs q r) (i j : Nat) (hi : i < 8) (hj : j < 8) : psameI p i j = psameI q i j := by
  unfold psameI
  rw [if_pos ⟨rtB_of hi, rtB_of hj⟩, if_pos ⟨rtB_of hi, rtB_of hj⟩, Int.toNat_natCast, Int.toNat_natCast]
  have a := same_meet h i j hi hj
  have b := same_meet k i j hi hj
  by_cases e : p.R i = p.R j
  · rw [decide_eq_true e, decide_eq_true (b.2 (a.1 e))]
  · rw [decide_eq_false e, decide_eq_false (fun hh => e (a.2 (b.1 hh)))]
def getI (cs : Sch) (p : PH) (root name : Int) : Int := if (fnum (ffind cs p.R p.K root name)).e = 0 then p.N (ffind cs p.R p.K root name).n (ffind cs p.R p.K root name).i else 0
theorem get_two {cs : Sch} {p q : PH} {r : DH} (h : Sim cs p r) (k : Sim cs q r) (root name : Int) : getI cs p root name = getI cs q root name ∧ (fnum (ffind cs p.R p.K root name)).e = (fnum (ffind cs q.R q.K root name)).e := by
  obtain ⟨a1, a2⟩ := get_meet h root name
  obtain ⟨b1, b2⟩ := get_meet k root name
  refine ⟨?_, a1.trans b1.symm⟩
  unfold getI
  by_cases e : (fnum (ffind cs p.R p.K root name)).e = 0
  · have e' : (fnum (ffind cs q.R q.K root name)).e = 0 := (b1.trans a1.symm).trans e
    rw [if_pos e, if_pos e', a2 e, b2 e']
  · rw [if_neg e, if_neg (fun hh => e ((a1.trans b1.symm).trans hh))]
theorem words_two {p q : PH} {r : DH} (h : Sim csL p r) (k : Sim csL q r) (hw : Wf csL r) {L M : List Nat} (h1 : L.Nodup) (h2 : ∀ a, a ∈ L ↔ p.in a) (k1 : M.Nodup) (k2 : ∀ a, a ∈ M ↔ q.in a) : wlist csL p.K L = wlist csL q.K M := by
  have hT : ∀ o, o < r.n → ((fun o => @decide (r.in csL (o + 1)) (Classical.propDecidable _)) o = true ↔ r.in csL (o + 1)) := fun o _ => by simp
  obtain ⟨X, hX⟩ := h
  obtain ⟨Y, hY⟩ := k
  exact (show wlist csL p.K L = wsum csL r.K _ r.n from hX.words csL_6 L (lst _ r.n) h1 (lst_nodup _ r.n) h2 (lst_mem hw hT)).trans (show wlist csL q.K M = wsum csL r.K _ r.n from hY.words csL_6 M (lst _ r.n) k1 (lst_nodup _ r.n) k2 (lst_mem hw hT)).symm
set_option maxRecDepth 20000 in
set_option maxHeartbeats 2000000 in
theorem alike_any {w : World} {lo hi hb lo' hi' hb' : Nat} {sv sv' : SV} {vs vs' : List (Int × SV)} {sz : Int} {p q : PH} {r : DH} (h : HK w lo hi hb sv vs sz p r) (k : HK w lo' hi' hb' sv' vs' sz q r) :
    Calls Try.prog 25 #[.pointer (some ⟨hb, 0, none⟩), .pointer (some ⟨hb', 0, none⟩)] w fun e w' => e = .returned (.bool true) ∧ Below w.heap.size w w' := by
  have HH : Hid (HK w lo hi hb sv vs sz p r) := h
  have HK' : Hid (HK w lo' hi' hb' sv' vs' sz q r) := k
  clear h k
  go_enter Try.func25, Try.ntmps25
  go_wp2
  go_loopw [5] (fun iv wr => ∃ i : Nat, i ≤ 8 ∧ iv = .int .i64 i ∧ Hid (Below w.heap.size w wr)) (fun iv _ => 8 - (intOf iv).toNat)
  case atStart => exact ⟨0, by omega, rfl, Below.refl _ _⟩
  case round =>
    obtain ⟨i, hi8, rfl, HB⟩ := hrel
    by_cases hlt : i < 8
    · have A := fun W (hW : Below w.heap.size w W) => pclass_any hb sv sz p W (HH.out.below hW).hp HH.out.pw.root i
      have A' := fun W (hW : Below w.heap.size w W) => pclass_any hb' sv' sz q W (HK'.out.below hW).hp HK'.out.pw.root i
      have C := fun W (hW : Below w.heap.size w W) => get_any hb sv sz p.R p.K p.N p.F lo vs csL W (HH.out.below hW).hp (HH.out.below hW).cl.cls HH.out.pw.root csL_6 i 118
      have C' := fun W (hW : Below w.heap.size w W) => get_any hb' sv' sz q.R q.K q.N q.F lo' vs' csL W (HK'.out.below hW).hp (HK'.out.below hW).cl.cls HK'.out.pw.root csL_6 i 118
      unfold GetPost at C C'
      have e1 := class_two HH.out.sim HK'.out.sim i hlt
      have e2 := get_two HH.out.sim HK'.out.sim i 118
      unfold getI at e2
      rw [← e1] at A'
      rw [← e2.1, ← e2.2] at C'
      clear e1 e2
      generalize (if (fnum (ffind csL p.R p.K i 118)).e = 0 then p.N (ffind csL p.R p.K i 118).n (ffind csL p.R p.K i 118).i else 0) = y1 at C C'
      generalize (fnum (ffind csL p.R p.K i 118)).e = y2 at C C'
      generalize pclsI p i = y at A A'
      obtain ⟨y3, y4⟩ := y
      simp only [] at A A'
      have A1 := A _ HB.out
      go_wp2_with fail
      refine A1.mono ?_
      rintro e w1 ⟨rfl, B1⟩
      have HB1 : Hid (Below w.heap.size w w1) := HB.out.trans (B1.mono HB.out.size)
      have A2 := A' _ HB1.out
      clear A A1 A' B1
      go_wp2_with fail
      refine A2.mono ?_
      rintro e w2 ⟨rfl, B2⟩
      have HB2 : Hid (Below w.heap.size w w2) := HB1.out.trans (B2.mono HB1.out.size)
      have A1 := C _ HB2.out
      clear A2 B2 C HB1
      go_wp2_with fail
      refine A1.mono ?_
      rintro e w3 ⟨rfl, B3⟩
      have HB3 : Hid (Below w.heap.size w w3) := HB2.out.trans (B3.mono HB2.out.size)
      have A2 := C' _ HB3.out
      clear A1 B3 C' HB2
      go_wp2_with fail
      refine A2.mono ?_
      rintro e w4 ⟨rfl, B4⟩
      have HB4 : Hid (Below w.heap.size w w4) := HB3.out.trans (B4.mono HB3.out.size)
      clear A2 B4 HB3 HB
      go_wp2
      go_loopw [14] (fun kv wq => ∃ k : Nat, k ≤ i ∧ kv = .int .i64 k ∧ Hid (Below w.heap.size w wq)) (fun kv _ => i - (intOf kv).toNat)
      case atStart => exact ⟨0, by omega, rfl, HB4.out⟩
      case round =>
        clear HB4
        obtain ⟨k, hk, rfl, HBq⟩ := hrel
        by_cases hkl : k < i
        · rename World => wo
          have A1 := psame_any hb sv sz p wo (HH.out.below HBq.out).hp i k
          have A := fun W (hW : Below w.heap.size w W) => psame_any hb' sv' sz q W (HK'.out.below hW).hp i k
          rw [← same_two HH.out.sim HK'.out.sim i k hlt (by omega)] at A
          generalize psameI p i k = s1 at A1 A
          generalize pE2 (i : Int) k = s2 at A1 A
          go_wp2_with fail
          refine A1.mono ?_
          rintro e w5 ⟨rfl, B5⟩
          have HB5 : Hid (Below w.heap.size w w5) := HBq.out.trans (B5.mono HBq.out.size)
          have A2 := A _ HB5.out
          clear A1 A B5 HBq
          go_wp2_with fail
          refine A2.mono ?_
          rintro e w6 ⟨rfl, B6⟩
          have HB6 : Hid (Below w.heap.size w w6) := HB5.out.trans (B6.mono HB5.out.size)
          clear A2 B6 HB5
          go_wp2
          exact ⟨⟨k + 1, by omega, rfl, HB6.out⟩, by simp [intOf]; omega⟩
        · obtain rfl : k = i := by omega
          go_wp2
          exact ⟨⟨k + 1, by omega, rfl, HBq.out⟩, by simp [intOf]; omega⟩
    · obtain rfl : i = 8 := by omega
      have h1 := HH.out.below HB.out
      have A1 := pwords_any hb sv sz p lo vs csL _ h1.hp h1.cl.cls h1.pw csL_6
      unfold PWPost at A1
      clear h1
      go_wp2_with fail
      refine A1.mono ?_
      rintro e w1 ⟨L, rfl, hd, hm, B1⟩
      have HLm : Hid (L.Nodup ∧ ∀ a, a ∈ L ↔ p.in a) := ⟨hd, hm⟩
      have HB1 : Hid (Below w.heap.size w w1) := HB.out.trans (B1.mono HB.out.size)
      have h2 := HK'.out.below HB1.out
      have A2 := pwords_any hb' sv' sz q lo' vs' csL _ h2.hp h2.cl.cls h2.pw csL_6
      unfold PWPost at A2
      clear A1 hd hm B1 h2
      go_wp2_with fail
      refine A2.mono ?_
      rintro e w2 ⟨M, rfl, hd, hm, B2⟩
      have ew : wlist csL q.K M = wlist csL p.K L := (words_two HH.out.sim HK'.out.sim HH.out.wf HLm.out.1 HLm.out.2 hd hm).symm
      rw [ew]
      have HB2 : Hid (Below w.heap.size w w2) := HB1.out.trans (B2.mono HB1.out.size)
      generalize wlist csL p.K L = x at *
      clear A2 hd hm ew B2
      go_wp2
      go_ret
      exact ⟨rfl, HB2.out⟩
end Go.Proofs.Ytbgilndohccicab
