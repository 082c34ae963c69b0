import Derived.Test.YtbgilndohccicabMz19
namespace Go.Proofs.Ytbgilndohccicab
open Go.RowKit

theorem GW.wf {G : GG} (h : GW G) (hn : G.n ≤ 7036874417560) : Wf csL (dh G) := by
  refine ⟨fun i hi => ?_, fun b h0 h1 j f hf hk => ?_, fun b j h0 h1 => ?_⟩
  · have := h.R i hi
    show (G.R i + 1).toNat ≤ G.n
    omega
  · have hb : b - 1 < G.n := by have : b ≤ G.n := h1; omega
    have ha := h.a _ hb
    have hb' := h.b _ hb
    show 0 ≤ (if j = 0 then G.v (b - 1) else if j = 1 then G.a (b - 1) + 1 else if j = 2 then G.b (b - 1) + 1 else 0) ∧ (if j = 0 then G.v (b - 1) else if j = 1 then G.a (b - 1) + 1 else if j = 2 then G.b (b - 1) + 1 else 0) ≤ (G.n : Int)
    by_cases hj : j = 0
    · exfalso
      subst hj
      have hf' : (fof csL (G.c (b - 1)))[0]? = some f := hf
      rcases h.c _ hb with hc | ⟨hc, _⟩ <;> rw [hc] at hf'
      · rw [csL_N] at hf'; simp at hf'; rw [← hf'] at hk; simp at hk
      · rw [csL_Q] at hf'; simp at hf'; rw [← hf'] at hk; simp at hk
    · rw [if_neg hj]
      split
      · omega
      · split <;> omega
  · have hb : b - 1 < G.n := by have : b ≤ G.n := h1; omega
    have ha := h.a _ hb
    have hb' := h.b _ hb
    have hv := h.v _ hb
    show -9223372036854775808 ≤ (if j = 0 then G.v (b - 1) else if j = 1 then G.a (b - 1) + 1 else if j = 2 then G.b (b - 1) + 1 else 0) ∧ (if j = 0 then G.v (b - 1) else if j = 1 then G.a (b - 1) + 1 else if j = 2 then G.b (b - 1) + 1 else 0) ≤ 9223372036854775807
    split
    · exact hv
    · split
      · omega
      · split <;> omega
theorem wof_L {G : GG} (h : GW G) {o : Nat} (ho : o < G.n) : (wof csL ((dh G).K (o + 1)) : Int) = if G.c o = 78 then 4 else 3 := by
  show (wof csL (G.c (o + 1 - 1)) : Int) = _
  rw [Nat.add_sub_cancel]
  rcases h.c o ho with hc | ⟨hc, _⟩ <;> rw [hc] <;> rfl
def CtG (G : GG) (w : World) (e : Ending) (w' : World) : Prop := ∃ T, (∀ o, o < G.n → (T o = true ↔ inG G o)) ∧ e = .returned (.int .i64 (wsum csL (dh G).K T G.n : Nat)) ∧ Below w.heap.size w w'
set_option maxRecDepth 20000 in
set_option maxHeartbeats 1000000 in
theorem gcount_any (gb hb base : Nat) (sz : Int) (nv : Value) (G : GG) (w : World) (h : GP w gb hb sz nv G.R) (hN : ND w base nv G) (hW : GW G) (hn : G.n ≤ 7036874417560) :
    Calls Try.prog 73 #[.pointer (some ⟨gb, 0, none⟩)] w (CtG G w) := by
  have C := gthere_any gb hb base sz nv G w h hN hW hn
  unfold ThG at C
  have hgb := h.lt
  have HH : Hid (GP w gb hb sz nv G.R) := h
  have HW : Hid (GW G) := hW
  obtain ⟨na, nc, hnv⟩ := hN.shape
  subst hnv
  have HND : Hid (ND w base (.slice na G.n nc) G) := hN
  obtain ⟨n, hnn⟩ : ∃ n, n = G.n := ⟨_, rfl⟩
  have HN : Hid (n = G.n) := hnn
  unfold CtG
  rw [← hnn] at C hn
  clear h hW hN hnn
  go_enter Try.func73, Try.ntmps73
  go_wp2_with fail
  refine C.mono ?_
  rintro e w1 ⟨T, rfl, tb, hT, B1⟩
  have HT : Hid (∀ o, o < n → (T o = true ↔ inG G o)) := hT
  clear C hT
  go_wp2
  go_loopw [4, 5] (fun sv iv wr => ∃ i : Nat, i ≤ n ∧ iv = .int .i64 i ∧ sv = .int .i64 (wsum csL (dh G).K T i : Nat) ∧ wr = w1) (fun _ iv _ => n - (intOf iv).toNat)
  case atStart => exact ⟨0, Nat.zero_le _, rfl, rfl, rfl⟩
  case round =>
    obtain ⟨i, hi, rfl, rfl, rfl⟩ := hrel
    have hws : wsum csL (dh G).K T i ≤ 7 * i := wsum_le csL_6 _ _ _
    by_cases hlt : i < n
    · have ti := tb.c i hlt
      have htl := tb.lt
      have hiG : i < G.n := by rw [← HN.out]; exact hlt
      have hib : (0 : Int) ≤ (i : Int) ∧ (i : Int) < (n : Int) := by omega
      cases hTi : T i with
      | true =>
        rw [hTi] at ti
        obtain ⟨ng, hna, hnb, hnl, hnc⟩ := HND.out.cells.2.2 i hiG
        subst hna
        have n0 : wr.cell? ⟨ng, i * 4, none⟩ = some (.int .u8 (G.c i)) := (B1.cell (p := ⟨ng, _, none⟩) hnl).trans hnc.c0
        have g2 : wr.cell? ⟨gb, 2, none⟩ = some (.slice (some ⟨ng, 0, none⟩) n nc) := by
          rw [HN.out]; exact (B1.cell (p := ⟨gb, _, none⟩) hgb).trans HH.out.n
        have hgr : gb < wr.heap.size := Nat.lt_of_lt_of_le hgb B1.size
        have hnr : ng < wr.heap.size := Nat.lt_of_lt_of_le hnl B1.size
        have C2 := gwords_any gb hb sz _ G.R (G.c i) wr (HH.out.below B1)
        obtain ⟨k, hk⟩ : ∃ k : Int, k = if G.c i = 78 then 4 else 3 := ⟨_, rfl⟩
        rw [← hk] at C2
        have hk4 : 0 ≤ k ∧ k ≤ 4 := by rw [hk]; split <;> omega
        have HS : Hid ((wsum csL (dh G).K T (i + 1) : Nat) = (wsum csL (dh G).K T i : Int) + k) := by
          show ((wsum csL (dh G).K T (i + 1) : Nat) : Int) = _
          rw [wsum_succ, if_pos hTi, hk, ← wof_L HW.out hiG]; omega
        obtain ⟨cc, hcc⟩ : ∃ cc, cc = G.c i := ⟨_, rfl⟩
        rw [← hcc] at n0 C2
        clear hk hTi hcc
        go_wp2_with fail
        refine C2.mono ?_
        rintro e w2 ⟨rfl, rfl⟩
        go_wp2
        exact ⟨⟨i + 1, by omega, rfl, by rw [HS.out], trivial⟩, by simp [intOf]; omega⟩
      | false =>
        rw [hTi] at ti
        have HS : Hid ((wsum csL (dh G).K T (i + 1)) = (wsum csL (dh G).K T i)) := by
          show _ = _; rw [wsum_succ, if_neg (by rw [hTi]; decide)]; rfl
        clear hTi
        go_wp2
        exact ⟨⟨i + 1, by omega, rfl, by rw [HS.out], trivial⟩, by simp [intOf]; omega⟩
    · obtain rfl : i = n := by omega
      go_wp2
      go_ret
      exact ⟨T, by rw [← HN.out]; exact HT.out, by rw [← HN.out]; rfl, B1⟩
set_option maxRecDepth 20000 in
set_option maxHeartbeats 1000000 in
theorem grefer_any (gb hb base : Nat) (sz : Int) (nv : Value) (G : GG) (o : Nat) (f : Int) (w : World) (h : GP w gb hb sz nv G.R) (hN : ND w base nv G) (ho : o < G.n) :
    Calls Try.prog 76 #[.pointer (some ⟨gb, 0, none⟩), .int .i64 o, .int .u8 f] w fun e w' => e = .returned (.tuple #[.int .i64 (if f = 97 then G.a o else G.b o), .bool (if f = 97 then true else G.c o == 78)]) ∧ Below w.heap.size w w' := by
  obtain ⟨na, nc, hnv⟩ := hN.shape
  subst hnv
  obtain ⟨ng, hna, hnb, hnl, hnc⟩ := hN.cells.2.2 o ho
  subst hna
  have n0 := hnc.c0
  have n2 := hnc.c2
  have n3 := hnc.c3
  have g2 := h.n
  have g4 := h.t
  have hgb := h.lt
  obtain ⟨n, hnn⟩ : ∃ n, n = G.n := ⟨_, rfl⟩
  rw [← hnn] at g2 ho
  have hob : (0 : Int) ≤ (o : Int) ∧ (o : Int) < (n : Int) := by omega
  obtain ⟨cc, hcc⟩ : ∃ cc, cc = G.c o := ⟨_, rfl⟩
  obtain ⟨ca, hca⟩ : ∃ ca, ca = G.a o := ⟨_, rfl⟩
  obtain ⟨cb, hcb⟩ : ∃ cb, cb = G.b o := ⟨_, rfl⟩
  rw [← hcc] at n0 ⊢
  rw [← hca] at n2 ⊢
  rw [← hcb] at n3 ⊢
  clear h hN hnc hnn hcc hca hcb
  by_cases hf : f = 97
  · have e1 : (f == 97) = true := by simp [hf]
    rw [if_pos hf, if_pos hf]
    clear hf
    go_enter Try.func76, Try.ntmps76
    go_wp2
    go_ret2
    exact ⟨rfl, Below.refl _ _⟩
  · have e1 : (f == 97) = false := by simp [hf]
    rw [if_neg hf, if_neg hf]
    clear hf
    go_enter Try.func76, Try.ntmps76
    go_wp2
    go_quiet (fail)
    go_wp2
    go_ret2
    exact ⟨rfl, gb_below_drewN _ _⟩
end Go.Proofs.Ytbgilndohccicab
namespace Go.Proofs.Ytbgilndohccicab
open Go.RowKit

/-- The blocks of P stay as they are. -/
structure Prot (P : Nat → Prop) (w w' : World) : Prop where
  os : w'.os = w.os
  tape : w'.tape = w.tape
  output : w'.output = w.output
  size : w.heap.size ≤ w'.heap.size
  block : ∀ k, P k → w'.heap[k]? = w.heap[k]?
theorem Prot.refl (P : Nat → Prop) (w : World) : Prot P w w := ⟨rfl, rfl, rfl, Nat.le_refl _, fun _ _ => rfl⟩
theorem Prot.trans {P : Nat → Prop} {a b c : World} (h : Prot P a b) (k : Prot P b c) : Prot P a c := ⟨k.os.trans h.os, k.tape.trans h.tape, k.output.trans h.output, Nat.le_trans h.size k.size, fun i hi => (k.block i hi).trans (h.block i hi)⟩
theorem Prot.of {P : Nat → Prop} {w w' : World} (hP : ∀ k, P k → k < w.heap.size) (b : Below w.heap.size w w') : Prot P w w' := ⟨b.os, b.tape, b.output, b.size, fun k hk => b.block k (hP k hk)⟩
theorem Prot.gb {P : Nat → Prop} {w w' : World} {r : Option Nat} (hP : ∀ k, P k → k < w.heap.size) (g : w.grownBy w' r) (hr : ∀ b, r = some b → ¬ P b) : Prot P w w' := ⟨g.os, g.tape, g.output, g.size, fun k hk => g.block k (hP k hk) (fun e => hr k e.symm hk)⟩
theorem Prot.setCell {P : Nat → Prop} {w w' : World} (h : Prot P w w') {p : Addr} (hp : ¬ P p.block) (v : Value) : Prot P w (w'.setCell p v) := ⟨h.os, h.tape, h.output, by simpa [World.setCell] using h.size, fun k hk => (heap_setCell_other _ _ _ _ (fun e => hp (by rw [← e]; exact hk))).trans (h.block k hk)⟩
theorem pl_set {P : Nat → Prop} {w : World} (h : ∀ k, P k → k < w.heap.size) (a : Addr) (v : Value) : ∀ k, P k → k < (w.setCell a v).heap.size := fun k hk => by simpa [World.setCell] using h k hk
theorem Prot.lt {P : Nat → Prop} {w w' : World} (h : Prot P w w') (hP : ∀ k, P k → k < w.heap.size) : ∀ k, P k → k < w'.heap.size := fun k hk => Nat.lt_of_lt_of_le (hP k hk) h.size

theorem Sim.congrD {cs : Sch} {p : PH} {r r' : DH} (h : Sim cs p r) (eR : ∀ i, i < 8 → r'.R i = r.R i) (en : r'.n = r.n) (eK : ∀ x, 0 < x → x ≤ r.n → r'.K x = r.K x) (eC : ∀ x j, 0 < x → x ≤ r.n → r'.C x j = r.C x j) : Sim cs p r' := by
  obtain ⟨M, h⟩ := h
  refine ⟨M, h.fn, h.inj, fun a b hm => by rw [en]; exact h.pos a b hm, fun i hi => by rw [eR i hi]; exact h.root i hi, fun a b hm => ?_, h.has, fun a b hm j f hf hk => ?_, fun a b hm j f hf hk => ?_, h.nor⟩
  · have := h.pos a b hm; rw [eK b this.2.2.1 this.2.2.2]; exact h.cls a b hm
  · have := h.pos a b hm; rw [eC b j this.2.2.1 this.2.2.2]; exact h.num a b hm j f hf hk
  · have := h.pos a b hm; rw [eC b j this.2.2.1 this.2.2.2]; exact h.ref a b hm j f hf hk
/-- What is found in the graph. -/
theorem gf_nil {G : GG} (x : Int) {i : Nat} (hi : i < 8) (h : G.R i < 0) : ffind csL (dh G).R (dh G).K i x = ⟨0, 0, 0, 9⟩ := by
  unfold ffind
  have e : (dh G).R (i : Int).toNat = 0 := by show (G.R i + 1).toNat = 0; omega
  rw [if_neg (by unfold rtB; rw [decide_eq_true (show (0 : Int) ≤ i by omega), decide_eq_true (show (i : Int) < 8 by omega)]; decide), if_pos e]
theorem gf_obj {G : GG} (x : Int) {i o : Nat} (hi : i < 8) (h : G.R i = o) : ffind csL (dh G).R (dh G).K i x =
    if idxF (fof csL (G.c o)) x < 0 then ⟨0, 0, 0, 5⟩ else ⟨o + 1, (idxF (fof csL (G.c o)) x).toNat, ((fof csL (G.c o))[(idxF (fof csL (G.c o)) x).toNat]?.getD (0, 0)).2, 0⟩ := by
  unfold ffind
  have e : (dh G).R (i : Int).toNat = o + 1 := by show (G.R i + 1).toNat = o + 1; omega
  have ek : (dh G).K (o + 1) = G.c o := by show G.c (o + 1 - 1) = _; rw [Nat.add_sub_cancel]
  rw [if_neg (by unfold rtB; rw [decide_eq_true (show (0 : Int) ≤ i by omega), decide_eq_true (show (i : Int) < 8 by omega)]; decide), e, if_neg (by omega), ek]
theorem gf_v {G : GG} (hW : GW G) {i o : Nat} (hi : i < 8) (ho : o < G.n) (h : G.R i = o) : ffind csL (dh G).R (dh G).K i 118 = ⟨o + 1, 0, if G.c o = 78 then 108 else 119, 0⟩ := by
  rw [gf_obj 118 hi h]
  rcases hW.c o ho with hc | ⟨hc, _⟩ <;> rw [hc] <;> rfl
theorem gf_a {G : GG} (hW : GW G) {i o : Nat} (hi : i < 8) (ho : o < G.n) (h : G.R i = o) : ffind csL (dh G).R (dh G).K i 97 = ⟨o + 1, 1, 114, 0⟩ := by
  rw [gf_obj 97 hi h]
  rcases hW.c o ho with hc | ⟨hc, _⟩ <;> rw [hc] <;> rfl
theorem gf_b {G : GG} (hW : GW G) {i o : Nat} (hi : i < 8) (ho : o < G.n) (h : G.R i = o) : ffind csL (dh G).R (dh G).K i 98 = if G.c o = 78 then ⟨o + 1, 2, 114, 0⟩ else ⟨0, 0, 0, 5⟩ := by
  rw [gf_obj 98 hi h]
  rcases hW.c o ho with hc | ⟨hc, _⟩ <;> rw [hc] <;> rfl
theorem rtB_of {i : Nat} (hi : i < 8) : rtB (i : Int) = true := by
  unfold rtB; rw [decide_eq_true (show (0 : Int) ≤ i by omega), decide_eq_true (show (i : Int) < 8 by omega)]; rfl
/-- The heap and the graph beside each other. -/
structure LK (w : World) (P : Nat → Prop) (gb lo hi hb : Nat) (sv : SV) (vs : List (Int × SV)) (sz : Int) (nv : Value) (p : PH) (G : GG) : Prop where
  hp : HP w hb sv sz p.R p.K p.N p.F
  cl : ClsIn w lo hi (.slice sv.a sv.n sv.c) vs csL
  gp : GP w gb hb sz nv G.R
  nd : ND w (hb + 1) nv G
  n0 : ¬ P gb
  n1 : ¬ P hb
  n2 : ∀ g, nv.ownBlock = some g → ¬ P g
  pl : ∀ k, P k → k < w.heap.size
  b1 : gb < lo
  b2 : hi ≤ hb
  b3 : lo ≤ hi
  pw : Pw p
  sim : Sim csL p (dh G)
  gw : GW G
  s0 : 0 ≤ sz
  s1 : sz ≤ 200
/-- A call on the heap. -/
theorem LK.heap {w w' : World} {P : Nat → Prop} {gb lo hi hb : Nat} {sv : SV} {vs : List (Int × SV)} {sz : Int} {nv : Value} {p p' : PH} {G : GG} (h : LK w P gb lo hi hb sv vs sz nv p G) (hp : HP w' hb sv sz p'.R p'.K p'.N p'.F) (g : w.grownBy w' (some hb)) (pw : Pw p') :
    HP w' hb sv sz p'.R p'.K p'.N p'.F ∧ ClsIn w' lo hi (.slice sv.a sv.n sv.c) vs csL ∧ GP w' gb hb sz nv G.R ∧ ND w' (hb + 1) nv G ∧ Pw p' ∧ Prot P w w' := by
  have h1 := h.b1; have h2 := h.b2; have h3 := h.b3
  have hl := h.hp.lt
  refine ⟨hp, h.cl.keep fun b _ hb' => g.block b (by omega) (fun e => by injection e with e; omega), h.gp.keep (g.block gb h.gp.lt (fun e => by injection e with e; omega)), h.nd.kept g (by omega), pw, ?_⟩
  exact Prot.gb h.pl g (fun b e => by injection e with e; subst e; exact h.n1)
/-- A root of the graph is set. -/
theorem GP.setR {w : World} {gb hb : Nat} {sz : Int} {nv : Value} {R : Nat → Int} (h : GP w gb hb sz nv R) {i : Nat} (hi : i < 8) (y : Int) : GP (w.setCell ⟨gb, 3 + i, none⟩ (.int .i64 y)) gb hb sz nv (set1 R i y) := by
  refine ⟨by rw [scOff w _ (by omega)]; exact h.h, by rw [scOff w _ (by omega)]; exact h.s, by rw [scOff w _ (by omega)]; exact h.n, fun j hj => ?_, by rw [scOff w _ (by omega)]; exact h.t, fun o => by simpa using h.frz o⟩
  by_cases e : j = i
  · subst e
    have := h.r j hj
    have hl := h.lt
    rw [set1_self]
    go_simp
  · rw [set1_ne _ _ e, scOff w _ (by omega)]; exact h.r j hj
theorem GP.setN {w : World} {gb hb : Nat} {sz : Int} {nv : Value} {R : Nat → Int} (h : GP w gb hb sz nv R) (v : Value) : GP (w.setCell ⟨gb, 2, none⟩ v) gb hb sz v R := by
  have hn := h.n
  have hl := h.lt
  refine ⟨by rw [scOff w _ (by omega)]; exact h.h, by rw [scOff w _ (by omega)]; exact h.s, by go_simp, fun j hj => by rw [scOff w _ (by omega)]; exact h.r j hj, by rw [scOff w _ (by omega)]; exact h.t, fun o => by simpa using h.frz o⟩
/-- What a step of the graph leaves. -/
def GOk (P : Nat → Prop) (gb lo hi hb : Nat) (sv : SV) (vs : List (Int × SV)) (sz : Int) (N : Nat → Nat → Int) (G : GG) (w : World) (e : Ending) (w' : World) : Prop := e = .returned (.bool true) ∧ Prot P w w' ∧ ∃ nv p, LK w' P gb lo hi hb sv vs sz nv p G ∧ ∀ j, p.N 201 j = N 201 j
theorem GW.setR {G : GG} (h : GW G) {i : Nat} {y : Int} (h1 : -1 ≤ y) (h2 : y < G.n) : GW { G with R := set1 G.R i y } := by
  refine ⟨fun j hj => ?_, h.a, h.b, h.c, h.v⟩
  show -1 ≤ set1 G.R i y j ∧ set1 G.R i y j < G.n
  by_cases e : j = i
  · subst e; rw [set1_self]; exact ⟨h1, h2⟩
  · rw [set1_ne _ _ e]; exact h.R j hj
theorem LK.setR {w : World} {P : Nat → Prop} {gb lo hi hb : Nat} {sv : SV} {vs : List (Int × SV)} {sz : Int} {nv : Value} {p p0 : PH} {G : GG} (h : LK w P gb lo hi hb sv vs sz nv p0 G) (hp : HP w hb sv sz p.R p.K p.N p.F) (pw : Pw p) {i : Nat} (hi' : i < 8) {y : Int} (h1 : -1 ≤ y) (h2 : y < G.n) (hs : Sim csL p { dh G with R := set1 (dh G).R i (y + 1).toNat }) :
    LK (w.setCell ⟨gb, 3 + i, none⟩ (.int .i64 y)) P gb lo hi hb sv vs sz nv p { G with R := set1 G.R i y } := by
  have q1 := h.b1; have q2 := h.b2; have q3 := h.b3
  refine ⟨?_, h.cl.keep fun b hb1 _ => heap_setCell_other _ _ _ _ (by show b ≠ gb; omega), h.gp.setR hi' y, ?_, h.n0, h.n1, h.n2, pl_set h.pl _ _, h.b1, h.b2, h.b3, pw, ?_, h.gw.setR h1 h2, h.s0, h.s1⟩
  · exact hp.kept (heap_setCell_other _ _ _ _ (by show hb ≠ gb; omega))
  · exact h.nd.kept (gb_set w gb (3 + i) _) (by omega)
  · have e : dh { G with R := set1 G.R i y } = { dh G with R := set1 (dh G).R i (y + 1).toNat } := by
      unfold dh
      congr 1
      funext j
      show (set1 G.R i y j + 1).toNat = set1 (fun i => (G.R i + 1).toNat) i (y + 1).toNat j
      by_cases e : j = i
      · subst e; rw [set1_self, set1_self]
      · rw [set1_ne _ _ e, set1_ne _ _ e]
    rw [e]; exact hs
end Go.Proofs.Ytbgilndohccicab
namespace Go.Proofs.Ytbgilndohccicab
open Go.RowKit

theorem frf_ok (f : FF) {t : Nat} (ht : t < 8) : frf f (t : Int) = fref f := by unfold frf; rw [rtB_of ht]; rfl
/-- Which reference a letter means. -/
def refI (G : GG) (o : Nat) (f : Int) : Int := if f = 97 then G.a o else G.b o
def refB (G : GG) (o : Nat) (f : Int) : Bool := if f = 97 then true else G.c o == 78
theorem refI_bd {G : GG} (h : GW G) {o : Nat} (ho : o < G.n) (f : Int) : -1 ≤ refI G o f ∧ refI G o f < G.n := by
  unfold refI; split
  · exact h.a o ho
  · exact h.b o ho
/-- What a reference's letter finds. -/
theorem gf_ref {G : GG} (hW : GW G) {i o : Nat} (hi : i < 8) (ho : o < G.n) (h : G.R i = o) {f : Int} (hf : f = 97 ∨ f = 98) :
    (refB G o f = true → ∃ j : Nat, ffind csL (dh G).R (dh G).K i f = ⟨o + 1, j, 114, 0⟩ ∧ (j = if f = 97 then 1 else 2) ∧ (dh G).C (o + 1) j = refI G o f + 1) ∧ (refB G o f = false → ffind csL (dh G).R (dh G).K i f = ⟨0, 0, 0, 5⟩) := by
  have c1 : ∀ j, (dh G).C (o + 1) j = if j = 0 then G.v o else if j = 1 then G.a o + 1 else if j = 2 then G.b o + 1 else 0 := by
    intro j
    show (if j = 0 then G.v (o + 1 - 1) else if j = 1 then G.a (o + 1 - 1) + 1 else if j = 2 then G.b (o + 1 - 1) + 1 else 0) = _
    rw [Nat.add_sub_cancel]
  unfold refB refI
  rcases hf with rfl | rfl
  · refine ⟨fun _ => ⟨1, gf_a hW hi ho h, rfl, by rw [c1]; rfl⟩, fun h => by simp at h⟩
  · rw [if_neg (by decide), if_neg (by decide), if_neg (by decide), gf_b hW hi ho h]
    refine ⟨fun hc => ⟨2, by rw [if_pos (by simpa using hc)], rfl, by rw [c1]; rfl⟩, fun hc => by rw [if_neg (by simpa using hc)]⟩
theorem LK.kept {w w' : World} {P : Nat → Prop} {gb lo hi hb : Nat} {sv : SV} {vs : List (Int × SV)} {sz : Int} {nv : Value} {p : PH} {G : GG} (h : LK w P gb lo hi hb sv vs sz nv p G) (hp : HP w' hb sv sz p.R p.K p.N p.F) (g : w.grownBy w' (some hb)) : LK w' P gb lo hi hb sv vs sz nv p G ∧ Prot P w w' := by
  obtain ⟨a, b, c, d, e, f⟩ := h.heap hp g h.pw
  exact ⟨⟨a, b, c, d, h.n0, h.n1, h.n2, f.lt h.pl, h.b1, h.b2, h.b3, h.pw, h.sim, h.gw, h.s0, h.s1⟩, f⟩
theorem LK.below {w w' : World} {P : Nat → Prop} {gb lo hi hb : Nat} {sv : SV} {vs : List (Int × SV)} {sz : Int} {nv : Value} {p : PH} {G : GG} (h : LK w P gb lo hi hb sv vs sz nv p G) (b : Below w.heap.size w w') : LK w' P gb lo hi hb sv vs sz nv p G := (h.kept (h.hp.below b) (gb_below b _)).1
theorem LK.bB {w w' : World} {P : Nat → Prop} {gb lo hi hb : Nat} {sv : SV} {vs : List (Int × SV)} {sz : Int} {nv : Value} {p : PH} {G : GG} (h : LK w P gb lo hi hb sv vs sz nv p G) (b : Below w.heap.size w w') : Prot P w w' := Prot.of h.pl b
/-- What follow makes of the graph. -/
def folG (G : GG) (root : Nat) (f : Int) (tq : Nat) : GG := if G.R root < 0 then G else if refB G (G.R root).toNat f = true then { G with R := set1 G.R tq (refI G (G.R root).toNat f) } else G
theorem pfol_pw {p : PH} (hP : Pw p) (root name tq : Int) : Pw (pfolD csL p root name tq) := by
  unfold pfolD
  split
  · rename_i h
    obtain ⟨_, hfe, _⟩ := frf_e0 h
    have hbd := ffind_bd (K := p.K) (root := root) (letter := name) hP.root csL_6 hfe
    exact hP.setRoot _ _ (hP.ref _ _ hbd.2.1 hbd.2.2)
  · exact hP
set_option maxRecDepth 20000 in
set_option maxHeartbeats 1000000 in
theorem gfollow_any {P : Nat → Prop} {gb lo hi hb : Nat} {sv : SV} {vs : List (Int × SV)} {sz : Int} {nv : Value} {p : PH} {G : GG} {w : World} (h : LK w P gb lo hi hb sv vs sz nv p G) (root tq : Nat) (hr : root < 8) (ht : tq < 8) (f : Int) (hf : f = 97 ∨ f = 98) :
    Calls Try.prog 49 #[.pointer (some ⟨gb, 0, none⟩), .int .i64 root, .int .u8 f, .int .i64 tq] w (GOk P gb lo hi hb sv vs sz p.N (folG G root f tq) w) := by
  have C := pfollow_any hb sv sz p lo vs csL w h.hp h.cl.cls h.pw csL_6 root f tq
  unfold POp at C
  rw [frf_ok _ ht, ref_meet h.sim root f] at C
  have HL : Hid (LK w P gb lo hi hb sv vs sz nv p G) := h
  have g0 := h.gp.h
  have hgb := h.gp.lt
  have hRr := h.gw.R root hr
  have hrb : (0 : Int) ≤ (root : Int) ∧ (root : Int) < 8 := by omega
  have htb : (0 : Int) ≤ (tq : Int) ∧ (tq : Int) < 8 := by omega
  obtain ⟨y, hy⟩ : ∃ y, y = G.R root := ⟨_, rfl⟩
  have HY : Hid (y = G.R root) := hy
  unfold GOk
  by_cases h0 : G.R root < 0
  · have HG : Hid (folG G root f tq = G) := by show folG G root f tq = G; unfold folG; rw [if_pos h0]
    have e9 : (fref (ffind csL (dh G).R (dh G).K root f)).e = 9 := by rw [gf_nil f hr h0]; rfl
    have ep : pfolD csL p root f tq = p := by
      unfold pfolD; rw [if_neg]; rw [frf_ok _ ht, ref_meet h.sim, e9]; decide
    rw [e9, ep] at C
    have hy0 : y < 0 := by rw [hy]; exact h0
    clear h hy h0 e9 ep hRr
    go_enter Try.func49, Try.ntmps49
    go_wp2_with fail
    refine C.mono ?_
    rintro e w1 ⟨rfl, hp1, g1⟩
    obtain ⟨L1, B1⟩ := HL.out.kept hp1 g1
    have cr : w1.cell? ⟨gb, 3 + root, none⟩ = some (.int .i64 y) := by rw [HY.out]; exact L1.gp.r root hr
    have hg1 := L1.gp.lt
    have HF : Hid (LK w1 P gb lo hi hb sv vs sz nv p G ∧ Prot P w w1) := ⟨L1, B1⟩
    clear C L1 B1 hp1 g1 g0
    go_wp2
    go_ret
    rw [HG.out]
    exact ⟨rfl, HF.out.2, _, _, HF.out.1, fun _ => rfl⟩
  · obtain ⟨o, ho⟩ : ∃ o : Nat, G.R root = o := ⟨(G.R root).toNat, by omega⟩
    have hoG : o < G.n := by omega
    obtain ⟨F1, F2⟩ := gf_ref h.gw hr hoG ho hf
    have hyo : y = o := by rw [hy]; exact ho
    subst hyo
    have hny : ¬ (o : Int) < 0 := by omega
    cases hB : refB G o f with
    | false =>
      have HG : Hid (folG G root f tq = G) := by show folG G root f tq = G; unfold folG; rw [if_neg h0, ho, Int.toNat_natCast, hB, if_neg (by decide)]
      have e5 : (fref (ffind csL (dh G).R (dh G).K root f)).e = 5 := by rw [F2 hB]; rfl
      have ep : pfolD csL p root f tq = p := by
        unfold pfolD; rw [if_neg]; rw [frf_ok _ ht, ref_meet h.sim, e5]; decide
      rw [e5, ep] at C
      have HRB : Hid (refB G o f = false) := hB
      clear h hy h0 e5 ep hRr F1 F2 hB ho
      go_enter Try.func49, Try.ntmps49
      go_wp2_with fail
      refine C.mono ?_
      rintro e w1 ⟨rfl, hp1, g1⟩
      obtain ⟨L1, B1⟩ := HL.out.kept hp1 g1
      have cr : w1.cell? ⟨gb, 3 + root, none⟩ = some (.int .i64 (o : Int)) := by rw [HY.out]; exact L1.gp.r root hr
      have hg1 := L1.gp.lt
      have C2 := grefer_any gb hb (hb + 1) sz nv G o f w1 L1.gp L1.nd hoG
      obtain ⟨x, hx⟩ : ∃ x, x = refI G o f := ⟨_, rfl⟩
      have C2' : Calls Try.prog 76 #[.pointer (some ⟨gb, 0, none⟩), .int .i64 o, .int .u8 f] w1 fun e w' => e = .returned (.tuple #[.int .i64 x, .bool false]) ∧ Below w1.heap.size w1 w' := by
        rw [hx, ← HRB.out]; exact C2
      have HF : Hid (LK w1 P gb lo hi hb sv vs sz nv p G ∧ Prot P w w1) := ⟨L1, B1⟩
      clear C L1 B1 hp1 g1 g0 C2 hx
      go_wp2_with fail
      refine C2'.mono ?_
      rintro e w2 ⟨rfl, B2⟩
      have HF2 : Hid (LK w2 P gb lo hi hb sv vs sz nv p G ∧ Prot P w w2) := ⟨HF.out.1.below B2, HF.out.2.trans (HF.out.1.bB B2)⟩
      clear C2' B2
      go_wp2
      go_ret
      rw [HG.out]
      exact ⟨rfl, HF2.out.2, _, _, HF2.out.1, fun _ => rfl⟩
    | true =>
      have HG : Hid (folG G root f tq = { G with R := set1 G.R tq (refI G o f) }) := by show folG G root f tq = _; unfold folG; rw [if_neg h0, ho, Int.toNat_natCast, hB, if_pos rfl]
      have HNN : Hid (∀ j, (pfolD csL p root f tq).N 201 j = p.N 201 j) := by intro j; unfold pfolD; split <;> rfl
      obtain ⟨j, fj, _, fc⟩ := F1 hB
      have e0 : (fref (ffind csL (dh G).R (dh G).K root f)).e = 0 := by rw [fj]; rfl
      have e0' : (fref (ffind csL p.R p.K root f)).e = 0 := by rw [ref_meet h.sim]; exact e0
      have hpw := pfol_pw h.pw root f tq
      have hsim : Sim csL (pfolD csL p root f tq) { dh G with R := set1 (dh G).R tq (refI G o f + 1).toNat } := by
        have := follow_meet h.sim root f tq e0'
        rw [fj] at this
        simp only [] at this
        rw [fc] at this
        have ep : pfolD csL p root f tq = { p with R := set1 p.R tq (p.F (ffind csL p.R p.K root f).n (ffind csL p.R p.K root f).i) } := by
          unfold pfolD; rw [if_pos (by rw [frf_ok _ ht]; exact e0'), Int.toNat_natCast]
        rw [ep]; exact this
      rw [e0] at C
      have hbd := refI_bd h.gw hoG f
      have HRB : Hid (refB G o f = true) := hB
      generalize pfolD csL p root f tq = p' at C hpw hsim HNN
      obtain ⟨x, hx⟩ : ∃ x, x = refI G o f := ⟨_, rfl⟩
      rw [← hx] at hsim hbd
      have HX : Hid (x = refI G o f) := hx
      have HS : Hid (Sim csL p' { dh G with R := set1 (dh G).R tq (x + 1).toNat }) := hsim
      clear h hy h0 e0 e0' hRr F2 hB ho hx hsim F1 fj fc
      go_enter Try.func49, Try.ntmps49
      go_wp2_with fail
      refine C.mono ?_
      rintro e w1 ⟨rfl, hp1, g1⟩
      obtain ⟨P1, P2, P3, P4, P5, P6⟩ := HL.out.heap hp1 g1 hpw
      have cr : w1.cell? ⟨gb, 3 + root, none⟩ = some (.int .i64 (o : Int)) := by rw [HY.out]; exact P3.r root hr
      have hg1 := P3.lt
      have C2 := grefer_any gb hb (hb + 1) sz nv G o f w1 P3 P4 hoG
      have C2' : Calls Try.prog 76 #[.pointer (some ⟨gb, 0, none⟩), .int .i64 o, .int .u8 f] w1 fun e w' => e = .returned (.tuple #[.int .i64 x, .bool true]) ∧ Below w1.heap.size w1 w' := by
        rw [HX.out, ← HRB.out]; exact C2
      have HP1 : Hid (HP w1 hb sv sz p'.R p'.K p'.N p'.F ∧ ClsIn w1 lo hi (.slice sv.a sv.n sv.c) vs csL ∧ GP w1 gb hb sz nv G.R ∧ ND w1 (hb + 1) nv G ∧ Prot P w w1) := ⟨P1, P2, P3, P4, P6⟩
      clear C hp1 g1 g0 C2 P1 P2 P3 P4 P5 P6
      go_wp2_with fail
      refine C2'.mono ?_
      rintro e w2 ⟨rfl, B2⟩
      obtain ⟨P1, P2, P3, P4, P6⟩ := HP1.out
      have G2 := P3.below B2
      have ct := G2.r tq ht
      have cf := G2.frz (3 + tq)
      have hg2 := G2.lt
      have HB2 : Hid (Below w1.heap.size w1 w2) := B2
      clear C2' B2 P1 P2 P3 P4 P6 G2
      go_wp2
      go_ret
      obtain ⟨P1, P2, P3, P4, P6⟩ := HP1.out
      have L0 := HL.out
      have hz := P3.lt
      have B12 : Prot P w w2 := P6.trans (Prot.of (P6.lt L0.pl) HB2.out)
      rw [HG.out, ← HX.out]
      refine ⟨rfl, B12.setCell L0.n0 _, nv, p', ?_, HNN.out⟩
      have cl2 : ClsIn w2 lo hi (.slice sv.a sv.n sv.c) vs csL := P2.keep fun b _ hb' => HB2.out.block b (by have := P1.lt; have := L0.b2; omega)
      have hq1 := L0.b1; have hq2 := L0.b2; have hq3 := L0.b3
      have e : dh { G with R := set1 G.R tq x } = { dh G with R := set1 (dh G).R tq (x + 1).toNat } := by
        unfold dh
        congr 1
        funext j
        show (set1 G.R tq x j + 1).toNat = set1 (fun i => (G.R i + 1).toNat) tq (x + 1).toNat j
        by_cases e : j = tq
        · subst e; rw [set1_self, set1_self]
        · rw [set1_ne _ _ e, set1_ne _ _ e]
      refine ⟨(P1.below HB2.out).kept (heap_setCell_other _ _ _ _ (by show hb ≠ gb; omega)), cl2.keep fun b hb1 _ => heap_setCell_other _ _ _ _ (by show b ≠ gb; omega), (P3.below HB2.out).setR ht x, (P4.below HB2.out).kept (gb_set w2 gb (3 + tq) _) (by omega), L0.n0, L0.n1, L0.n2, pl_set (B12.lt L0.pl) _ _, L0.b1, L0.b2, L0.b3, hpw, by rw [e]; exact HS.out, L0.gw.setR hbd.1 hbd.2, L0.s0, L0.s1⟩
end Go.Proofs.Ytbgilndohccicab
