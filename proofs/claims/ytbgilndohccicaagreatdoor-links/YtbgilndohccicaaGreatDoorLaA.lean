import Derived.Test.YtbgilndohccicaaGreatDoorRh7
import Derived.Test.YtbgilndohccicaaGreatDoorHf5
namespace Go.Proofs.YtbgilndohccicaaGreatDoor
open Go.RowKit

/-- What is known of a pair: where both heaps lie, and what they hold. -/
structure PD where
  lo : Nat
  hi : Nat
  sv : SV
  vs : List (Int × SV)
  cs : Sch
  sz : Int
  p : PH
  x : RX
  r : DH
def PD.fp (d : PD) (hb rb b : Nat) : Prop := (d.lo ≤ b ∧ b ≤ hb) ∨ d.x.has d.cs d.r.n rb b
structure PairOK (w : World) (hb rb : Nat) (d : PD) (mx : Nat) : Prop where
  hp : HP w hb d.sv d.sz d.p.R d.p.K d.p.N d.p.F
  cl : ClsIn w d.lo d.hi (.slice d.sv.a d.sv.n d.sv.c) d.vs d.cs
  lh : d.hi ≤ hb
  rp : RP w rb d.x d.cs d.sz d.r
  pw : Pw d.p
  wf : Wf d.cs d.r
  sim : Sim d.cs d.p d.r
  n6 : d.cs.length ≤ 6
  okc : ∀ c ∈ d.cs, okC c
  s1 : 1 ≤ d.sz
  s2 : d.sz ≤ 200
  mx : d.r.n ≤ mx
  dj : ∀ b, d.x.has d.cs d.r.n rb b → ¬ (d.lo ≤ b ∧ b ≤ hb)
theorem PairOK.h6 {w : World} {hb rb : Nat} {d : PD} {mx : Nat} (h : PairOK w hb rb d mx) : ∀ c ∈ d.cs, c.2.length ≤ 6 := fun c hc => (h.okc c hc).1
theorem PairOK.hz {w : World} {hb rb : Nat} {d : PD} {mx : Nat} (h : PairOK w hb rb d mx) : ∀ c ∈ d.cs, ∀ f ∈ c.2, f.1 ≠ 0 := fun c hc f hf => by have := ((h.okc c hc).2 f hf).1; omega
theorem PairOK.loh {w : World} {hb rb : Nat} {d : PD} {mx : Nat} (h : PairOK w hb rb d mx) (h0 : d.lo ≤ hb) : ¬ d.x.has d.cs d.r.n rb hb := fun hh => h.dj hb hh ⟨h0, Nat.le_refl _⟩
theorem PairOK.fp_lt {w : World} {hb rb : Nat} {d : PD} {mx b : Nat} (h : PairOK w hb rb d mx) (hb' : d.fp hb rb b) : b < w.heap.size := by
  rcases hb' with ⟨_, h2⟩ | h2
  · exact Nat.lt_of_le_of_lt h2 h.hp.lt
  · exact h.rp.has_lt h2
theorem PairOK.keep {w w' : World} {hb rb : Nat} {d : PD} {mx mx' : Nat} (h : PairOK w hb rb d mx) (hlo : d.lo ≤ hb) (hs : w.heap.size ≤ w'.heap.size) (e : ∀ b, d.fp hb rb b → w'.heap[b]? = w.heap[b]?) (hm : mx ≤ mx') : PairOK w' hb rb d mx' :=
  ⟨h.hp.kept (e hb (.inl ⟨hlo, Nat.le_refl _⟩)), h.cl.keep fun b h1 h2 => e b (.inl ⟨h1, by have := h.lh; omega⟩), h.lh, h.rp.keep hs fun b hx => e b (.inr hx), h.pw, h.wf, h.sim, h.n6, h.okc, h.s1, h.s2, Nat.le_trans h.mx hm, h.dj⟩
/-- Behind the program's call: the document's heap is as it was. -/
theorem PairOK.afterP {w w1 : World} {hb rb : Nat} {d : PD} {mx : Nat} (h : PairOK w hb rb d mx) (hlo : d.lo ≤ hb) (g : w.grownBy w1 (some hb)) : RP w1 rb d.x d.cs d.sz d.r ∧ ClsIn w1 d.lo d.hi (.slice d.sv.a d.sv.n d.sv.c) d.vs d.cs := by
  have hbl := h.hp.lt
  refine ⟨h.rp.keep g.size fun b hx => g.block b (h.rp.has_lt hx) (fun e => ?_), h.cl.keep fun b h1 h2 => g.block b (by have := h.lh; omega) (fun e => ?_)⟩
  · injection e with e; subst e; exact h.loh hlo hx
  · injection e with e; have := h.lh; omega
/-- Behind both calls. -/
theorem PairOK.done {w w1 w2 : World} {hb rb : Nat} {d : PD} {mx : Nat} (h : PairOK w hb rb d mx) (hlo : d.lo ≤ hb) (p' : PH) (x' : RX) (r' : DH) (hp : HP w1 hb d.sv d.sz p'.R p'.K p'.N p'.F) (g : w.grownBy w1 (some hb)) (rp : RP w2 rb x' d.cs d.sz r') (gs : GS w1 w2 (d.x.has d.cs d.r.n rb))
    (hx : ∀ b, x'.has d.cs r'.n rb b → d.x.has d.cs d.r.n rb b ∨ w1.heap.size ≤ b) (pw : Pw p') (wf : Wf d.cs r') (sim : Sim d.cs p' r') (hn : r'.n ≤ mx + 1) :
    PairOK w2 hb rb { d with p := p', x := x', r := r' } (mx + 1) ∧ GS w w2 (d.fp hb rb) ∧ (∀ b, PD.fp { d with p := p', x := x', r := r' } hb rb b → d.fp hb rb b ∨ w.heap.size ≤ b) := by
  have hbl := h.hp.lt
  have hbl1 := hp.lt
  obtain ⟨rp1, cl1⟩ := h.afterP hlo g
  refine ⟨⟨?_, ?_, h.lh, rp, pw, wf, sim, h.n6, h.okc, h.s1, h.s2, hn, fun b hb' => ?_⟩, ?_, fun b hb' => ?_⟩
  · exact hp.kept (gs.block hb hbl1 (h.loh hlo))
  · refine cl1.keep fun b h1 h2 => gs.block b (by have := h.lh; omega) (fun hh => h.dj b hh ⟨h1, by have := h.lh; omega⟩)
  · rcases hx b hb' with hh | hh
    · exact h.dj b hh
    · intro hc; have := hc.2; omega
  · exact (GS.of_gb g (.inl ⟨hlo, Nat.le_refl _⟩)).trans (gs.mono fun k hk => .inr hk)
  · rcases hb' with hh | hh
    · exact .inl (.inl hh)
    · rcases hx b hh with hh | hh
      · exact .inl (.inr hh)
      · exact .inr (Nat.le_trans g.size hh)
theorem GS.below {w w1 w2 : World} {S : Nat → Prop} (h : Below w.heap.size w w1) (g : GS w1 w2 S) : GS w w2 S := (GS.of_below h).trans g
/-- A call of the script. -/
structure OpV where
  k : Int
  m : Int
  a : Int
  b : Int
  c : Int
  v : Int
  s : ByteArray
  t : ByteArray
def OpV.val (o : OpV) : Value := .agg #[.int .i64 o.k, .int .i64 o.m, .int .i64 o.a, .int .i64 o.b, .int .u8 o.c, .int .i64 o.v, .string o.s, .string o.t]
def OpV.cells (o : OpV) : Array Value := #[.int .i64 o.k, .int .i64 o.m, .int .i64 o.a, .int .i64 o.b, .int .u8 o.c, .int .i64 o.v, .string o.s, .string o.t]
structure OpV.ok (o : OpV) : Prop where
  v1 : -9223372036854775808 ≤ o.v
  v2 : o.v ≤ 9223372036854775807
  s : o.s.size ≤ 9223372036854775807
  t : o.t.size ≤ 9223372036854775807
  m1 : -9223372036854775808 ≤ o.m
  m2 : o.m ≤ 9223372036854775807
def LPost (hb rb : Nat) (d : PD) (mx : Nat) (w : World) (e : Ending) (w' : World) : Prop := e = .returned (.bool true) ∧ ∃ d', d'.lo ≤ hb ∧ PairOK w' hb rb d' (mx + 1) ∧ GS w w' (d.fp hb rb) ∧ (∀ b, d'.fp hb rb b → d.fp hb rb b ∨ w.heap.size ≤ b)
theorem class_pair {cs : Sch} {p : PH} {r : DH} (h : Sim cs p r) (a : Int) : pclsI p a = rclsI r a := by
  unfold pclsI rclsI
  split
  · rfl
  · rename_i h1
    obtain ⟨i, rfl, hi⟩ := rtB_nat (x := a) (by simpa using h1)
    rw [Int.toNat_natCast]
    obtain ⟨h2, h3⟩ := class_meet' h i hi
    by_cases e : p.R i = 0
    · rw [if_pos e, if_pos (h2.1 e)]
    · rw [if_neg e, if_neg (fun hh => e (h2.2 hh)), h3 e]
theorem same_pair {cs : Sch} {p : PH} {r : DH} (h : Sim cs p r) (a b : Int) : psameI p a b = rsameI r a b := by
  unfold psameI rsameI
  split
  · rename_i h1
    obtain ⟨i, rfl, hi⟩ := rtB_nat h1.1
    obtain ⟨j, rfl, hj⟩ := rtB_nat h1.2
    rw [Int.toNat_natCast, Int.toNat_natCast]
    have := same_meet h i j hi hj
    by_cases e : p.R i = p.R j
    · rw [decide_eq_true e, decide_eq_true (this.1 e)]
    · rw [decide_eq_false e, decide_eq_false (fun hh => e (this.2 hh))]
  · rfl
theorem wlist_wsum {cs : Sch} {p : PH} {r : DH} (h : Sim cs p r) (h6 : ∀ c ∈ cs, c.2.length ≤ 6) (hw : Wf cs r) (L : List Nat) (T : Nat → Bool) (hd : L.Nodup) (hm : ∀ a, a ∈ L ↔ p.in a) (hT : ∀ o, o < r.n → (T o = true ↔ r.in cs (o + 1))) : wlist cs p.K L = wsum cs r.K T r.n := by
  obtain ⟨M, hB⟩ := h
  exact hB.words h6 L (lst T r.n) hd (lst_nodup T r.n) hm (lst_mem hw hT)
end Go.Proofs.YtbgilndohccicaaGreatDoor
namespace Go.Proofs.YtbgilndohccicaaGreatDoor
open Go.RowKit

def boxed (w : World) (hb rb : Nat) (o : OpV) : World := (w.alloc (.cells #[.pointer (some ⟨hb, 0, none⟩), .pointer (some ⟨rb, 0, none⟩)] 41)).alloc (.cells o.cells 31)
theorem boxed_below (w : World) (hb rb : Nat) (o : OpV) : Below w.heap.size w (boxed w hb rb o) := ((Below.refl _ _).alloc (Nat.le_refl _) _).alloc (by simp) _
/-- The boxes of the arguments. -/
structure Bx (W : World) (n hb rb : Nat) (o : OpV) : Prop where
  lt : n + 1 < W.heap.size
  p : W.cell? ⟨n, 0, none⟩ = some (.pointer (some ⟨hb, 0, none⟩))
  r : W.cell? ⟨n, 1, none⟩ = some (.pointer (some ⟨rb, 0, none⟩))
  k : W.cell? ⟨n + 1, 0, none⟩ = some (.int .i64 o.k)
  a : W.cell? ⟨n + 1, 2, none⟩ = some (.int .i64 o.a)
  b : W.cell? ⟨n + 1, 3, none⟩ = some (.int .i64 o.b)
  c : W.cell? ⟨n + 1, 4, none⟩ = some (.int .u8 o.c)
  v : W.cell? ⟨n + 1, 5, none⟩ = some (.int .i64 o.v)
  s : W.cell? ⟨n + 1, 6, none⟩ = some (.string o.s)
theorem Bx.new (w : World) (hb rb : Nat) (o : OpV) : Bx (boxed w hb rb o) w.heap.size hb rb o := by
  have e1 := heap_alloc2_new w (.cells #[.pointer (some ⟨hb, 0, none⟩), .pointer (some ⟨rb, 0, none⟩)] 41) (.cells o.cells 31)
  have e0 := heap_alloc2_old w (.cells #[.pointer (some ⟨hb, 0, none⟩), .pointer (some ⟨rb, 0, none⟩)] 41) (.cells o.cells 31)
  unfold boxed
  exact ⟨by simp, cell_of_row _ _ 0 _ _ _ e0, cell_of_row _ _ 1 _ _ _ e0, cell_of_row _ _ 0 _ _ _ e1, cell_of_row _ _ 2 _ _ _ e1, cell_of_row _ _ 3 _ _ _ e1, cell_of_row _ _ 4 _ _ _ e1, cell_of_row _ _ 5 _ _ _ e1, cell_of_row _ _ 6 _ _ _ e1⟩
theorem Bx.keep {W W' : World} {n hb rb : Nat} {o : OpV} (h : Bx W n hb rb o) (hs : W.heap.size ≤ W'.heap.size) (e0 : W'.heap[n]? = W.heap[n]?) (e1 : W'.heap[n + 1]? = W.heap[n + 1]?) : Bx W' n hb rb o := by
  have c0 := fun x => World.cell?_of_block (a := ⟨n, x, none⟩) e0
  have c1 := fun x => World.cell?_of_block (a := ⟨n + 1, x, none⟩) e1
  exact ⟨Nat.lt_of_lt_of_le h.lt hs, (c0 _).trans h.p, (c0 _).trans h.r, (c1 _).trans h.k, (c1 _).trans h.a, (c1 _).trans h.b, (c1 _).trans h.c, (c1 _).trans h.v, (c1 _).trans h.s⟩
theorem Bx.gb {W W' : World} {n hb rb : Nat} {o : OpV} (h : Bx W n hb rb o) (g : W.grownBy W' (some hb)) (hn : hb < n) : Bx W' n hb rb o := by
  have := h.lt
  exact h.keep g.size (g.block n (by omega) (fun e => by injection e with e; omega)) (g.block (n + 1) (by omega) (fun e => by injection e with e; omega))
/-- All that a law's case begins with. -/
theorem PairOK.box {w : World} {hb rb : Nat} {d : PD} {mx : Nat} (h : PairOK w hb rb d mx) (hlo : d.lo ≤ hb) (o : OpV) : PairOK (boxed w hb rb o) hb rb d mx :=
  h.keep hlo (boxed_below w hb rb o).size (fun b hb' => (boxed_below w hb rb o).block b (h.fp_lt hb')) (Nat.le_refl _)
/-- .. and what it ends with. -/
theorem lpost_of {w w2 : World} {hb rb : Nat} {d d' : PD} {mx : Nat} {o : OpV} (h1 : PairOK w2 hb rb d' (mx + 1)) (hlo : d'.lo ≤ hb) (h2 : GS (boxed w hb rb o) w2 (d.fp hb rb)) (h3 : ∀ b, d'.fp hb rb b → d.fp hb rb b ∨ (boxed w hb rb o).heap.size ≤ b) : LPost hb rb d mx w (.returned (.bool true)) w2 :=
  ⟨rfl, d', hlo, h1, GS.below (boxed_below w hb rb o) h2, fun b hb' => (h3 b hb').imp id (fun h => Nat.le_trans (boxed_below w hb rb o).size h)⟩
theorem mkE_pm (cs : Sch) (sz root c : Int) (W : Nat) : pmE cs sz root c W = mkE cs sz root c W := rfl
theorem make_pair {cs : Sch} {p : PH} {r : DH} (h : Sim cs p r) (h6 : ∀ c ∈ cs, c.2.length ≤ 6) (a : Nat) (h0 : 0 < a) (h1 : a < 201) (hna : ¬ p.in a) (c : Int) (hc : (cs.any fun x => x.1 == c) = true) (i : Nat) : Sim cs (mkP p a c i) { mkD r c with R := set1 r.R i (r.n + 1) } := by
  obtain ⟨M, hB⟩ := h
  refine hB.make h6 a i c hna h0 h1 hc _ _ rfl rfl (fun x j hx => by simp [mkP, hx]) (fun j _ => by simp [mkP]) (fun x j hx => by simp [mkP, hx]) (fun j _ => by simp [mkP]) rfl (fun y _ hy => ?_) ?_ (fun y j _ hy => ?_) (fun j => ?_) rfl
  · show set1 r.K (r.n + 1) c y = r.K y; rw [set1_ne _ _ (by omega)]
  · show set1 r.K (r.n + 1) c (r.n + 1) = c; rw [set1_self]
  · show (if y = r.n + 1 then 0 else r.C y j) = r.C y j; rw [if_neg (by omega)]
  · show (if r.n + 1 = r.n + 1 then 0 else r.C (r.n + 1) j) = 0; rw [if_pos rfl]
theorem mkP_pw {p : PH} (h : Pw p) (a : Nat) (h1 : a < 201) (c : Int) (i : Nat) : Pw (mkP p a c i) := by
  refine ⟨fun k hk => ?_, fun x j hx hj => ?_⟩
  · show set1 p.R i a k < 201
    by_cases e : k = i
    · subst e; rw [set1_self]; exact h1
    · rw [set1_ne _ _ e]; exact h.root k hk
  · show (if x = a then 0 else p.F x j) < 201
    split
    · omega
    · exact h.ref x j hx hj
set_option maxRecDepth 20000 in
set_option maxHeartbeats 1000000 in
theorem numbers_make (hb rb : Nat) (d : PD) (mx : Nat) (o : OpV) (w : World) (h : PairOK w hb rb d mx) (hlo : d.lo ≤ hb) (hmx : mx < 4398046511104) (hk : o.k = 2) :
    Calls Tryz.prog 13 #[.agg #[.pointer (some ⟨hb, 0, none⟩), .pointer (some ⟨rb, 0, none⟩)], o.val] w (LPost hb rb d mx w) := by
  have hB := h.box hlo o
  have bx := Bx.new w hb rb o
  have hbl := h.hp.lt
  have PM := pmake_any hb d.sv d.sz d.p d.lo d.vs d.cs _ hB.hp hB.cl.cls hB.pw hB.h6 (by have := h.s1; omega) h.s2 o.a o.c
  have RM : ∀ W, RP W rb d.x d.cs d.sz d.r → Calls Tryz.prog 23 #[.pointer (some ⟨rb, 0, none⟩), .int .i64 o.a, .int .u8 o.c] W (RMPost rb d.x d.cs d.sz d.r o.a o.c W) := fun W hW => rmake_any rb d.x d.cs d.sz d.r W hW h.wf (by have := h.n6; omega) h.h6 (by have := h.mx; omega) (by have := h.s1; omega) (by have := h.s2; omega) o.a o.c
  have HB : Hid (PairOK (boxed w hb rb o) hb rb d mx) := hB
  have HX : Hid (Bx (boxed w hb rb o) w.heap.size hb rb o) := bx
  have H0 : Hid (Wf d.cs d.r ∧ Pw d.p ∧ Sim d.cs d.p d.r ∧ (∀ c ∈ d.cs, c.2.length ≤ 6) ∧ d.r.n ≤ mx) := ⟨h.wf, h.pw, h.sim, h.h6, h.mx⟩
  obtain ⟨ok, om, oa, ob, oc, ov, os, ot⟩ := o
  simp only [OpV.val] at *
  subst hk
  clear h hB bx
  go_enter Tryz.func13, Tryz.ntmps13
  go_wp2_with fail
  refine PM.mono ?_
  rintro e w1 ⟨L, hLd, hLm, rfl, g1, hne, heq⟩
  obtain ⟨rp1, cl1⟩ := HB.out.afterP hlo g1
  obtain ⟨x0, x1, x2, x3, x4, x5, x6, x7, x8⟩ := HX.out.gb g1 hbl
  have HP1 : Hid (L.Nodup ∧ (∀ a, a ∈ L ↔ d.p.in a) ∧ (boxed w hb rb ⟨2, om, oa, ob, oc, ov, os, ot⟩).grownBy w1 (some hb)) := ⟨hLd, hLm, g1⟩
  obtain ⟨y, hy⟩ : ∃ y, y = pmE d.cs d.sz oa oc (wlist d.cs d.p.K L) := ⟨_, rfl⟩
  have HY : Hid (y = pmE d.cs d.sz oa oc (wlist d.cs d.p.K L)) := hy
  rw [← hy] at hne heq ⊢
  have HNE : Hid (y ≠ 0 → HP w1 hb d.sv d.sz d.p.R d.p.K d.p.N d.p.F) := hne
  have HEQ : Hid (y = 0 → ∃ a, 0 < a ∧ a < 201 ∧ ¬ d.p.in a ∧ HP w1 hb d.sv d.sz (mkP d.p a oc oa.toNat).R (mkP d.p a oc oa.toNat).K (mkP d.p a oc oa.toNat).N (mkP d.p a oc oa.toNat).F) := heq
  have RM1 := RM w1 rp1
  clear PM RM hLd hLm g1 hy hne heq cl1 rp1
  go_wp2_with fail
  refine RM1.mono ?_
  rintro e w2 ⟨T, hT, rfl, gs, hne2, heq2⟩
  have hw : wlist d.cs d.p.K L = wsum d.cs d.r.K T d.r.n := wlist_wsum H0.out.2.2.1 H0.out.2.2.2.1 H0.out.1 L T HP1.out.1 HP1.out.2.1 hT
  have ey : mkE d.cs d.sz oa oc (wsum d.cs d.r.K T d.r.n) = y := by rw [HY.out, mkE_pm, hw]
  rw [ey] at hne2 heq2 ⊢
  have HL : Hid (LPost hb rb d mx w (.returned (.bool true)) w2) := by
    show LPost hb rb d mx w (.returned (.bool true)) w2
    by_cases h0 : y = 0
    · obtain ⟨a, ha0, ha1, hna, hpa⟩ := HEQ.out h0
      obtain ⟨x', rpx, _, hxx⟩ := heq2 h0
      have hany : (d.cs.any fun x => x.1 == oc) = true := by
        cases hc : (d.cs.any fun x => x.1 == oc) with
        | true => rfl
        | false =>
          have := HY.out
          unfold pmE at this
          rw [h0] at this
          split at this
          · simp at this
          · simp at this
      have wf' : Wf d.cs { mkD d.r oc with R := set1 d.r.R oa.toNat (d.r.n + 1) } := by
        refine H0.out.1.make oa.toNat rfl (fun y _ hy => ?_) (fun y j _ hy => ?_) (fun j => ?_) rfl
        · show set1 d.r.K (d.r.n + 1) oc y = d.r.K y; rw [set1_ne _ _ (by omega)]
        · show (if y = d.r.n + 1 then 0 else d.r.C y j) = d.r.C y j; rw [if_neg (by omega)]
        · show (if d.r.n + 1 = d.r.n + 1 then 0 else d.r.C (d.r.n + 1) j) = 0; rw [if_pos rfl]
      obtain ⟨q1, q2, q3⟩ := HB.out.done hlo (mkP d.p a oc oa.toNat) x' { mkD d.r oc with R := set1 d.r.R oa.toNat (d.r.n + 1) } hpa HP1.out.2.2 rpx gs (fun b hb' => (hxx b hb')) (mkP_pw H0.out.2.1 a ha1 oc _) wf' (make_pair H0.out.2.2.1 H0.out.2.2.2.1 a ha0 ha1 hna oc hany _) (by show d.r.n + 1 ≤ mx + 1; have := H0.out.2.2.2.2; omega)
      exact lpost_of q1 hlo q2 q3
    · obtain ⟨q1, q2, q3⟩ := HB.out.done hlo d.p d.x d.r (HNE.out h0) HP1.out.2.2 (hne2 h0) gs (fun b hb' => .inl hb') H0.out.2.1 H0.out.1 H0.out.2.2.1 (by have := H0.out.2.2.2.2; omega)
      exact lpost_of q1 hlo q2 q3
  clear hw ey hne2 heq2 gs hT
  go_wp2
  go_ret
  exact HL.out
end Go.Proofs.YtbgilndohccicaaGreatDoor
namespace Go.Proofs.YtbgilndohccicaaGreatDoor
open Go.RowKit

/-- What both sides come to. -/
structure Goes (cs : Sch) (r : DH) (p' : PH) (r' : DH) : Prop where
  sim : Sim cs p' r'
  pw : Pw p'
  wf : Wf cs r'
  n : r'.n = r.n
theorem fld_r {cs : Sch} {p : PH} {r : DH} (h : Sim cs p r) (root name : Int) : (ffind cs p.R p.K root name).k = (ffind cs r.R r.K root name).k := by
  obtain ⟨M, hB⟩ := h; exact (find_meet hB root name).2.2.1
theorem put_pair {cs : Sch} {p : PH} {r : DH} (h : Sim cs p r) (hp : Pw p) (hw : Wf cs r) (root name v : Int) (h1 : -9223372036854775808 ≤ v) (h2 : v ≤ 9223372036854775807) :
    Goes cs r { p with N := if (fnum (ffind cs p.R p.K root name)).e = 0 then set2 p.N (ffind cs p.R p.K root name).n (ffind cs p.R p.K root name).i (wrK (ffind cs p.R p.K root name).k v) else p.N }
      (if (fnum (ffind cs r.R r.K root name)).e = 0 then { r with C := set2 r.C (ffind cs r.R r.K root name).n (ffind cs r.R r.K root name).i (wrK (ffind cs r.R r.K root name).k v) } else r) := by
  obtain ⟨e1, _⟩ := get_meet h root name
  by_cases h0 : (fnum (ffind cs p.R p.K root name)).e = 0
  · have h0' := e1.symm.trans h0
    rw [if_pos h0, if_pos h0', ← fld_r h]
    obtain ⟨b1, b2, b3⟩ := fnum_e0 h0'
    obtain ⟨f, hf, hk⟩ := ffind_fld b1
    have bd := wrK_bd (ffind cs p.R p.K root name).k v h1 h2
    exact ⟨put_meet h root name _ h0, ⟨hp.root, hp.ref⟩, hw.setNum _ _ _ f hf (by rw [hk]; exact b2) bd.1 bd.2, rfl⟩
  · rw [if_neg h0, if_neg (fun hh => h0 (e1.trans hh))]
    exact ⟨h, hp, hw, rfl⟩
theorem ref_e {cs : Sch} {p : PH} {r : DH} (h : Sim cs p r) (root name o : Int) : (frf (ffind cs p.R p.K root name) o).e = refE (ffind cs r.R r.K root name) o := by
  unfold frf refE
  split
  · rfl
  · exact ref_meet h root name
theorem fol_pair {cs : Sch} {p : PH} {r : DH} (h : Sim cs p r) (hp : Pw p) (hw : Wf cs r) (h6 : ∀ c ∈ cs, c.2.length ≤ 6) (root name to : Int) : Goes cs r (pfolD cs p root name to) (rfolD cs r root name to) := by
  have e := ref_e h root name to
  unfold pfolD rfolD
  by_cases h0 : (frf (ffind cs p.R p.K root name) to).e = 0
  · have h0' := e.symm.trans h0
    rw [if_pos h0, if_pos h0']
    obtain ⟨ht, a1, a2, a3⟩ := frf_e0 h0
    have hfr : (fref (ffind cs p.R p.K root name)).e = 0 := by unfold frf at h0; rw [if_neg (by rw [ht]; decide)] at h0; exact h0
    obtain ⟨q, rfl, hq⟩ := rtB_nat ht
    rw [Int.toNat_natCast]
    have bd := ffind_bd (K := p.K) (root := root) (letter := name) hp.root h6 a1
    have hfr' := (ref_meet h root name).symm.trans hfr
    obtain ⟨b1, b2, _⟩ := fref_e0 hfr'
    obtain ⟨n, _, hn, hn0, i, _, hi, eb⟩ := ffind_at b1
    obtain ⟨f, hf, hk⟩ := ffind_fld b1
    have hrn := hw.root n hn
    have hb1 : 0 < (ffind cs r.R r.K root name).n ∧ (ffind cs r.R r.K root name).n ≤ r.n := by rw [eb]; simp only []; omega
    have hr := hw.ref _ hb1.1 hb1.2 _ f hf (by rw [hk]; exact b2)
    exact ⟨follow_meet h root name q hfr, hp.setRoot q _ (hp.ref _ _ bd.2.1 bd.2.2), hw.setRoot q _ (by omega), rfl⟩
  · rw [if_neg h0, if_neg (fun hh => h0 (e.trans hh))]
    exact ⟨h, hp, hw, rfl⟩
theorem link_pair {cs : Sch} {p : PH} {r : DH} (h : Sim cs p r) (hp : Pw p) (hw : Wf cs r) (hn : r.n ≤ 9223372036854775807) (root name fr : Int) : Goes cs r (plinkD cs p root name fr) (rlinkD cs r root name fr) := by
  have e := ref_e h root name fr
  unfold plinkD rlinkD
  by_cases h0 : (frf (ffind cs p.R p.K root name) fr).e = 0
  · have h0' := e.symm.trans h0
    rw [if_pos h0, if_pos h0']
    obtain ⟨ht, a1, a2, a3⟩ := frf_e0 h0
    have hfr : (fref (ffind cs p.R p.K root name)).e = 0 := by unfold frf at h0; rw [if_neg (by rw [ht]; decide)] at h0; exact h0
    obtain ⟨q, rfl, hq⟩ := rtB_nat ht
    rw [Int.toNat_natCast]
    exact ⟨link_meet h root name q hq hfr, hp.setRef _ _ _ (hp.root q hq), hw.setRef _ _ _ (hw.root q hq) hn, rfl⟩
  · rw [if_neg h0, if_neg (fun hh => h0 (e.trans hh))]
    exact ⟨h, hp, hw, rfl⟩
theorem copy_pair {cs : Sch} {p : PH} {r : DH} (h : Sim cs p r) (hp : Pw p) (hw : Wf cs r) (a b : Int) : Goes cs r (pcopyD p a b) (rcopyD r a b) := by
  unfold pcopyD rcopyD
  split
  · rename_i h1
    obtain ⟨i, rfl, hi⟩ := rtB_nat h1.1
    obtain ⟨j, rfl, hj⟩ := rtB_nat h1.2
    rw [Int.toNat_natCast, Int.toNat_natCast]
    exact ⟨copy_meet h i j hi, hp.setRoot j _ (hp.root i hi), hw.setRoot j _ (hw.root i hi), rfl⟩
  · exact ⟨h, hp, hw, rfl⟩
theorem clear_pair {cs : Sch} {p : PH} {r : DH} (h : Sim cs p r) (hp : Pw p) (hw : Wf cs r) (a : Int) : Goes cs r (pclearD p a) (rclearD r a) := by
  unfold pclearD rclearD
  split
  · exact ⟨clear_meet h _, hp.setRoot _ _ (by omega), hw.setRoot _ _ (Nat.zero_le _), rfl⟩
  · exact ⟨h, hp, hw, rfl⟩
/-- The end of a case that changes something. -/
theorem PairOK.goes {w w1 w2 : World} {hb rb : Nat} {d : PD} {mx : Nat} {o : OpV} (h : PairOK (boxed w hb rb o) hb rb d mx) (hlo : d.lo ≤ hb) {p' : PH} {r' : DH} (hp : HP w1 hb d.sv d.sz p'.R p'.K p'.N p'.F) (g : (boxed w hb rb o).grownBy w1 (some hb)) (rp : RP w2 rb d.x d.cs d.sz r') (gs : GS w1 w2 (d.x.has d.cs d.r.n rb)) (hG : Goes d.cs d.r p' r') : LPost hb rb d mx w (.returned (.bool true)) w2 := by
  obtain ⟨q1, q2, q3⟩ := h.done hlo p' d.x r' hp g rp gs (fun b hb' => .inl (by rw [hG.n] at hb'; exact hb')) hG.pw hG.wf hG.sim (by have := h.mx; rw [hG.n]; omega)
  exact lpost_of q1 hlo q2 q3
/-- The end of a case that asks. -/
theorem PairOK.asks {w w1 w2 : World} {hb rb : Nat} {d : PD} {mx : Nat} {o : OpV} (h : PairOK (boxed w hb rb o) hb rb d mx) (hlo : d.lo ≤ hb) (B1 : Below (boxed w hb rb o).heap.size (boxed w hb rb o) w1) (B2 : Below w1.heap.size w1 w2) : LPost hb rb d mx w (.returned (.bool true)) w2 :=
  h.goes hlo (h.hp.below B1) (gb_below B1 _) ((h.rp.below B1).below B2) (GS.of_below B2) ⟨h.sim, h.pw, h.wf, rfl⟩
theorem Bx.bel {W W' : World} {n hb rb : Nat} {o : OpV} (h : Bx W n hb rb o) (g : Below W.heap.size W W') : Bx W' n hb rb o := by
  have := h.lt
  exact h.keep g.size (g.block n (by omega)) (g.block (n + 1) (by omega))
end Go.Proofs.YtbgilndohccicaaGreatDoor
namespace Go.Proofs.YtbgilndohccicaaGreatDoor
open Go.RowKit

set_option maxRecDepth 20000 in
set_option maxHeartbeats 1000000 in
theorem numbers_put (hb rb : Nat) (d : PD) (mx : Nat) (o : OpV) (w : World) (h : PairOK w hb rb d mx) (hlo : d.lo ≤ hb) (hmx : mx < 4398046511104) (ho : o.ok) (hk : o.k = 5) :
    Calls Tryz.prog 13 #[.agg #[.pointer (some ⟨hb, 0, none⟩), .pointer (some ⟨rb, 0, none⟩)], o.val] w (LPost hb rb d mx w) := by
  have hB := h.box hlo o
  have bx := Bx.new w hb rb o
  have hbl := h.hp.lt
  have hn : d.r.n ≤ 4398046511104 := by have := h.mx; omega
  have hcs : d.cs.length ≤ 1000 := by have := h.n6; omega
  have PM := put_any hb d.sv d.sz d.p.R d.p.K d.p.N d.p.F d.lo d.vs d.cs _ hB.hp hB.cl.cls hB.pw.root hB.h6 o.a o.c o.v ho.v1 ho.v2
  have RM := fun W (hW : RP W rb d.x d.cs d.sz d.r) => rput_any rb d.x d.cs d.sz d.r W hW h.wf.root hcs h.h6 hn o.a o.c o.v ho.v1 ho.v2
  have HB : Hid (PairOK (boxed w hb rb o) hb rb d mx) := hB
  have HX : Hid (Bx (boxed w hb rb o) w.heap.size hb rb o) := bx
  have HGo : Hid (Goes d.cs d.r _ _) := put_pair h.sim h.pw h.wf o.a o.c o.v ho.v1 ho.v2
  have HE : Hid ((fnum (ffind d.cs d.p.R d.p.K o.a o.c)).e = (fnum (ffind d.cs d.r.R d.r.K o.a o.c)).e) := (get_meet h.sim o.a o.c).1
  obtain ⟨ok, om, oa, ob, oc, ov, os, ot⟩ := o
  simp only [OpV.val] at *
  subst hk
  clear h hB bx ho
  go_enter Tryz.func13, Tryz.ntmps13
  go_wp2_with fail
  refine PM.mono ?_
  rintro e w1 ⟨rfl, hp1, g1⟩
  obtain ⟨rp1, _⟩ := HB.out.afterP hlo g1
  have RM1 := RM w1 rp1
  obtain ⟨x0, x1, x2, x3, x4, x5, x6, x7, x8⟩ := HX.out.gb g1 hbl
  have HG1 : Hid ((boxed w hb rb ⟨5, om, oa, ob, oc, ov, os, ot⟩).grownBy w1 (some hb)) := g1
  have HP1 : Hid (_) := hp1
  clear PM RM g1 rp1 hp1
  have HE' := HE.out
  go_wp2_with fail
  refine RM1.mono ?_
  rintro e w2 ⟨rfl, rp2, gs⟩
  have HL : Hid (LPost hb rb d mx w (.returned (.bool true)) w2) := HB.out.goes hlo HP1.out HG1.out rp2 gs HGo.out
  clear RM1 rp2 gs
  rw [← HE'] 
  generalize (fnum (ffind d.cs d.p.R d.p.K oa oc)).e = y at *
  clear HE'
  go_wp2
  go_ret
  exact HL.out
end Go.Proofs.YtbgilndohccicaaGreatDoor
namespace Go.Proofs.YtbgilndohccicaaGreatDoor
open Go.RowKit

set_option maxRecDepth 20000 in
set_option maxHeartbeats 1000000 in
theorem numbers_class (hb rb : Nat) (d : PD) (mx : Nat) (o : OpV) (w : World) (h : PairOK w hb rb d mx) (hlo : d.lo ≤ hb) (hmx : mx < 4398046511104) (ho : o.ok) (hk : o.k = 3) :
    Calls Tryz.prog 13 #[.agg #[.pointer (some ⟨hb, 0, none⟩), .pointer (some ⟨rb, 0, none⟩)], o.val] w (LPost hb rb d mx w) := by
  have hB := h.box hlo o
  have bx := Bx.new w hb rb o
  have hbl := h.hp.lt
  have hn : d.r.n ≤ 4398046511104 := by have := h.mx; omega
  have hcs : d.cs.length ≤ 1000 := by have := h.n6; omega
  have PM := pclass_any hb d.sv d.sz d.p _ hB.hp hB.pw.root o.a
  have RM := fun W (hW : RP W rb d.x d.cs d.sz d.r) => rcls_any rb d.x d.cs d.sz d.r W hW h.wf.root hcs h.h6 hn h.hz o.a
  have HB : Hid (PairOK (boxed w hb rb o) hb rb d mx) := hB
  have HX : Hid (Bx (boxed w hb rb o) w.heap.size hb rb o) := bx
  have HE : Hid ((pclsI d.p o.a).2 = (rclsI d.r o.a).2) := by show _ = _; rw [class_pair h.sim]
  have HV : Hid ((pclsI d.p o.a).1 = (rclsI d.r o.a).1) := by show _ = _; rw [class_pair h.sim]
  obtain ⟨ok, om, oa, ob, oc, ov, os, ot⟩ := o
  simp only [OpV.val] at *
  subst hk
  clear h hB bx ho
  go_enter Tryz.func13, Tryz.ntmps13
  go_wp2_with fail
  refine PM.mono ?_
  rintro e w1 ⟨rfl, B1⟩
  have RM1 := RM w1 (HB.out.rp.below B1)
  obtain ⟨x0, x1, x2, x3, x4, x5, x6, x7, x8⟩ := HX.out.bel B1
  have HB1 : Hid (Below (boxed w hb rb ⟨3, om, oa, ob, oc, ov, os, ot⟩).heap.size (boxed w hb rb ⟨3, om, oa, ob, oc, ov, os, ot⟩) w1) := B1
  clear PM RM B1
  have HE' := HE.out
  have HV' := HV.out
  go_wp2_with fail
  refine RM1.mono ?_
  rintro e w2 ⟨rfl, B2⟩
  have HL : Hid (LPost hb rb d mx w (.returned (.bool true)) w2) := HB.out.asks hlo HB1.out B2
  clear RM1 B2
  rw [← HV', ← HE']
  generalize (pclsI d.p oa).1 = y at *
  generalize (pclsI d.p oa).2 = z at *
  clear HE' HV'
  go_wp2
  go_ret
  exact HL.out
theorem get_pair {cs : Sch} {p : PH} {r : DH} (h : Sim cs p r) (root name : Int) : (if (fnum (ffind cs p.R p.K root name)).e = 0 then p.N (ffind cs p.R p.K root name).n (ffind cs p.R p.K root name).i else 0) = (if (fnum (ffind cs r.R r.K root name)).e = 0 then r.C (ffind cs r.R r.K root name).n (ffind cs r.R r.K root name).i else 0) := by
  obtain ⟨e1, e2⟩ := get_meet h root name
  by_cases h0 : (fnum (ffind cs p.R p.K root name)).e = 0
  · rw [if_pos h0, if_pos (e1.symm.trans h0), e2 h0]
  · rw [if_neg h0, if_neg (fun hh => h0 (e1.trans hh))]
set_option maxRecDepth 20000 in
set_option maxHeartbeats 1000000 in
theorem numbers_get (hb rb : Nat) (d : PD) (mx : Nat) (o : OpV) (w : World) (h : PairOK w hb rb d mx) (hlo : d.lo ≤ hb) (hmx : mx < 4398046511104) (ho : o.ok) (hk : o.k = 4) :
    Calls Tryz.prog 13 #[.agg #[.pointer (some ⟨hb, 0, none⟩), .pointer (some ⟨rb, 0, none⟩)], o.val] w (LPost hb rb d mx w) := by
  have hB := h.box hlo o
  have bx := Bx.new w hb rb o
  have hbl := h.hp.lt
  have hn : d.r.n ≤ 4398046511104 := by have := h.mx; omega
  have hcs : d.cs.length ≤ 1000 := by have := h.n6; omega
  have PM0 := get_any hb d.sv d.sz d.p.R d.p.K d.p.N d.p.F d.lo d.vs d.cs _ hB.hp hB.cl.cls hB.pw.root hB.h6 o.a o.c
  have RM0 := fun W (hW : RP W rb d.x d.cs d.sz d.r) => rget_any rb d.x d.cs d.sz d.r W hW h.wf.root hcs h.h6 hn o.a o.c
  have HB : Hid (PairOK (boxed w hb rb o) hb rb d mx) := hB
  have HX : Hid (Bx (boxed w hb rb o) w.heap.size hb rb o) := bx
  have HE : Hid ((fnum (ffind d.cs d.p.R d.p.K o.a o.c)).e = (fnum (ffind d.cs d.r.R d.r.K o.a o.c)).e) := (get_meet h.sim o.a o.c).1
  have HV : Hid (_ = _) := get_pair h.sim o.a o.c
  unfold GetPost at PM0
  unfold RGetPost at RM0
  obtain ⟨y, hy⟩ : ∃ y, y = (if (fnum (ffind d.cs d.p.R d.p.K o.a o.c)).e = 0 then d.p.N (ffind d.cs d.p.R d.p.K o.a o.c).n (ffind d.cs d.p.R d.p.K o.a o.c).i else 0) := ⟨_, rfl⟩
  obtain ⟨z, hz⟩ : ∃ z, z = (fnum (ffind d.cs d.p.R d.p.K o.a o.c)).e := ⟨_, rfl⟩
  have PM : Calls Tryz.prog 26 #[.pointer (some ⟨hb, 0, none⟩), .int .i64 o.a, .int .u8 o.c] (boxed w hb rb o) fun e w' => e = .returned (.tuple #[.int .i64 y, .int .i64 z]) ∧ Below (boxed w hb rb o).heap.size (boxed w hb rb o) w' := by rw [hy, hz]; exact PM0
  have RM : ∀ W, RP W rb d.x d.cs d.sz d.r → Calls Tryz.prog 27 #[.pointer (some ⟨rb, 0, none⟩), .int .i64 o.a, .int .u8 o.c] W fun e w' => e = .returned (.tuple #[.int .i64 y, .int .i64 z]) ∧ Below W.heap.size W w' := fun W hW => by rw [hy, hz, HV.out, HE.out]; exact RM0 W hW
  clear PM0 RM0 hy hz HV HE
  obtain ⟨ok, om, oa, ob, oc, ov, os, ot⟩ := o
  simp only [OpV.val] at *
  subst hk
  clear h hB bx ho
  go_enter Tryz.func13, Tryz.ntmps13
  go_wp2_with fail
  refine PM.mono ?_
  rintro e w1 ⟨rfl, B1⟩
  have RM1 := RM w1 (HB.out.rp.below B1)
  obtain ⟨x0, x1, x2, x3, x4, x5, x6, x7, x8⟩ := HX.out.bel B1
  have HB1 : Hid (Below (boxed w hb rb ⟨4, om, oa, ob, oc, ov, os, ot⟩).heap.size (boxed w hb rb ⟨4, om, oa, ob, oc, ov, os, ot⟩) w1) := B1
  clear PM RM B1
  go_wp2_with fail
  refine RM1.mono ?_
  rintro e w2 ⟨rfl, B2⟩
  have HL : Hid (LPost hb rb d mx w (.returned (.bool true)) w2) := HB.out.asks hlo HB1.out B2
  clear RM1 B2
  go_wp2
  go_ret
  exact HL.out
end Go.Proofs.YtbgilndohccicaaGreatDoor
