import Derived.Test.YtbgilndohccicabMz43
namespace Go.Proofs.Ytbgilndohccicab
open Go.RowKit

/-- Where a graph lies. -/
structure GA where
  gb : Nat
  lo : Nat
  hi : Nat
  hb : Nat
  sv : SV
  vs : List (Int × SV)
/-- Its blocks. -/
def Foot (a : GA) (nv : Value) (k : Nat) : Prop := k = a.gb ∨ (a.lo ≤ k ∧ k ≤ a.hb) ∨ nv.ownBlock = some k
def QF (Q : Nat → Prop) (a : GA) (nv : Value) (k : Nat) : Prop := Q k ∨ Foot a nv k
def LG (w : World) (P : Nat → Prop) (a : GA) (sz : Int) (nv : Value) (p : PH) (G : GG) : Prop := LK w P a.gb a.lo a.hi a.hb a.sv a.vs sz nv p G
theorem LG.moved {w w' : World} {P P' Q : Nat → Prop} {a : GA} {sz : Int} {nv : Value} {p : PH} {G : GG} (h : LG w P a sz nv p G) (k : Prot Q w w') (hF : ∀ b, Foot a nv b → Q b) (n0 : ¬ P' a.gb) (n1 : ¬ P' a.hb) (n2 : ∀ g, nv.ownBlock = some g → ¬ P' g) (pl : ∀ b, P' b → b < w'.heap.size) : LG w' P' a sz nv p G := by
  have b2 := LK.b2 h
  have b3 := LK.b3 h
  refine ⟨(LK.hp h).kept (k.block _ (hF _ (.inr (.inl ⟨by omega, Nat.le_refl _⟩)))), (LK.cl h).keep fun b h1 h2 => k.block b (hF b (.inr (.inl ⟨h1, by omega⟩))), (LK.gp h).keep (k.block _ (hF _ (.inl rfl))), row_keepH (LK.nd h) fun g hg => k.block g (hF g (.inr (.inr hg))), n0, n1, n2, pl, LK.b1 h, LK.b2 h, LK.b3 h, LK.pw h, LK.sim h, LK.gw h, LK.s0 h, LK.s1 h⟩
theorem LG.foot_lt {w : World} {P : Nat → Prop} {a : GA} {sz : Int} {nv : Value} {p : PH} {G : GG} (h : LG w P a sz nv p G) : ∀ b, Foot a nv b → b < w.heap.size := by
  rintro b (rfl | ⟨_, h2⟩ | h3)
  · exact (LK.gp h).lt
  · have := (LK.hp h).lt; omega
  · exact (World.ownsRow.lt (LK.nd h) b h3).2
theorem QF.not {Q : Nat → Prop} {a : GA} {nv nv1 : Value} {x : Nat} (h : ¬ QF Q a nv x) (h1 : nv1.ownBlock = some x → False) : ¬ QF Q a nv1 x := by
  rintro (hq | e | hr | hn)
  · exact h (.inl hq)
  · exact h (.inr (.inl e))
  · exact h (.inr (.inr (.inl hr)))
  · exact h1 hn
theorem Prot.sub {P Q : Nat → Prop} {w w' : World} (h : Prot P w w') (hs : ∀ k, Q k → P k) : Prot Q w w' := ⟨h.os, h.tape, h.output, h.size, fun k hk => h.block k (hs k hk)⟩
/-- Two graphs in one world. -/
structure TG (Q : Nat → Prop) (w : World) (a b : GA) (sz : Int) (nv : Value) (p : PH) (nv' : Value) (q : PH) (G G' : GG) : Prop where
  l : LG w (QF Q b nv') a sz nv p G
  r : LG w (QF Q a nv) b sz nv' q G'
  o : a.hb < b.lo
theorem TG.ql {Q : Nat → Prop} {w : World} {a b : GA} {sz : Int} {nv nv' : Value} {p q : PH} {G G' : GG} (h : TG Q w a b sz nv p nv' q G G') : ∀ k, Q k → k < w.heap.size := fun k hk => LK.pl h.l k (.inl hk)
theorem TG.left {Q : Nat → Prop} {w w' : World} {a b : GA} {sz : Int} {nv nv' nv1 : Value} {p q p1 : PH} {G G' G1 : GG} (h : TG Q w a b sz nv p nv' q G G') (k : Prot (QF Q b nv') w w') (l : LG w' (QF Q b nv') a sz nv1 p1 G1) : TG Q w' a b sz nv1 p1 nv' q G1 G' := by
  have b2 := LK.b2 h.r
  have b3 := LK.b3 h.r
  refine ⟨l, h.r.moved k (fun b hb => .inr hb) (QF.not (LK.n0 h.r) (fun e => LK.n2 l _ e (.inr (.inl rfl)))) (QF.not (LK.n1 h.r) (fun e => LK.n2 l _ e (.inr (.inr (.inl ⟨by omega, Nat.le_refl _⟩))))) (fun g hg => QF.not (LK.n2 h.r g hg) (fun e => LK.n2 l _ e (.inr (.inr (.inr hg))))) ?_, h.o⟩
  rintro x (hq | hf)
  · exact Nat.lt_of_lt_of_le (h.ql x hq) k.size
  · exact l.foot_lt x hf
theorem TG.right {Q : Nat → Prop} {w w' : World} {a b : GA} {sz : Int} {nv nv' nv1 : Value} {p q q1 : PH} {G G' G1 : GG} (h : TG Q w a b sz nv p nv' q G G') (k : Prot (QF Q a nv) w w') (r : LG w' (QF Q a nv) b sz nv1 q1 G1) : TG Q w' a b sz nv p nv1 q1 G G1 := by
  have b2 := LK.b2 h.l
  have b3 := LK.b3 h.l
  refine ⟨h.l.moved k (fun b hb => .inr hb) (QF.not (LK.n0 h.l) (fun e => LK.n2 r _ e (.inr (.inl rfl)))) (QF.not (LK.n1 h.l) (fun e => LK.n2 r _ e (.inr (.inr (.inl ⟨by omega, Nat.le_refl _⟩))))) (fun g hg => QF.not (LK.n2 h.l g hg) (fun e => LK.n2 r _ e (.inr (.inr (.inr hg))))) ?_, r, h.o⟩
  rintro x (hq | hf)
  · exact Nat.lt_of_lt_of_le (h.ql x hq) k.size
  · exact r.foot_lt x hf
theorem TG.below {Q : Nat → Prop} {w w' : World} {a b : GA} {sz : Int} {nv nv' : Value} {p q : PH} {G G' : GG} (h : TG Q w a b sz nv p nv' q G G') (k : Below w.heap.size w w') : TG Q w' a b sz nv p nv' q G G' := ⟨LK.below h.l k, LK.below h.r k, h.o⟩
/-- More that stays. -/
theorem TG.setQ {Q Q' : Nat → Prop} {w : World} {a b : GA} {sz : Int} {nv nv' : Value} {p q : PH} {G G' : GG} (h : TG Q w a b sz nv p nv' q G G') (hq : ∀ k, Q' k → k < w.heap.size ∧ (Q k ∨ ¬ Foot a nv k ∧ ¬ Foot b nv' k)) : TG Q' w a b sz nv p nv' q G G' := by
  have b2 := LK.b2 h.l
  have b3 := LK.b3 h.l
  have c2 := LK.b2 h.r
  have c3 := LK.b3 h.r
  refine ⟨h.l.moved (Prot.refl (fun _ => True) w) (fun _ _ => trivial) ?_ ?_ ?_ ?_, h.r.moved (Prot.refl (fun _ => True) w) (fun _ _ => trivial) ?_ ?_ ?_ ?_, h.o⟩
  · rintro (e | e)
    · exact (hq _ e).2.elim (fun k => LK.n0 h.l (.inl k)) fun k => k.1 (.inl rfl)
    · exact LK.n0 h.l (.inr e)
  · rintro (e | e)
    · exact (hq _ e).2.elim (fun k => LK.n1 h.l (.inl k)) fun k => k.1 (.inr (.inl ⟨by omega, Nat.le_refl _⟩))
    · exact LK.n1 h.l (.inr e)
  · rintro g hg (e | e)
    · exact (hq _ e).2.elim (fun k => LK.n2 h.l g hg (.inl k)) fun k => k.1 (.inr (.inr hg))
    · exact LK.n2 h.l g hg (.inr e)
  · rintro x (e | e)
    · exact (hq _ e).1
    · exact h.r.foot_lt x e
  · rintro (e | e)
    · exact (hq _ e).2.elim (fun k => LK.n0 h.r (.inl k)) fun k => k.2 (.inl rfl)
    · exact LK.n0 h.r (.inr e)
  · rintro (e | e)
    · exact (hq _ e).2.elim (fun k => LK.n1 h.r (.inl k)) fun k => k.2 (.inr (.inl ⟨by omega, Nat.le_refl _⟩))
    · exact LK.n1 h.r (.inr e)
  · rintro g hg (e | e)
    · exact (hq _ e).2.elim (fun k => LK.n2 h.r g hg (.inl k)) fun k => k.2 (.inr (.inr hg))
    · exact LK.n2 h.r g hg (.inr e)
  · rintro x (e | e)
    · exact (hq _ e).1
    · exact h.l.foot_lt x e
/-- Two graphs at their beginning. -/
theorem TG.start {w0 w1 w2 : World} {a b : GA} {sz : Int} (g : GB a.gb a.lo a.hi a.hb a.sv a.vs sz w0 w1) (k : GB b.gb b.lo b.hi b.hb b.sv b.vs sz w1 w2) : TG (fun k => k < w0.heap.size) w2 a b sz (.slice none 0 0) pL0 (.slice none 0 0) pL0 gL0 gL0 := by
  obtain ⟨g1, g2, g3⟩ := g
  obtain ⟨k1, k2, k3⟩ := k
  have L1 : LG w1 (fun k => k < w0.heap.size) a sz (.slice none 0 0) pL0 gL0 := g3 _ (fun _ h => h)
  have hF := L1.foot_lt
  have R : LG w2 (QF (fun k => k < w0.heap.size) a (.slice none 0 0)) b sz (.slice none 0 0) pL0 gL0 := k3 _ (by
    rintro x (h | h)
    · exact Nat.lt_of_lt_of_le h g1.size
    · exact hF x h)
  have d1 := LK.b1 R; have d2 := LK.b2 R; have d3 := LK.b3 R
  have e1 := LK.b1 L1; have e2 := LK.b2 L1; have e3 := LK.b3 L1
  have eh := (LK.hp L1).lt
  have eg := (LK.gp L1).lt
  have hR := R.foot_lt
  have hx : ∀ x, x < w1.heap.size → w0.heap.size ≤ x → ¬ QF (fun k => k < w0.heap.size) b (.slice none 0 0) x := by
    rintro x h1 h2 (h | h | ⟨h, _⟩ | h)
    · omega
    · omega
    · omega
    · cases h
  refine ⟨(show LG w2 _ a sz _ pL0 gL0 from LK.below L1 k1).moved (Prot.refl (fun _ => True) w2) (fun _ _ => trivial) (hx _ eg g2) (hx _ eh (by omega)) (fun g hg => by cases hg) ?_, R, by omega⟩
  rintro x (h | h)
  · have := g1.size; have := k1.size; have h' : x < w0.heap.size := h; omega
  · exact hR x h
theorem ScL.kept {w w' : World} {a : Option Addr} {len : Nat} {O : Nat → StV} (h : ScL w a len O) (k : Prot (fun k => k < w.heap.size) w w') : ScL w' a len O := by
  refine ⟨fun h0 => ?_, h.ok⟩
  obtain ⟨g, o, e, hg, hc⟩ := h.row h0
  have hk : ∀ j, w'.cell? ⟨g, j, none⟩ = w.cell? ⟨g, j, none⟩ := fun j => k.cell (p := ⟨g, j, none⟩) hg
  refine ⟨g, o, e, Nat.lt_of_lt_of_le hg k.size, fun i hi => ?_⟩
  obtain ⟨q0, q1, q2, q3, q4⟩ := hc i hi
  exact ⟨(hk _).trans q0, (hk _).trans q1, (hk _).trans q2, (hk _).trans q3, (hk _).trans q4⟩
/-- Two graphs, what is pending there, and what has been kept. -/
def TS2 (Q : Nat → Prop) (w0 w : World) (a b : GA) (sz x y : Int) (G G' : GG) : Prop := Prot Q w0 w ∧ ∃ nv p nv' q, TG Q w a b sz nv p nv' q G G' ∧ p.N 201 0 = x ∧ q.N 201 0 = y
theorem TS2.below {Q : Nat → Prop} {w0 w w' : World} {a b : GA} {sz x y : Int} {G G' : GG} (h : TS2 Q w0 w a b sz x y G G') (k : Below w.heap.size w w') : TS2 Q w0 w' a b sz x y G G' := by
  obtain ⟨P, nv, p, nv', q, T, h1, h2⟩ := h
  exact ⟨P.trans (Prot.of T.ql k), nv, p, nv', q, T.below k, h1, h2⟩
/-- A call on the first. -/
theorem TS2.left {Q : Nat → Prop} {w0 w : World} {a b : GA} {sz x y : Int} {G G' G1 : GG} {fn : FuncId} {args : Array Value} (h : TS2 Q w0 w a b sz x y G G') (hc : ∀ P nv p, (∀ k, Q k → P k) → LK w P a.gb a.lo a.hi a.hb a.sv a.vs sz nv p G → Calls Try.prog fn args w (GOk P a.gb a.lo a.hi a.hb a.sv a.vs sz p.N G1 w)) :
    Calls Try.prog fn args w fun e w' => e = .returned (.bool true) ∧ TS2 Q w0 w' a b sz x y G1 G' := by
  obtain ⟨P, nv, p, nv', q, T, h1, h2⟩ := h
  refine (hc _ nv p (fun k hk => .inl hk) T.l).mono ?_
  rintro e w' ⟨rfl, B, nv1, p1, L, hN⟩
  exact ⟨rfl, P.trans (B.sub fun k hk => .inl hk), nv1, p1, nv', q, T.left B L, (hN 0).trans h1, h2⟩
theorem TS2.right {Q : Nat → Prop} {w0 w : World} {a b : GA} {sz x y : Int} {G G' G1 : GG} {fn : FuncId} {args : Array Value} (h : TS2 Q w0 w a b sz x y G G') (hc : ∀ P nv p, (∀ k, Q k → P k) → LK w P b.gb b.lo b.hi b.hb b.sv b.vs sz nv p G' → Calls Try.prog fn args w (GOk P b.gb b.lo b.hi b.hb b.sv b.vs sz p.N G1 w)) :
    Calls Try.prog fn args w fun e w' => e = .returned (.bool true) ∧ TS2 Q w0 w' a b sz x y G G1 := by
  obtain ⟨P, nv, p, nv', q, T, h1, h2⟩ := h
  refine (hc _ nv' q (fun k hk => .inl hk) T.r).mono ?_
  rintro e w' ⟨rfl, B, nv1, p1, L, hN⟩
  exact ⟨rfl, P.trans (B.sub fun k hk => .inl hk), nv, p, nv1, p1, T.right B L, h1, (hN 0).trans h2⟩
theorem TS2.beginL {Q : Nat → Prop} {w0 w : World} {a b : GA} {sz y : Int} {G G' : GG} (h : TS2 Q w0 w a b sz 0 y G G') (s : ByteArray) (hm : s.size ≤ 9223372036854775807) (hs : uE csL s = 0) :
    Calls Try.prog 16 #[.pointer (some ⟨a.hb, 0, none⟩), .string s] w fun e w' => (∃ z, e = .returned (.tuple #[.int .i64 0, .int .i64 z])) ∧ ∃ x, x ≠ 0 ∧ TS2 Q w0 w' a b sz x y G G' := by
  obtain ⟨P, nv, p, nv', q, T, h1, h2⟩ := h
  refine (begin_on T.l h1 s hm hs).mono ?_
  rintro e w' ⟨he, B, _, p', L, hp⟩
  exact ⟨he, _, hp, P.trans (B.sub fun k hk => .inl hk), nv, p', nv', q, T.left B L, rfl, h2⟩
theorem TS2.beginR {Q : Nat → Prop} {w0 w : World} {a b : GA} {sz x : Int} {G G' : GG} (h : TS2 Q w0 w a b sz x 0 G G') (s : ByteArray) (hm : s.size ≤ 9223372036854775807) (hs : uE csL s = 0) :
    Calls Try.prog 16 #[.pointer (some ⟨b.hb, 0, none⟩), .string s] w fun e w' => (∃ z, e = .returned (.tuple #[.int .i64 0, .int .i64 z])) ∧ ∃ y, y ≠ 0 ∧ TS2 Q w0 w' a b sz x y G G' := by
  obtain ⟨P, nv, p, nv', q, T, h1, h2⟩ := h
  refine (begin_on T.r h2 s hm hs).mono ?_
  rintro e w' ⟨he, B, _, p', L, hp⟩
  exact ⟨he, _, hp, P.trans (B.sub fun k hk => .inl hk), nv, p, nv', p', T.right B L, h1, rfl⟩
theorem TS2.step {Q : Nat → Prop} {w0 w : World} {a b : GA} {sz x y : Int} {G G' : GG} (h : TS2 Q w0 w a b sz x y G G') (hy : y ≠ 0) (bud : Int) (hb : 1 ≤ bud) : Calls Try.prog 22 #[.pointer (some ⟨b.hb, 0, none⟩), .int .i64 bud] w fun e w' => e = .returned (.tuple #[.bool true, .int .i64 0]) ∧ w' = w := by
  obtain ⟨P, nv, p, nv', q, T, h1, h2⟩ := h
  exact step_on b.hb b.sv sz q w (LK.hp T.r) (by rw [h2]; exact hy) bud hb
theorem TS2.readyL {Q : Nat → Prop} {w0 w : World} {a b : GA} {sz x y : Int} {G G' : GG} (h : TS2 Q w0 w a b sz x y G G') (hx : x ≠ 0) : Calls Try.prog 23 #[.pointer (some ⟨a.hb, 0, none⟩)] w fun e w' => e = .returned (.bool true) ∧ w' = w := by
  obtain ⟨P, nv, p, nv', q, T, h1, h2⟩ := h
  exact ready_on a.hb a.sv sz p w (LK.hp T.l) (by rw [h1]; exact hx)
theorem TS2.readyR {Q : Nat → Prop} {w0 w : World} {a b : GA} {sz x y : Int} {G G' : GG} (h : TS2 Q w0 w a b sz x y G G') (hy : y ≠ 0) : Calls Try.prog 23 #[.pointer (some ⟨b.hb, 0, none⟩)] w fun e w' => e = .returned (.bool true) ∧ w' = w := by
  obtain ⟨P, nv, p, nv', q, T, h1, h2⟩ := h
  exact ready_on b.hb b.sv sz q w (LK.hp T.r) (by rw [h2]; exact hy)
/-- The end: they are alike, and so along every trail. -/
theorem TS2.alike {Q : Nat → Prop} {w0 w : World} {a b : GA} {sz x y : Int} {G : GG} (h : TS2 Q w0 w a b sz x y G G) (hn : G.n ≤ 7036874417560) : Calls Try.prog 25 #[.pointer (some ⟨a.hb, 0, none⟩), .pointer (some ⟨b.hb, 0, none⟩)] w fun e w' => e = .returned (.bool true) ∧ TS2 Q w0 w' a b sz x y G G := by
  have h' := h
  obtain ⟨P, nv, p, nv', q, T, h1, h2⟩ := h
  refine (alike_any (LK.hk T.l hn) (LK.hk T.r hn)).mono ?_
  rintro e w' ⟨he, B⟩
  exact ⟨he, h'.below B⟩
theorem TS2.trail {Q : Nat → Prop} {w0 w : World} {a b : GA} {sz x y : Int} {G : GG} (h : TS2 Q w0 w a b sz x y G G) (hn : G.n ≤ 7036874417560) : Calls Try.prog 26 #[.pointer (some ⟨a.hb, 0, none⟩), .pointer (some ⟨b.hb, 0, none⟩)] w fun e w' => e = .returned (.bool true) ∧ Prot Q w0 w' ∧ w'.cell? ⟨a.gb, 0, none⟩ = some (.pointer (some ⟨a.hb, 0, none⟩)) ∧ w'.cell? ⟨b.gb, 0, none⟩ = some (.pointer (some ⟨b.hb, 0, none⟩)) := by
  obtain ⟨P, nv, p, nv', q, T, h1, h2⟩ := h
  have a1 := LK.b1 T.l; have a2 := LK.b2 T.l; have a3 := LK.b3 T.l
  have b1 := LK.b1 T.r; have b2 := LK.b2 T.r; have b3 := LK.b3 T.r
  refine (trail_any (P := fun k => Q k ∨ k = a.gb ∨ k = b.gb) (LK.hk T.l hn) (LK.hk T.r hn) T.o ?_ ?_ ?_).mono ?_
  · rintro (e | e | e)
    · exact LK.n1 T.l (.inl e)
    · omega
    · exact LK.n1 T.l (.inr (.inl e))
  · rintro (e | e | e)
    · exact LK.n1 T.r (.inl e)
    · exact LK.n1 T.r (.inr (.inl e))
    · omega
  · rintro k (e | rfl | rfl)
    · exact T.ql k e
    · exact (LK.gp T.l).lt
    · exact (LK.gp T.r).lt
  rintro e w' ⟨he, B⟩
  exact ⟨he, P.trans (B.sub fun k hk => .inl hk), (B.cell (p := ⟨a.gb, 0, none⟩) (.inr (.inl rfl))).trans (LK.gp T.l).h, (B.cell (p := ⟨b.gb, 0, none⟩) (.inr (.inr rfl))).trans (LK.gp T.r).h⟩
theorem begun_ga (size : Int) (h1 : -9223372036854775808 ≤ size) (h2 : size ≤ 9223372036854775807) (w : World) :
    Calls Try.prog 18 #[.int .i64 size] w fun e w' => ∃ A : GA, e = .returned (.pointer (some ⟨A.gb, 0, none⟩)) ∧ GB A.gb A.lo A.hi A.hb A.sv A.vs (8 + pickI size 60) w w' := by
  refine (begun_any size h1 h2 w).mono ?_
  rintro e w' ⟨gb, lo, hi, hb, sv, vs, he, g⟩
  exact ⟨⟨gb, lo, hi, hb, sv, vs⟩, he, g⟩
theorem TS2.cells {Q : Nat → Prop} {w0 w : World} {a b : GA} {sz x y : Int} {G G' : GG} (h : TS2 Q w0 w a b sz x y G G') : w.cell? ⟨a.gb, 0, none⟩ = some (.pointer (some ⟨a.hb, 0, none⟩)) ∧ w.cell? ⟨b.gb, 0, none⟩ = some (.pointer (some ⟨b.hb, 0, none⟩)) ∧ a.gb < w.heap.size ∧ b.gb < w.heap.size := by
  obtain ⟨P, nv, p, nv', q, T, h1, h2⟩ := h
  exact ⟨(LK.gp T.l).h, (LK.gp T.r).h, (LK.gp T.l).lt, (LK.gp T.r).lt⟩
/-- One block more that stays. -/
def QT (n tb k : Nat) : Prop := k < n ∨ k = tb
theorem TS2.alloc {w0 w : World} {a b : GA} {sz x y : Int} {G G' : GG} (h : TS2 (fun k => k < w0.heap.size) w0 w a b sz x y G G') (o : Obj) : Prot (fun k => k < w0.heap.size) w0 (w.alloc o) ∧ TS2 (QT w0.heap.size w.heap.size) (w.alloc o) (w.alloc o) a b sz x y G G' := by
  obtain ⟨P, nv, p, nv', q, T, h1, h2⟩ := h
  have B : Below w.heap.size w (w.alloc o) := (Below.refl _ _).alloc (Nat.le_refl _) _
  refine ⟨P.trans (Prot.of T.ql B), Prot.refl _ _, nv, p, nv', q, (T.below B).setQ ?_, h1, h2⟩
  rintro k (hk | rfl)
  · exact ⟨Nat.lt_of_lt_of_le (T.ql k hk) B.size, .inl hk⟩
  · refine ⟨by simp, .inr ⟨fun hf => ?_, fun hf => ?_⟩⟩
    · have := T.l.foot_lt _ hf; omega
    · have := T.r.foot_lt _ hf; omega
theorem scG_add (sz : Int) (G : GG) (O : Nat → StV) (n : Nat) : scG sz G O (n + 1) = stG sz (scG sz G O n) (O n).k (O n).a (O n).b (O n).c (O n).v := rfl
theorem TS2.starts {w w1 w2 : World} {a b : GA} {sz : Int} (g : GB a.gb a.lo a.hi a.hb a.sv a.vs sz w w1) (k : GB b.gb b.lo b.hi b.hb b.sv b.vs sz w1 w2) : TS2 (fun k => k < w.heap.size) w w2 a b sz 0 0 gL0 gL0 :=
  ⟨(Prot.of (fun _ h => h) g.1).trans (Prot.of (fun _ h => Nat.lt_of_lt_of_le h g.1.size) k.1), _, _, _, _, TG.start g k, rfl, rfl⟩
theorem Prot.toBelow {w w' : World} {n : Nat} (h : Prot (fun k => k < n) w w') : Below n w w' := ⟨h.os, h.tape, h.output, h.size, fun k hk => h.block k hk⟩
end Go.Proofs.Ytbgilndohccicab
namespace Go.Proofs.Ytbgilndohccicab
open Go.RowKit

/-- What change gives: a text that fits. -/
def ChPost (w : World) (e : Ending) (w' : World) : Prop := (∃ s k x y t, e = .returned (.agg #[.string s, .int .i64 k, .int .i64 x, .int .i64 y, .int .u8 t]) ∧ uE csL s = 0 ∧ s.size ≤ 200) ∧ Below w.heap.size w w'
set_option maxHeartbeats 1000000 in
set_option maxRecDepth 20000 in
theorem change_1 (c x y : Int) (w : World) (hc1 : -9223372036854775808 ≤ c) (hc2 : c ≤ 9223372036854775807) (hx1 : -9223372036854775808 ≤ x) (hx2 : x ≤ 9223372036854775807) (hy1 : -9223372036854775808 ≤ y) (hy2 : y ≤ 9223372036854775807) (hk : pickI c 4 = 1) :
    Calls Try.prog 19 #[.int .i64 c, .int .i64 x, .int .i64 y] w (ChPost w) := by
  have P1 : ∀ W, Calls Try.prog 12 #[.int .i64 c, .int .i64 4] W fun e w' => e = .returned (.int .i64 1) ∧ w' = W := fun W => by have := pick_any c 4 W (by decide) (by decide) hc1 hc2; rw [hk] at this; exact this
  have P2 := fun W => pick_any x 1000 W (by decide) (by decide) hx1 hx2
  have P3 := fun W => pick_any y 1000000000 W (by decide) (by decide) hy1 hy2
  obtain ⟨x', hx'⟩ : ∃ x', pickI x 1000 = x' := ⟨_, rfl⟩
  obtain ⟨y', hy'⟩ : ∃ y', pickI y 1000000000 = y' := ⟨_, rfl⟩
  rw [hx'] at P2
  rw [hy'] at P3
  unfold ChPost
  clear hc1 hc2 hx1 hx2 hy1 hy2 hk hx' hy'
  go_enter Try.func19, Try.ntmps19
  go_wp2_with fail
  refine (P1 _).mono ?_
  rintro e w1 ⟨rfl, rfl⟩
  go_wp2_with fail
  refine (P2 _).mono ?_
  rintro e w1 ⟨rfl, rfl⟩
  go_wp2_with fail
  refine (P3 _).mono ?_
  rintro e w1 ⟨rfl, rfl⟩
  clear P1 P2 P3
  go_wp2
  (try simp only [Exit.inBlock, Exit.then])
  refine bodyPost_ret (v := .agg #[.string t1S, .int .i64 1, .int .i64 x', .int .i64 y', .int .u8 78]) (by simp [results, Try.results19, go_sem, t1S]) rfl ⟨⟨_, _, _, _, _, rfl, text1, by decide⟩, ?_⟩
  exact ((Below.refl _ _).alloc (Nat.le_refl _) _).alloc (by simp) _
end Go.Proofs.Ytbgilndohccicab
namespace Go.Proofs.Ytbgilndohccicab
open Go.RowKit

theorem digits_sz (n : Nat) (h : n < 1000000000) (W : World) : Calls Try.prog 45 #[.int .i64 n] W fun e w' => (∃ s, e = .returned (.string s) ∧ Hid (bytesOf s = dgL n) ∧ s.size ≤ 9) ∧ Below W.heap.size W w' :=
  (digits_any n h W).mono fun e w' ⟨⟨s, h1, h2⟩, h3⟩ => ⟨⟨s, h1, h2, by rw [← bytesOf_len, h2]; exact dgL_len 8 n (by simpa using h)⟩, h3⟩
set_option maxHeartbeats 1000000 in
set_option maxRecDepth 20000 in
theorem change_2 (c x y : Int) (w : World) (hc1 : -9223372036854775808 ≤ c) (hc2 : c ≤ 9223372036854775807) (hx1 : -9223372036854775808 ≤ x) (hx2 : x ≤ 9223372036854775807) (hy1 : -9223372036854775808 ≤ y) (hy2 : y ≤ 9223372036854775807) (hk : pickI c 4 = 2) :
    Calls Try.prog 19 #[.int .i64 c, .int .i64 x, .int .i64 y] w (ChPost w) := by
  have P1 : ∀ W, Calls Try.prog 12 #[.int .i64 c, .int .i64 4] W fun e w' => e = .returned (.int .i64 2) ∧ w' = W := fun W => by have := pick_any c 4 W (by decide) (by decide) hc1 hc2; rw [hk] at this; exact this
  have P2 := fun W => pick_any x 1000 W (by decide) (by decide) hx1 hx2
  have P3 := fun W => pick_any y 1000000000 W (by decide) (by decide) hy1 hy2
  have bx := pickI_bd x 1000 (by decide)
  obtain ⟨n, hn⟩ : ∃ n : Nat, pickI x 1000 = n := ⟨(pickI x 1000).toNat, by omega⟩
  obtain ⟨y', hy'⟩ : ∃ y', pickI y 1000000000 = y' := ⟨_, rfl⟩
  have hn9 : n < 1000 := by omega
  rw [hn] at P2
  rw [hy'] at P3
  have D := fun W => digits_sz n (by omega) W
  unfold ChPost
  clear hc1 hc2 hx1 hx2 hy1 hy2 hk hn hy' bx
  go_enter Try.func19, Try.ntmps19
  go_wp2_with fail
  refine (P1 _).mono ?_
  rintro e w1 ⟨rfl, rfl⟩
  go_wp2_with fail
  refine (P2 _).mono ?_
  rintro e w1 ⟨rfl, rfl⟩
  go_wp2_with fail
  refine (P3 _).mono ?_
  rintro e wz ⟨rfl, rfl⟩
  clear P1 P2 P3
  go_wp2_with fail
  refine (D _).mono ?_
  rintro e w1 ⟨⟨s, rfl, hs, hz⟩, B1⟩
  have c0 : w1.cell? ⟨w.heap.size + 1, 0, none⟩ = some (.string ⟨#[]⟩) := (B1.cell (p := ⟨w.heap.size + 1, 0, none⟩) (by show w.heap.size + 1 < _; simp)).trans (by go_simp)
  have c1 : w1.cell? ⟨w.heap.size + 1, 1, none⟩ = some (.int .i64 2) := (B1.cell (p := ⟨w.heap.size + 1, 1, none⟩) (by show w.heap.size + 1 < _; simp)).trans (by go_simp)
  have c2 : w1.cell? ⟨w.heap.size + 1, 2, none⟩ = some (.int .i64 n) := (B1.cell (p := ⟨w.heap.size + 1, 2, none⟩) (by show w.heap.size + 1 < _; simp)).trans (by go_simp)
  have c3 : w1.cell? ⟨w.heap.size + 1, 3, none⟩ = some (.int .i64 y') := (B1.cell (p := ⟨w.heap.size + 1, 3, none⟩) (by show w.heap.size + 1 < _; simp)).trans (by go_simp)
  have c4 : w1.cell? ⟨w.heap.size + 1, 4, none⟩ = some (.int .u8 78) := (B1.cell (p := ⟨w.heap.size + 1, 4, none⟩) (by show w.heap.size + 1 < _; simp)).trans (by go_simp)
  have f0 : w1.frozen? ⟨w.heap.size + 1, 0, none⟩ = false := (B1.frozen (p := ⟨w.heap.size + 1, 0, none⟩) (by show w.heap.size + 1 < _; simp)).trans (by go_simp)
  have f1 : w1.frozen? ⟨w.heap.size + 1, 1, none⟩ = false := (B1.frozen (p := ⟨w.heap.size + 1, 1, none⟩) (by show w.heap.size + 1 < _; simp)).trans (by go_simp)
  have f2 : w1.frozen? ⟨w.heap.size + 1, 2, none⟩ = false := (B1.frozen (p := ⟨w.heap.size + 1, 2, none⟩) (by show w.heap.size + 1 < _; simp)).trans (by go_simp)
  have f3 : w1.frozen? ⟨w.heap.size + 1, 3, none⟩ = false := (B1.frozen (p := ⟨w.heap.size + 1, 3, none⟩) (by show w.heap.size + 1 < _; simp)).trans (by go_simp)
  have f4 : w1.frozen? ⟨w.heap.size + 1, 4, none⟩ = false := (B1.frozen (p := ⟨w.heap.size + 1, 4, none⟩) (by show w.heap.size + 1 < _; simp)).trans (by go_simp)
  have r0 : w1.cell? ⟨w.heap.size, 0, none⟩ = some (.string ⟨#[]⟩) := (B1.cell (p := ⟨w.heap.size, 0, none⟩) (by show w.heap.size < _; simp; omega)).trans (by go_simp)
  have r1 : w1.cell? ⟨w.heap.size, 1, none⟩ = some (.int .i64 0) := (B1.cell (p := ⟨w.heap.size, 1, none⟩) (by show w.heap.size < _; simp; omega)).trans (by go_simp)
  have r2 : w1.cell? ⟨w.heap.size, 2, none⟩ = some (.int .i64 0) := (B1.cell (p := ⟨w.heap.size, 2, none⟩) (by show w.heap.size < _; simp; omega)).trans (by go_simp)
  have r3 : w1.cell? ⟨w.heap.size, 3, none⟩ = some (.int .i64 0) := (B1.cell (p := ⟨w.heap.size, 3, none⟩) (by show w.heap.size < _; simp; omega)).trans (by go_simp)
  have r4 : w1.cell? ⟨w.heap.size, 4, none⟩ = some (.int .u8 0) := (B1.cell (p := ⟨w.heap.size, 4, none⟩) (by show w.heap.size < _; simp; omega)).trans (by go_simp)
  have q0 : w1.frozen? ⟨w.heap.size, 0, none⟩ = false := (B1.frozen (p := ⟨w.heap.size, 0, none⟩) (by show w.heap.size < _; simp; omega)).trans (by go_simp)
  have q1 : w1.frozen? ⟨w.heap.size, 1, none⟩ = false := (B1.frozen (p := ⟨w.heap.size, 1, none⟩) (by show w.heap.size < _; simp; omega)).trans (by go_simp)
  have q2 : w1.frozen? ⟨w.heap.size, 2, none⟩ = false := (B1.frozen (p := ⟨w.heap.size, 2, none⟩) (by show w.heap.size < _; simp; omega)).trans (by go_simp)
  have q3 : w1.frozen? ⟨w.heap.size, 3, none⟩ = false := (B1.frozen (p := ⟨w.heap.size, 3, none⟩) (by show w.heap.size < _; simp; omega)).trans (by go_simp)
  have q4 : w1.frozen? ⟨w.heap.size, 4, none⟩ = false := (B1.frozen (p := ⟨w.heap.size, 4, none⟩) (by show w.heap.size < _; simp; omega)).trans (by go_simp)
  have hl1 : w.heap.size + 1 < w1.heap.size := by have := B1.size; simp at this; omega
  have hl0 : w.heap.size < w1.heap.size := by omega
  have HB1 : Hid (Below w.heap.size w w1) := (((Below.refl _ w).alloc (Nat.le_refl _) _).alloc (by simp) _).trans (B1.mono (by simp; omega))
  clear D B1
  go_wp2
  (try simp only [Exit.inBlock, Exit.then])
  refine bodyPost_ret (v := .agg #[.string (⟨#[81, 60, 78, 123, 118, 58, 119, 44, 97, 58, 114, 61, 98, 125, 78, 60, 81, 123, 118, 58, 108, 61, 118, 42, 118, 43]⟩ ++ s ++ ⟨#[44, 97, 58, 114, 44, 98, 58, 114, 61, 48, 125]⟩), .int .i64 2, .int .i64 n, .int .i64 y', .int .u8 78]) (by simp [results, Try.results19, go_sem, r0, r1, r2, r3, r4]) rfl ⟨⟨_, _, _, _, _, rfl, text2 (x := n) hn9 ?_, ?_⟩, ?_⟩
  · rw [bytesOf_app, bytesOf_app, hs.out]
    simp [bytesOf, t2a, t2b]
  · rw [ByteArray.size_append, ByteArray.size_append, show (⟨#[81, 60, 78, 123, 118, 58, 119, 44, 97, 58, 114, 61, 98, 125, 78, 60, 81, 123, 118, 58, 108, 61, 118, 42, 118, 43]⟩ : ByteArray).size = 26 from rfl, show (⟨#[44, 97, 58, 114, 44, 98, 58, 114, 61, 48, 125]⟩ : ByteArray).size = 11 from rfl]
    omega
  · exact (((((HB1.out.setCell (p := ⟨w.heap.size + 1, 0, none⟩) (Nat.le_succ _) _).setCell (p := ⟨w.heap.size, 0, none⟩) (Nat.le_refl _) _).setCell (p := ⟨w.heap.size, 1, none⟩) (Nat.le_refl _) _).setCell (p := ⟨w.heap.size, 2, none⟩) (Nat.le_refl _) _).setCell (p := ⟨w.heap.size, 3, none⟩) (Nat.le_refl _) _).setCell (p := ⟨w.heap.size, 4, none⟩) (Nat.le_refl _) _
end Go.Proofs.Ytbgilndohccicab
