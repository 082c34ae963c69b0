import Derived.Test.YtbgilndohccicaaGreatDoorLaA
namespace Go.Proofs.YtbgilndohccicaaGreatDoor
open Go.RowKit

set_option maxRecDepth 20000 in
set_option maxHeartbeats 1000000 in
theorem links_follow (hb rb : Nat) (d : PD) (mx : Nat) (o : OpV) (w : World) (h : PairOK w hb rb d mx) (hlo : d.lo ≤ hb) (hmx : mx < 4398046511104) (ho : o.ok) (hk : o.k = 6) :
    Calls Tryz.prog 14 #[.agg #[.pointer (some ⟨hb, 0, none⟩), .pointer (some ⟨rb, 0, none⟩)], o.val] w (LPost hb rb d mx w) := by
  have hB := h.box hlo o
  have bx := Bx.new w hb rb o
  have hbl := h.hp.lt
  have hn : d.r.n ≤ 4398046511104 := by have := h.mx; omega
  have hcs : d.cs.length ≤ 1000 := by have := h.n6; omega
  have PM := pfollow_any hb d.sv d.sz d.p d.lo d.vs d.cs _ hB.hp hB.cl.cls hB.pw hB.h6 o.a o.c o.b
  have RM := fun W (hW : RP W rb d.x d.cs d.sz d.r) => rfollow_any rb d.x d.cs d.sz d.r W hW h.wf hcs h.h6 hn o.a o.c o.b
  have HB : Hid (PairOK (boxed w hb rb o) hb rb d mx) := hB
  have HX : Hid (Bx (boxed w hb rb o) w.heap.size hb rb o) := bx
  have HGo : Hid (Goes d.cs d.r _ _) := fol_pair h.sim h.pw h.wf h.h6 o.a o.c o.b
  have HE : Hid ((frf (ffind d.cs d.p.R d.p.K o.a o.c) o.b).e = refE (ffind d.cs d.r.R d.r.K o.a o.c) o.b) := ref_e h.sim o.a o.c o.b
  obtain ⟨ok, om, oa, ob, oc, ov, os, ot⟩ := o
  simp only [OpV.val] at *
  subst hk
  clear h hB bx ho
  go_enter Tryz.func14, Tryz.ntmps14
  go_wp2_with fail
  refine PM.mono ?_
  rintro e w1 ⟨rfl, hp1, g1⟩
  obtain ⟨rp1, _⟩ := HB.out.afterP hlo g1
  have RM1 := RM w1 rp1
  obtain ⟨x0, x1, x2, x3, x4, x5, x6, x7, x8⟩ := HX.out.gb g1 hbl
  have HG1 : Hid ((boxed w hb rb ⟨6, om, oa, ob, oc, ov, os, ot⟩).grownBy w1 (some hb)) := g1
  have HP1 : Hid (_) := hp1
  clear PM RM g1 rp1 hp1
  have HE' := HE.out
  go_wp2_with fail
  refine RM1.mono ?_
  rintro e w2 ⟨rfl, rp2, gs⟩
  have HL : Hid (LPost hb rb d mx w (.returned (.bool true)) w2) := HB.out.goes hlo HP1.out HG1.out rp2 gs HGo.out
  clear RM1 rp2 gs
  rw [← HE']
  generalize (frf (ffind d.cs d.p.R d.p.K oa oc) ob).e = y at *
  clear HE'
  go_wp2
  go_ret
  exact HL.out
set_option maxRecDepth 20000 in
set_option maxHeartbeats 1000000 in
theorem links_link (hb rb : Nat) (d : PD) (mx : Nat) (o : OpV) (w : World) (h : PairOK w hb rb d mx) (hlo : d.lo ≤ hb) (hmx : mx < 4398046511104) (ho : o.ok) (hk : o.k = 7) :
    Calls Tryz.prog 14 #[.agg #[.pointer (some ⟨hb, 0, none⟩), .pointer (some ⟨rb, 0, none⟩)], o.val] w (LPost hb rb d mx w) := by
  have hB := h.box hlo o
  have bx := Bx.new w hb rb o
  have hbl := h.hp.lt
  have hn : d.r.n ≤ 4398046511104 := by have := h.mx; omega
  have hcs : d.cs.length ≤ 1000 := by have := h.n6; omega
  have PM := plink_any hb d.sv d.sz d.p d.lo d.vs d.cs _ hB.hp hB.cl.cls hB.pw hB.h6 o.a o.c o.b
  have RM := fun W (hW : RP W rb d.x d.cs d.sz d.r) => rlink_any rb d.x d.cs d.sz d.r W hW h.wf hcs h.h6 hn o.a o.c o.b
  have HB : Hid (PairOK (boxed w hb rb o) hb rb d mx) := hB
  have HX : Hid (Bx (boxed w hb rb o) w.heap.size hb rb o) := bx
  have HGo : Hid (Goes d.cs d.r _ _) := link_pair h.sim h.pw h.wf (by omega) o.a o.c o.b
  have HE : Hid ((frf (ffind d.cs d.p.R d.p.K o.a o.c) o.b).e = refE (ffind d.cs d.r.R d.r.K o.a o.c) o.b) := ref_e h.sim o.a o.c o.b
  obtain ⟨ok, om, oa, ob, oc, ov, os, ot⟩ := o
  simp only [OpV.val] at *
  subst hk
  clear h hB bx ho
  go_enter Tryz.func14, Tryz.ntmps14
  go_wp2_with fail
  refine PM.mono ?_
  rintro e w1 ⟨rfl, hp1, g1⟩
  obtain ⟨rp1, _⟩ := HB.out.afterP hlo g1
  have RM1 := RM w1 rp1
  obtain ⟨x0, x1, x2, x3, x4, x5, x6, x7, x8⟩ := HX.out.gb g1 hbl
  have HG1 : Hid ((boxed w hb rb ⟨7, om, oa, ob, oc, ov, os, ot⟩).grownBy w1 (some hb)) := g1
  have HP1 : Hid (_) := hp1
  clear PM RM g1 rp1 hp1
  have HE' := HE.out
  go_wp2_with fail
  refine RM1.mono ?_
  rintro e w2 ⟨rfl, rp2, gs⟩
  have HL : Hid (LPost hb rb d mx w (.returned (.bool true)) w2) := HB.out.goes hlo HP1.out HG1.out rp2 gs HGo.out
  clear RM1 rp2 gs
  rw [← HE']
  generalize (frf (ffind d.cs d.p.R d.p.K oa oc) ob).e = y at *
  clear HE'
  go_wp2
  go_ret
  exact HL.out
set_option maxRecDepth 20000 in
set_option maxHeartbeats 1000000 in
theorem links_copy (hb rb : Nat) (d : PD) (mx : Nat) (o : OpV) (w : World) (h : PairOK w hb rb d mx) (hlo : d.lo ≤ hb) (hmx : mx < 4398046511104) (ho : o.ok) (hk : o.k = 8) :
    Calls Tryz.prog 14 #[.agg #[.pointer (some ⟨hb, 0, none⟩), .pointer (some ⟨rb, 0, none⟩)], o.val] w (LPost hb rb d mx w) := by
  have hB := h.box hlo o
  have bx := Bx.new w hb rb o
  have hbl := h.hp.lt
  have hn : d.r.n ≤ 4398046511104 := by have := h.mx; omega
  have hcs : d.cs.length ≤ 1000 := by have := h.n6; omega
  have PM := pcopy_any hb d.sv d.sz d.p _ hB.hp o.a o.b
  have RM := fun W (hW : RP W rb d.x d.cs d.sz d.r) => rcopy_any rb d.x d.cs d.sz d.r W hW o.a o.b
  have HB : Hid (PairOK (boxed w hb rb o) hb rb d mx) := hB
  have HX : Hid (Bx (boxed w hb rb o) w.heap.size hb rb o) := bx
  have HGo : Hid (Goes d.cs d.r _ _) := copy_pair h.sim h.pw h.wf o.a o.b
  have HE : Hid (pE2 o.a o.b = rtE o.a o.b) := rfl
  obtain ⟨ok, om, oa, ob, oc, ov, os, ot⟩ := o
  simp only [OpV.val] at *
  subst hk
  clear h hB bx ho
  go_enter Tryz.func14, Tryz.ntmps14
  go_wp2_with fail
  refine PM.mono ?_
  rintro e w1 ⟨rfl, hp1, g1⟩
  obtain ⟨rp1, _⟩ := HB.out.afterP hlo g1
  have RM1 := RM w1 rp1
  obtain ⟨x0, x1, x2, x3, x4, x5, x6, x7, x8⟩ := HX.out.gb g1 hbl
  have HG1 : Hid ((boxed w hb rb ⟨8, om, oa, ob, oc, ov, os, ot⟩).grownBy w1 (some hb)) := g1
  have HP1 : Hid (_) := hp1
  clear PM RM g1 rp1 hp1
  have HE' := HE.out
  go_wp2_with fail
  refine RM1.mono ?_
  rintro e w2 ⟨rfl, rp2, gs⟩
  have HL : Hid (LPost hb rb d mx w (.returned (.bool true)) w2) := HB.out.goes hlo HP1.out HG1.out rp2 gs HGo.out
  clear RM1 rp2 gs
  rw [← HE']
  generalize pE2 oa ob = y at *
  clear HE'
  go_wp2
  go_ret
  exact HL.out
set_option maxRecDepth 20000 in
set_option maxHeartbeats 1000000 in
theorem links_clear (hb rb : Nat) (d : PD) (mx : Nat) (o : OpV) (w : World) (h : PairOK w hb rb d mx) (hlo : d.lo ≤ hb) (hmx : mx < 4398046511104) (ho : o.ok) (hk : o.k = 9) :
    Calls Tryz.prog 14 #[.agg #[.pointer (some ⟨hb, 0, none⟩), .pointer (some ⟨rb, 0, none⟩)], o.val] w (LPost hb rb d mx w) := by
  have hB := h.box hlo o
  have bx := Bx.new w hb rb o
  have hbl := h.hp.lt
  have hn : d.r.n ≤ 4398046511104 := by have := h.mx; omega
  have hcs : d.cs.length ≤ 1000 := by have := h.n6; omega
  have PM := pclear_any hb d.sv d.sz d.p _ hB.hp o.a
  have RM := fun W (hW : RP W rb d.x d.cs d.sz d.r) => rclear_any rb d.x d.cs d.sz d.r W hW o.a
  have HB : Hid (PairOK (boxed w hb rb o) hb rb d mx) := hB
  have HX : Hid (Bx (boxed w hb rb o) w.heap.size hb rb o) := bx
  have HGo : Hid (Goes d.cs d.r _ _) := clear_pair h.sim h.pw h.wf o.a
  have HE : Hid (pE1 o.a = rtE1 o.a) := rfl
  obtain ⟨ok, om, oa, ob, oc, ov, os, ot⟩ := o
  simp only [OpV.val] at *
  subst hk
  clear h hB bx ho
  go_enter Tryz.func14, Tryz.ntmps14
  go_wp2_with fail
  refine PM.mono ?_
  rintro e w1 ⟨rfl, hp1, g1⟩
  obtain ⟨rp1, _⟩ := HB.out.afterP hlo g1
  have RM1 := RM w1 rp1
  obtain ⟨x0, x1, x2, x3, x4, x5, x6, x7, x8⟩ := HX.out.gb g1 hbl
  have HG1 : Hid ((boxed w hb rb ⟨9, om, oa, ob, oc, ov, os, ot⟩).grownBy w1 (some hb)) := g1
  have HP1 : Hid (_) := hp1
  clear PM RM g1 rp1 hp1
  have HE' := HE.out
  go_wp2_with fail
  refine RM1.mono ?_
  rintro e w2 ⟨rfl, rp2, gs⟩
  have HL : Hid (LPost hb rb d mx w (.returned (.bool true)) w2) := HB.out.goes hlo HP1.out HG1.out rp2 gs HGo.out
  clear RM1 rp2 gs
  rw [← HE']
  generalize pE1 oa = y at *
  clear HE'
  go_wp2
  go_ret
  exact HL.out
set_option maxRecDepth 20000 in
set_option maxHeartbeats 1000000 in
theorem links_same (hb rb : Nat) (d : PD) (mx : Nat) (o : OpV) (w : World) (h : PairOK w hb rb d mx) (hlo : d.lo ≤ hb) (hmx : mx < 4398046511104) (ho : o.ok) (hk : o.k = 10) :
    Calls Tryz.prog 14 #[.agg #[.pointer (some ⟨hb, 0, none⟩), .pointer (some ⟨rb, 0, none⟩)], o.val] w (LPost hb rb d mx w) := by
  have hB := h.box hlo o
  have bx := Bx.new w hb rb o
  have hbl := h.hp.lt
  have hn : d.r.n ≤ 4398046511104 := by have := h.mx; omega
  have hcs : d.cs.length ≤ 1000 := by have := h.n6; omega
  have PM := psame_any hb d.sv d.sz d.p _ hB.hp o.a o.b
  have RM := fun W (hW : RP W rb d.x d.cs d.sz d.r) => rsame_any rb d.x d.cs d.sz d.r W hW o.a o.b
  have HB : Hid (PairOK (boxed w hb rb o) hb rb d mx) := hB
  have HX : Hid (Bx (boxed w hb rb o) w.heap.size hb rb o) := bx
  have HE : Hid (pE2 o.a o.b = rtE o.a o.b) := rfl
  have HV : Hid (psameI d.p o.a o.b = rsameI d.r o.a o.b) := same_pair h.sim o.a o.b
  obtain ⟨ok, om, oa, ob, oc, ov, os, ot⟩ := o
  simp only [OpV.val] at *
  subst hk
  clear h hB bx ho
  go_enter Tryz.func14, Tryz.ntmps14
  go_wp2_with fail
  refine PM.mono ?_
  rintro e w1 ⟨rfl, B1⟩
  have RM1 := RM w1 (HB.out.rp.below B1)
  obtain ⟨x0, x1, x2, x3, x4, x5, x6, x7, x8⟩ := HX.out.bel B1
  have HB1 : Hid (Below (boxed w hb rb ⟨10, om, oa, ob, oc, ov, os, ot⟩).heap.size (boxed w hb rb ⟨10, om, oa, ob, oc, ov, os, ot⟩) w1) := B1
  clear PM RM B1
  have HE' := HE.out
  have HV' := HV.out
  go_wp2_with fail
  refine RM1.mono ?_
  rintro e w2 ⟨rfl, B2⟩
  have HL : Hid (LPost hb rb d mx w (.returned (.bool true)) w2) := HB.out.asks hlo HB1.out B2
  clear RM1 B2
  rw [← HV', ← HE']
  generalize psameI d.p oa ob = y at *
  generalize pE2 oa ob = z at *
  clear HE' HV'
  go_wp2
  go_ret
  exact HL.out
end Go.Proofs.YtbgilndohccicaaGreatDoor
namespace Go.Proofs.YtbgilndohccicaaGreatDoor
open Go.RowKit

set_option maxRecDepth 20000 in
set_option maxHeartbeats 1000000 in
theorem links_words (hb rb : Nat) (d : PD) (mx : Nat) (o : OpV) (w : World) (h : PairOK w hb rb d mx) (hlo : d.lo ≤ hb) (hmx : mx < 4398046511104) (_ho : o.ok) (hk : o.k = 11) :
    Calls Tryz.prog 14 #[.agg #[.pointer (some ⟨hb, 0, none⟩), .pointer (some ⟨rb, 0, none⟩)], o.val] w (LPost hb rb d mx w) := by
  have hB := h.box hlo o
  have bx := Bx.new w hb rb o
  have hbl := h.hp.lt
  have hn : d.r.n ≤ 4398046511104 := by have := h.mx; omega
  have hcs : d.cs.length ≤ 1000 := by have := h.n6; omega
  have PM := pwords_any hb d.sv d.sz d.p d.lo d.vs d.cs _ hB.hp hB.cl.cls hB.pw hB.h6
  have RM := fun W (hW : RP W rb d.x d.cs d.sz d.r) => rwords_any rb d.x d.cs d.sz d.r W hW h.wf hcs h.h6 hn
  have HB : Hid (PairOK (boxed w hb rb o) hb rb d mx) := hB
  have HX : Hid (Bx (boxed w hb rb o) w.heap.size hb rb o) := bx
  have H0 : Hid (Wf d.cs d.r ∧ Sim d.cs d.p d.r ∧ (∀ c ∈ d.cs, c.2.length ≤ 6)) := ⟨h.wf, h.sim, h.h6⟩
  obtain ⟨ok, om, oa, ob, oc, ov, os, ot⟩ := o
  simp only [OpV.val] at *
  subst hk
  clear h hB bx
  go_enter Tryz.func14, Tryz.ntmps14
  go_wp2_with fail
  refine PM.mono ?_
  rintro e w1 ⟨L, rfl, hd, hm, B1⟩
  have RM1 := RM w1 (HB.out.rp.below B1)
  obtain ⟨x0, x1, x2, x3, x4, x5, x6, x7, x8⟩ := HX.out.bel B1
  have HB1 : Hid (Below (boxed w hb rb ⟨11, om, oa, ob, oc, ov, os, ot⟩).heap.size (boxed w hb rb ⟨11, om, oa, ob, oc, ov, os, ot⟩) w1) := B1
  have HL0 : Hid (L.Nodup ∧ ∀ a, a ∈ L ↔ d.p.in a) := ⟨hd, hm⟩
  obtain ⟨y, hy⟩ : ∃ y, y = wlist d.cs d.p.K L := ⟨_, rfl⟩
  have HY : Hid (y = wlist d.cs d.p.K L) := hy
  rw [← hy]
  clear PM RM B1 hd hm hy
  go_wp2_with fail
  refine RM1.mono ?_
  rintro e w2 ⟨T, rfl, hT, B2⟩
  have HL : Hid (LPost hb rb d mx w (.returned (.bool true)) w2) := HB.out.asks hlo HB1.out B2
  have ey : wsum d.cs d.r.K T d.r.n = y := by rw [HY.out]; exact (wlist_wsum H0.out.2.1 H0.out.2.2 H0.out.1 L T HL0.out.1 HL0.out.2 hT).symm
  rw [ey]
  clear RM1 B2 ey hT
  go_wp2
  go_ret
  exact HL.out
theorem numbers_any (hb rb : Nat) (d : PD) (mx : Nat) (o : OpV) (w : World) (h : PairOK w hb rb d mx) (hlo : d.lo ≤ hb) (hmx : mx < 4398046511104) (ho : o.ok) (h1 : 2 ≤ o.k) (h2 : o.k ≤ 5) :
    Calls Tryz.prog 13 #[.agg #[.pointer (some ⟨hb, 0, none⟩), .pointer (some ⟨rb, 0, none⟩)], o.val] w (LPost hb rb d mx w) := by
  have : o.k = 2 ∨ o.k = 3 ∨ o.k = 4 ∨ o.k = 5 := by omega
  rcases this with e | e | e | e
  · exact numbers_make hb rb d mx o w h hlo hmx e
  · exact numbers_class hb rb d mx o w h hlo hmx ho e
  · exact numbers_get hb rb d mx o w h hlo hmx ho e
  · exact numbers_put hb rb d mx o w h hlo hmx ho e
theorem links_any (hb rb : Nat) (d : PD) (mx : Nat) (o : OpV) (w : World) (h : PairOK w hb rb d mx) (hlo : d.lo ≤ hb) (hmx : mx < 4398046511104) (ho : o.ok) (h1 : 6 ≤ o.k) (h2 : o.k ≤ 11) :
    Calls Tryz.prog 14 #[.agg #[.pointer (some ⟨hb, 0, none⟩), .pointer (some ⟨rb, 0, none⟩)], o.val] w (LPost hb rb d mx w) := by
  have : o.k = 6 ∨ o.k = 7 ∨ o.k = 8 ∨ o.k = 9 ∨ o.k = 10 ∨ o.k = 11 := by omega
  rcases this with e | e | e | e | e | e
  · exact links_follow hb rb d mx o w h hlo hmx ho e
  · exact links_link hb rb d mx o w h hlo hmx ho e
  · exact links_copy hb rb d mx o w h hlo hmx ho e
  · exact links_clear hb rb d mx o w h hlo hmx ho e
  · exact links_same hb rb d mx o w h hlo hmx ho e
  · exact links_words hb rb d mx o w h hlo hmx ho e
end Go.Proofs.YtbgilndohccicaaGreatDoor
namespace Go.Proofs.YtbgilndohccicaaGreatDoor
open Go.RowKit

abbrev PQ := Nat × Nat × PD
def PQ.fp (q : PQ) (b : Nat) : Prop := q.2.2.fp q.1 q.2.1 b
def flatQ (ps : List PQ) : List Value := ps.flatMap fun q => [.pointer (some ⟨q.1, 0, none⟩), .pointer (some ⟨q.2.1, 0, none⟩)]
/-- The law's heaps, in blocks from B on. -/
structure WS (B : Nat) (w : World) (wb : Nat) (v : Value) (ps : List PQ) (mx : Nat) : Prop where
  c : w.cell? ⟨wb, 0, none⟩ = some v
  f : w.frozen? ⟨wb, 0, none⟩ = false
  own : w.ownsRow B 41 2 v ps.length (flatQ ps)
  ok : ∀ (i : Nat) (q : PQ), ps[i]? = some q → q.2.2.lo ≤ q.1 ∧ PairOK w q.1 q.2.1 q.2.2 mx
  ge : ∀ (i : Nat) (q : PQ), ps[i]? = some q → ∀ b, q.fp b → B ≤ b ∧ b ≠ wb ∧ v.ownBlock ≠ some b
  dj : ∀ (i j : Nat) (q q' : PQ), i ≠ j → ps[i]? = some q → ps[j]? = some q' → ∀ b, q.fp b → ¬ q'.fp b
  wbB : B ≤ wb
  wv : v.ownBlock ≠ some wb
/-- What a call on the law's heaps may write. -/
def wsS (wb : Nat) (v : Value) (ps : List PQ) (b : Nat) : Prop := b = wb ∨ v.ownBlock = some b ∨ ∃ (i : Nat) (q : PQ), ps[i]? = some q ∧ q.fp b
theorem WS.lt {B : Nat} {w : World} {wb : Nat} {v : Value} {ps : List PQ} {mx : Nat} (h : WS B w wb v ps mx) : wb < w.heap.size := World.block_lt_of_cell? w ⟨wb, 0, none⟩ h.c
theorem WS.below {B : Nat} {w w' : World} {wb : Nat} {v : Value} {ps : List PQ} {mx mx' : Nat} (h : WS B w wb v ps mx) (hb : Below w.heap.size w w') (hm : mx ≤ mx') : WS B w' wb v ps mx' :=
  ⟨(hb.cell (by exact h.lt)).trans h.c, (hb.frozen (by exact h.lt)).trans h.f, row_keepH h.own fun g hg => hb.block g (World.ownsRow.lt h.own g hg).2,
   fun i q hq => ⟨(h.ok i q hq).1, (h.ok i q hq).2.keep (h.ok i q hq).1 hb.size (fun b hb' => hb.block b ((h.ok i q hq).2.fp_lt hb')) hm⟩, h.ge, h.dj, h.wbB, h.wv⟩
theorem flatQ_set (ps : List PQ) (i : Nat) (q : PQ) (d' : PD) (h : ps[i]? = some q) : flatQ (ps.set i (q.1, q.2.1, d')) = flatQ ps := by
  unfold flatQ
  induction ps generalizing i with
  | nil => simp at h
  | cons x l ih =>
    match i with
    | 0 =>
      simp only [List.getElem?_cons_zero, Option.some.injEq] at h
      subst h
      rw [List.set_cons_zero, List.flatMap_cons, List.flatMap_cons]
    | j + 1 =>
      rw [List.set_cons_succ, List.flatMap_cons, List.flatMap_cons, ih j (by simpa using h)]
/-- A call on the pair at i. -/
theorem WS.step {B : Nat} {w w' : World} {wb : Nat} {v : Value} {ps : List PQ} {mx : Nat} (h : WS B w wb v ps mx) (i : Nat) (q : PQ) (hq : ps[i]? = some q) (d' : PD) (hlo : d'.lo ≤ q.1) (hp : PairOK w' q.1 q.2.1 d' (mx + 1)) (gs : GS w w' (q.2.2.fp q.1 q.2.1)) (hfp : ∀ b, d'.fp q.1 q.2.1 b → q.2.2.fp q.1 q.2.1 b ∨ w.heap.size ≤ b) :
    WS B w' wb v (ps.set i (q.1, q.2.1, d')) (mx + 1) ∧ Below B w w' := by
  have hl := h.lt
  obtain ⟨hi, _⟩ := List.getElem?_eq_some_iff.1 hq
  have hwb : w'.heap[wb]? = w.heap[wb]? := gs.block wb hl (fun hh => (h.ge i q hq wb hh).2.1 rfl)
  refine ⟨⟨(World.cell?_of_block (a := ⟨wb, 0, none⟩) hwb).trans h.c, (World.frozen?_of_block (a := ⟨wb, 0, none⟩) hwb).trans h.f, ?_, ?_, ?_, ?_, h.wbB, h.wv⟩, ?_⟩
  · rw [List.length_set, flatQ_set ps i q d' hq]
    exact row_keepH h.own fun g hg => gs.block g (World.ownsRow.lt h.own g hg).2 (fun hh => (h.ge i q hq g hh).2.2 hg)
  · intro j q' hq'
    rw [List.getElem?_set] at hq'
    by_cases e : i = j
    · rw [if_pos e, if_pos hi] at hq'
      have := Option.some.inj hq'
      subst this
      exact ⟨hlo, hp⟩
    · rw [if_neg e] at hq'
      refine ⟨(h.ok j q' hq').1, (h.ok j q' hq').2.keep (h.ok j q' hq').1 gs.size (fun b hb => gs.block b ((h.ok j q' hq').2.fp_lt hb) (fun hh => h.dj i j q q' e hq hq' b hh hb)) (by omega)⟩
  · intro j q' hq' b hb
    rw [List.getElem?_set] at hq'
    by_cases e : i = j
    · rw [if_pos e, if_pos hi] at hq'
      have := Option.some.inj hq'
      subst this
      rcases hfp b hb with hh | hh
      · exact h.ge i q hq b hh
      · refine ⟨by have := h.wbB; omega, by omega, fun hv => ?_⟩
        have := (World.ownsRow.lt h.own b hv).2; omega
    · rw [if_neg e] at hq'
      exact h.ge j q' hq' b hb
  · intro j k q' q'' hne hj hk b hb hb2
    rw [List.getElem?_set] at hj hk
    by_cases e : i = j
    · have e2 : i ≠ k := fun e2 => hne (e.symm.trans e2)
      rw [if_pos e, if_pos hi] at hj
      rw [if_neg e2] at hk
      have := Option.some.inj hj
      subst this
      rcases hfp b hb with hh | hh
      · exact h.dj i k q q'' e2 hq hk b hh hb2
      · have := (h.ok k q'' hk).2.fp_lt hb2; omega
    · rw [if_neg e] at hj
      by_cases e2 : i = k
      · rw [if_pos e2, if_pos hi] at hk
        have := Option.some.inj hk
        subst this
        rcases hfp b hb2 with hh | hh
        · exact h.dj i j q q' e hq hj b hh hb
        · have := (h.ok j q' hj).2.fp_lt hb; omega
      · rw [if_neg e2] at hk
        exact h.dj j k q' q'' hne hj hk b hb hb2
  · exact ⟨gs.os, gs.tape, gs.output, gs.size, fun k hk => gs.block k (by have := h.wbB; omega) (fun hh => by have := (h.ge i q hq k hh).1; omega)⟩
theorem WS.s_lt {B : Nat} {w : World} {wb : Nat} {v : Value} {ps : List PQ} {mx : Nat} (h : WS B w wb v ps mx) {b : Nat} (hb : wsS wb v ps b) : b < w.heap.size := by
  rcases hb with rfl | hb | ⟨i, q, hq, hb⟩
  · exact h.lt
  · exact (World.ownsRow.lt h.own b hb).2
  · exact (h.ok i q hq).2.fp_lt hb
theorem flatQ_len (ps : List PQ) : (flatQ ps).length = ps.length * 2 := by
  unfold flatQ
  induction ps with
  | nil => rfl
  | cons x l ih => rw [List.flatMap_cons, List.length_append, ih]; simp; omega
theorem flatQ_get (ps : List PQ) : ∀ i q, ps[i]? = some q → (flatQ ps)[i * 2]? = some (.pointer (some ⟨q.1, 0, none⟩)) ∧ (flatQ ps)[i * 2 + 1]? = some (.pointer (some ⟨q.2.1, 0, none⟩)) := by
  unfold flatQ
  induction ps with
  | nil => intro i q h; simp at h
  | cons x l ih =>
    intro i q h
    match i with
    | 0 =>
      simp only [List.getElem?_cons_zero, Option.some.injEq] at h
      subst h
      exact ⟨rfl, rfl⟩
    | j + 1 =>
      have := ih j q (by simpa using h)
      rw [List.flatMap_cons]
      have e1 : (j + 1) * 2 = j * 2 + 2 := by omega
      rw [e1]
      exact this
/-- The pair at i, in memory. -/
theorem WS.cells {B : Nat} {w : World} {wb : Nat} {v : Value} {ps : List PQ} {mx : Nat} (h : WS B w wb v ps mx) (i : Nat) (q : PQ) (hq : ps[i]? = some q) : ∃ g cap, v = .slice (some ⟨g, 0, none⟩) ps.length cap ∧ g < w.heap.size ∧ w.cell? ⟨g, i * 2, none⟩ = some (.pointer (some ⟨q.1, 0, none⟩)) ∧ w.cell? ⟨g, i * 2 + 1, none⟩ = some (.pointer (some ⟨q.2.1, 0, none⟩)) := by
  obtain ⟨hi, _⟩ := List.getElem?_eq_some_iff.1 hq
  rcases h.own.2 with ⟨e, hn⟩ | ⟨g, cap, cur, e, _, hg, _⟩
  · omega
  · have c := World.ownsRow.cells h.own (g := g) (by rw [e]; rfl)
    have e2 : ∀ j, (⟨g, 0, none⟩ : Addr).add j = ⟨g, j, none⟩ := fun j => by unfold Addr.add; split <;> simp_all
    have c0 := c (i * 2) _ (flatQ_get ps i q hq).1
    have c1 := c (i * 2 + 1) _ (flatQ_get ps i q hq).2
    rw [e2] at c0 c1
    exact ⟨g, cap, e, (Array.getElem?_eq_some_iff.1 hg).1, c0, c1⟩
end Go.Proofs.YtbgilndohccicaaGreatDoor
namespace Go.Proofs.YtbgilndohccicaaGreatDoor
open Go.RowKit

theorem Tryz.infoPair : (Tryz.prog.info? 41).map (fun i => (i.zero, i.size, i.bytes)) = some (some (.agg #[.pointer none, .pointer none]), 2, 16) := by kernel_rfl
theorem newE_r (s : ByteArray) (size : Int) : newEr (readE s) size = newE s size := rfl
/-- A new pair. -/
theorem PairOK.new {w w1 w2 : World} {hb rb hi : Nat} {sv : SV} {vs : List (Int × SV)} {x : RX} {s : ByteArray} {size : Int} {mx : Nat} (_h1 : w.heap.size ≤ hi) (h2 : hi ≤ hb) (hp : HP w1 hb sv size (fun _ => 0) (fun _ => 0) (fun _ _ => 0) (fun _ _ => 0)) (cl : ClsIn w1 w.heap.size hi (.slice sv.a sv.n sv.c) vs (readC s)) (B2 : Below w1.heap.size w1 w2)
    (rp : RP w2 rb x (readC s) size newD) (hx : ∀ b, x.has (readC s) 0 rb b → w1.heap.size ≤ b) (hs1 : 1 ≤ size) (hs2 : size ≤ 200) : PairOK w2 hb rb ⟨w.heap.size, hi, sv, vs, readC s, size, ⟨fun _ => 0, fun _ => 0, fun _ _ => 0, fun _ _ => 0⟩, x, newD⟩ mx := by
  have hbl := hp.lt
  have hF := readC_fine s
  refine ⟨hp.below B2, cl.keep fun b _ hb' => B2.block b (by omega), h2, rp, ⟨fun i _ => by simp, fun a j _ _ => by simp⟩, ⟨fun i _ => Nat.zero_le _, fun b hb0 hbn => absurd hbn (by simp [newD]; omega), fun b j hb0 hbn => absurd hbn (by simp [newD]; omega)⟩, sim_new _ _ _ (fun _ _ => rfl) (fun _ _ => rfl), hF.1, hF.2, hs1, hs2, Nat.zero_le _, fun b hb' hc => ?_⟩
  have := hx b hb'
  have h3 : b ≤ hb := hc.2
  omega
theorem wpList_append_run {P : Program} {ops : Array Oper} {rest : List Oper} {o : Oper} {a : Act} {w : World} {Q : Exit → Act → World → Prop} (hgd : o.guard = none) (s x : Operand) (t : TypeId) (ho : o.op = Op.call { callee := Callee.builtin Builtin.append, args := #[s, x], argTypes := #[t, t] })
    (v u v' : Value) (w' : World) (hs : a.eval s = v) (hx : a.eval x = u) (hrun : (Builtin.append_ #[t, t] o.type #[v, u]).run P w = .ok v' w') (h : wpList P ops Q rest (a.put o.dst v') w') : wpList P ops Q (o :: rest) a w := by
  refine wpList_plain hgd fun K hK => ?_
  unfold Oper.wp
  simp [execOp, ho, resolve, invoke, builtin, hs, hx, hrun, Result.andThen]
  exact hK _ _ h
theorem row_base {w : World} {base : Nat} {e : TypeId} {size : Nat} {v : Value} {n : Nat} {xs : List Value} (h : w.ownsRow 0 e size v n xs) (hb : ∀ g, v.ownBlock = some g → base ≤ g) : w.ownsRow base e size v n xs := by
  obtain ⟨h1, h2⟩ := h
  refine ⟨h1, h2.imp id ?_⟩
  rintro ⟨g, cap, cur, rfl, _, r⟩
  exact ⟨g, cap, cur, rfl, hb g rfl, r⟩
/-- A pair more. -/
theorem WS.more {B : Nat} {w w3 : World} {wb : Nat} {v v' : Value} {ps : List PQ} {mx : Nat} (h : WS B w wb v ps mx) (q : PQ) (lo : Nat) (hlo : q.2.2.lo ≤ q.1) (hq : PairOK w q.1 q.2.1 q.2.2 mx) (hfp : ∀ b, q.fp b → lo ≤ b) (hlB : wb < lo) (hlv : ∀ g, v.ownBlock = some g → g < lo) (hlp : ∀ (i : Nat) (q' : PQ), ps[i]? = some q' → ∀ b, q'.fp b → b < lo)
    (own : w3.ownsRow 0 41 2 v' (ps.length + 1) (flatQ ps ++ [.pointer (some ⟨q.1, 0, none⟩), .pointer (some ⟨q.2.1, 0, none⟩)])) (g : w.grownBy w3 v.ownBlock) (hn : ∀ g, v'.ownBlock = some g → v.ownBlock = some g ∨ w.heap.size ≤ g) :
    WS B (w3.setCell ⟨wb, 0, none⟩ v') wb v' (ps ++ [q]) mx ∧ Below B w (w3.setCell ⟨wb, 0, none⟩ v') ∧ GS w (w3.setCell ⟨wb, 0, none⟩ v') (wsS wb v ps) := by
  have hl := h.lt
  have hkb : ∀ b, b < w.heap.size → v.ownBlock ≠ some b → w3.heap[b]? = w.heap[b]? := fun b hb hne => g.block b hb (Ne.symm hne)
  have ewb : w3.heap[wb]? = w.heap[wb]? := hkb wb hl h.wv
  have hvB : ∀ g, v'.ownBlock = some g → B ≤ g ∧ g ≠ wb := fun g hg => by
    rcases hn g hg with hh | hh
    · exact ⟨(World.ownsRow.lt h.own g hh).1, fun e => h.wv (by rw [← e]; exact hh)⟩
    · have := h.wbB; exact ⟨by omega, by omega⟩
  have hqlt : ∀ b, q.fp b → b < w.heap.size := fun b hb => hq.fp_lt hb
  have hqv : ∀ b, q.fp b → v.ownBlock ≠ some b := fun b hb hv => by have := hfp b hb; have := hlv b hv; omega
  have hqw : ∀ b, q.fp b → b ≠ wb := fun b hb e => by have := hfp b hb; omega
  have hget : ∀ (i : Nat) (q' : PQ), (ps ++ [q])[i]? = some q' → ps[i]? = some q' ∨ q' = q := fun i q' hi => by
    rcases Nat.lt_or_ge i ps.length with hlt | hge
    · rw [List.getElem?_append_left hlt] at hi; exact .inl hi
    · rw [List.getElem?_append_right hge] at hi
      obtain ⟨h1, h2⟩ := List.getElem?_eq_some_iff.1 hi
      right
      rw [List.getElem_singleton] at h2
      exact h2.symm
  have hallv : ∀ (i : Nat) (q' : PQ), (ps ++ [q])[i]? = some q' → ∀ b, q'.fp b → b < w.heap.size ∧ v.ownBlock ≠ some b ∧ b ≠ wb ∧ B ≤ b := fun i q' hi b hb => by
    rcases hget i q' hi with hi | rfl
    · exact ⟨(h.ok i q' hi).2.fp_lt hb, (h.ge i q' hi b hb).2.2, (h.ge i q' hi b hb).2.1, (h.ge i q' hi b hb).1⟩
    · exact ⟨hqlt b hb, hqv b hb, hqw b hb, by have := h.wbB; have := hfp b hb; omega⟩
  have hkeep : ∀ (i : Nat) (q' : PQ), (ps ++ [q])[i]? = some q' → ∀ b, q'.fp b → (w3.setCell ⟨wb, 0, none⟩ v').heap[b]? = w.heap[b]? := fun i q' hi b hb => by
    obtain ⟨a1, a2, a3, _⟩ := hallv i q' hi b hb
    exact (sc_blk w3 _ a3).trans (hkb b a1 a2)
  have hsz : (w3.setCell ⟨wb, 0, none⟩ v').heap.size = w3.heap.size := by simp [World.setCell]
  have c3 : w3.cell? ⟨wb, 0, none⟩ = some v := (World.cell?_of_block (a := ⟨wb, 0, none⟩) ewb).trans h.c
  refine ⟨⟨World.cell?_setCell_same _ _ _ (by rw [c3]), ?_, ?_, fun i q' hi => ?_, fun i q' hi b hb => ?_, fun i j q' q'' hne hi hj b hb hb2 => ?_, h.wbB, fun hv => (hvB wb hv).2 rfl⟩, ?_, ?_⟩
  · rw [sc_frz]; exact (World.frozen?_of_block (a := ⟨wb, 0, none⟩) ewb).trans h.f
  · rw [List.length_append]
    have e : flatQ (ps ++ [q]) = flatQ ps ++ [.pointer (some ⟨q.1, 0, none⟩), .pointer (some ⟨q.2.1, 0, none⟩)] := by simp [flatQ]
    rw [e]
    exact row_base (row_keepH own fun g hg => sc_blk w3 _ (hvB g hg).2) (fun g hg => (hvB g hg).1)
  · have hp : q'.2.2.lo ≤ q'.1 ∧ PairOK w q'.1 q'.2.1 q'.2.2 mx := by
      rcases hget i q' hi with hi | rfl
      · exact h.ok i q' hi
      · exact ⟨hlo, hq⟩
    exact ⟨hp.1, hp.2.keep hp.1 (by rw [hsz]; exact g.size) (hkeep i q' hi) (Nat.le_refl _)⟩
  · obtain ⟨a1, a2, a3, a4⟩ := hallv i q' hi b hb
    refine ⟨a4, a3, fun hv => ?_⟩
    rcases hn b hv with hh | hh
    · exact a2 hh
    · omega
  · rcases Nat.lt_or_ge i ps.length with hl1 | hg1
    · rw [List.getElem?_append_left hl1] at hi
      rcases Nat.lt_or_ge j ps.length with hl2 | hg2
      · rw [List.getElem?_append_left hl2] at hj
        exact h.dj i j q' q'' hne hi hj b hb hb2
      · rcases hget j q'' hj with hj' | rfl
        · exact h.dj i j q' q'' hne hi hj' b hb hb2
        · have := hlp i q' hi b hb; have := hfp b hb2; omega
    · rcases hget i q' hi with hi' | rfl
      · obtain ⟨h1, _⟩ := List.getElem?_eq_some_iff.1 hi'; omega
      · rcases Nat.lt_or_ge j ps.length with hl2 | hg2
        · rw [List.getElem?_append_left hl2] at hj
          have := hlp j q'' hj b hb2; have := hfp b hb; omega
        · obtain ⟨h1, _⟩ := List.getElem?_eq_some_iff.1 hi
          obtain ⟨h2, _⟩ := List.getElem?_eq_some_iff.1 hj
          simp at h1 h2
          omega
  · exact ⟨g.os, g.tape, g.output, by rw [hsz]; exact g.size, fun k hk => (sc_blk w3 _ (by have := h.wbB; omega)).trans (hkb k (by have := h.wbB; omega) (fun hv => by have := (World.ownsRow.lt h.own k hv).1; omega))⟩
  · exact ⟨g.os, g.tape, g.output, by rw [hsz]; exact g.size, fun k hk hn' => (sc_blk w3 _ (fun e => hn' (.inl e))).trans (hkb k hk (fun hv => hn' (.inr (.inl hv))))⟩
def BPost (E : Int) (B wb : Nat) (v : Value) (ps : List PQ) (mx : Nat) (w : World) (e : Ending) (w' : World) : Prop := e = .returned (.bool true) ∧ (Below B w w' ∧ GS w w' (wsS wb v ps)) ∧ ∃ v' ps', WS B w' wb v' ps' mx ∧ ps.length ≤ ps'.length ∧ ps'.length ≤ ps.length + 1 ∧ (E = 0 → ps'.length = ps.length + 1)
set_option maxRecDepth 20000 in
set_option maxHeartbeats 1000000 in
theorem begin_any (B wb : Nat) (v : Value) (ps : List PQ) (mx : Nat) (s : ByteArray) (size : Int) (w : World) (h : WS B w wb v ps mx) (hs : s.size ≤ 9223372036854775807) (hE : Ends w) (_hE0 : 0 < B) (hl : ps.length ≤ 4398046511104) :
    Calls Tryz.prog 8 #[.pointer (some ⟨wb, 0, none⟩), .string s, .int .i64 size] w (BPost (newE s size) B wb v ps mx w) := by
  have PM := pnew_any s size w hs
  have HE : Hid (Ends w) := hE
  have HW : Hid (WS B w wb v ps mx) := h
  have hwl := h.lt
  have hBw : B ≤ w.heap.size := by have := h.wbB; omega
  obtain ⟨iP, hiP, hzP0, hzP1, hzP2⟩ := infoParts3 Tryz.infoPair
  unfold PNPost at PM
  unfold BPost
  by_cases h0 : newE s size = 0
  · have H0 : Hid (newE s size = 0) := h0
    have hsz : 1 ≤ size ∧ size ≤ 200 := by
      unfold newE at h0
      split at h0
      · exact absurd h0 (by assumption)
      · split at h0
        · simp at h0
        · rename_i hh; omega
    clear h hE h0
    go_enter Tryz.func8, Tryz.ntmps8
    go_wp2_with fail
    refine PM.mono ?_
    rintro e w1 ⟨B1, hcase⟩
    obtain ⟨hi, hb, sv, vs, rfl, q1, q2, hp, cl⟩ : ∃ hi hb sv vs, e = .returned (.tuple #[.pointer (some ⟨hb, 0, none⟩), .int .i64 0]) ∧ w.heap.size ≤ hi ∧ hi ≤ hb ∧ HP w1 hb sv size (fun _ => 0) (fun _ => 0) (fun _ _ => 0) (fun _ _ => 0) ∧ ClsIn w1 w.heap.size hi (.slice sv.a sv.n sv.c) vs (readC s) := by
      rcases hcase with ⟨hne, _⟩ | ⟨_, hi, hb, sv, vs, a1, a2, a3, a4, a5⟩
      · exact absurd H0.out hne
      · exact ⟨hi, hb, sv, vs, a1, a2, a3, a4, a5⟩
    have RM := rnew_any s size w1 hs (HE.out.below B1)
    have HP1 : Hid (Below w.heap.size w w1 ∧ w.heap.size ≤ hi ∧ hi ≤ hb ∧ HP w1 hb sv size (fun _ => 0) (fun _ => 0) (fun _ _ => 0) (fun _ _ => 0) ∧ ClsIn w1 w.heap.size hi (.slice sv.a sv.n sv.c) vs (readC s)) := ⟨B1, q1, q2, hp, cl⟩
    clear PM hcase hp cl B1
    go_wp2_with fail
    refine RM.mono ?_
    rintro e w2 ⟨B2, hcase⟩
    obtain ⟨rb, x, rfl, rp, hx, _⟩ : ∃ rb x, e = .returned (.tuple #[.pointer (some ⟨rb, 0, none⟩), .int .i64 0]) ∧ RP w2 rb x (readC s) size newD ∧ (∀ b, x.has (readC s) 0 rb b → w1.heap.size ≤ b) ∧ x.pd = false := by
      rcases hcase with ⟨hne, _⟩ | ⟨_, rb, x, a1, a2, a3, a4⟩
      · exact absurd ((newE_r s size).trans H0.out) hne
      · exact ⟨rb, x, a1, a2, a3, a4⟩
    have HB2 : Hid (Below w.heap.size w w2) := HP1.out.1.trans (B2.mono HP1.out.1.size)
    have HPR : Hid (PairOK w2 hb rb ⟨w.heap.size, hi, sv, vs, readC s, size, ⟨fun _ => 0, fun _ => 0, fun _ _ => 0, fun _ _ => 0⟩, x, newD⟩ mx) := PairOK.new HP1.out.2.1 HP1.out.2.2.1 HP1.out.2.2.2.1 HP1.out.2.2.2.2 B2 rp hx hsz.1 hsz.2
    have HFP : Hid (∀ b, PQ.fp (hb, rb, ⟨w.heap.size, hi, sv, vs, readC s, size, ⟨fun _ => 0, fun _ => 0, fun _ _ => 0, fun _ _ => 0⟩, x, newD⟩) b → w.heap.size ≤ b) := by
      rintro b (⟨hh, _⟩ | hh)
      · exact hh
      · exact Nat.le_trans HP1.out.1.size (hx b hh)
    have HW2 : Hid (WS B w2 wb v ps mx) := HW.out.below HB2.out (Nat.le_refl _)
    have c2 := HW2.out.c
    have f2 := HW2.out.f
    have hwl2 := HW2.out.lt
    have hnn : ps.length + 1 ≤ 4398046511105 := by omega
    clear RM hcase rp hx B2
    have hBw2 : B ≤ w2.heap.size := Nat.le_trans hBw HB2.out.size
    have own2 : (w2.alloc (.cells #[.pointer (some ⟨hb, 0, none⟩), .pointer (some ⟨rb, 0, none⟩)] 41)).ownsRow 0 41 2 v ps.length (flatQ ps) := row_mono (HW2.out.own.alloc _) (Nat.zero_le _)
    obtain ⟨v', w3, hrun, own3, gr3, hb3⟩ := app_run (P := Tryz.prog) (w2.alloc (.cells #[.pointer (some ⟨hb, 0, none⟩), .pointer (some ⟨rb, 0, none⟩)] 41)) 26 26 41 iP (.agg #[.pointer none, .pointer none]) 2 16 Tryz.underlying26 hiP hzP0 hzP1 hzP2 rfl (by decide) v ps.length (flatQ ps) own2
      ⟨w2.heap.size, 0, none⟩ 1 1 [.pointer (some ⟨hb, 0, none⟩), .pointer (some ⟨rb, 0, none⟩)] rfl (cell_pair3 _ _ _ _) (by intro u hu; simp at hu; rcases hu with rfl | rfl <;> rfl) (by unfold maxLen; omega) (by omega)
    obtain ⟨va', vc', hv'⟩ : ∃ a c, v' = .slice a (ps.length + 1) c := by
      rcases own3.2 with ⟨_, e⟩ | ⟨g, cap, cur, e, _⟩
      · omega
      · exact ⟨_, _, e⟩
    subst hv'
    have hM := HW2.out.more (w3 := w3) (hb, rb, ⟨w.heap.size, hi, sv, vs, readC s, size, ⟨fun _ => 0, fun _ => 0, fun _ _ => 0, fun _ _ => 0⟩, x, newD⟩) w.heap.size (Nat.le_trans HP1.out.2.1 HP1.out.2.2.1) HPR.out HFP.out hwl (fun g hg => (World.ownsRow.lt HW.out.own g hg).2) (fun i q' hi' b hb' => (HW.out.ok i q' hi').2.fp_lt hb') own3 (gb_trans (World.grownBy_alloc _ _ _) gr3) (fun g hg => (hb3 g hg).imp id (fun hh => by simp at hh; omega))
    have HM : Hid (WS B (w3.setCell ⟨wb, 0, none⟩ (.slice va' (ps.length + 1) vc')) wb (.slice va' (ps.length + 1) vc') (ps ++ [(hb, rb, ⟨w.heap.size, hi, sv, vs, readC s, size, ⟨fun _ => 0, fun _ => 0, fun _ _ => 0, fun _ _ => 0⟩, x, newD⟩)]) mx ∧ Below B w2 (w3.setCell ⟨wb, 0, none⟩ (.slice va' (ps.length + 1) vc')) ∧ GS w2 (w3.setCell ⟨wb, 0, none⟩ (.slice va' (ps.length + 1) vc')) (wsS wb v ps)) := hM
    have gA : w2.grownBy w3 v.ownBlock := gb_trans (World.grownBy_alloc _ _ _) gr3
    have ewb : w3.heap[wb]? = w2.heap[wb]? := gA.block wb hwl2 (Ne.symm HW2.out.wv)
    have k1 : w3.cell? ⟨wb, 0, none⟩ = some v := (World.cell?_of_block (a := ⟨wb, 0, none⟩) ewb).trans c2
    have k2 : w3.frozen? ⟨wb, 0, none⟩ = false := (World.frozen?_of_block (a := ⟨wb, 0, none⟩) ewb).trans f2
    have hw3 : wb < w3.heap.size := Nat.lt_of_lt_of_le hwl2 gA.size
    clear own2 own3 gr3 hb3 hM gA ewb
    go_wp2_with (at_builtin; refine wpList_append_run rfl _ _ 26 rfl _ _ _ _ rfl rfl hrun ?_)
    go_ret
    exact ⟨rfl, ⟨(HB2.out.mono hBw).trans HM.out.2.1, GS.below HB2.out HM.out.2.2⟩, _, _, HM.out.1, by simp, by simp, fun _ => by simp⟩
  · obtain ⟨y, hy⟩ : ∃ y, y = newE s size := ⟨_, rfl⟩
    have HY : Hid (y = newE s size) := hy
    have HY0 : Hid (y ≠ 0) := by show y ≠ 0; rw [hy]; exact h0
    rw [← hy] at PM
    have yb : (y != y) = false := by simp
    clear h hE hy h0
    go_enter Tryz.func8, Tryz.ntmps8
    go_wp2_with fail
    refine PM.mono ?_
    rintro e w1 ⟨B1, hcase⟩
    obtain rfl : e = .returned (.tuple #[.pointer none, .int .i64 y]) := by
      rcases hcase with ⟨_, a1⟩ | ⟨a1, _⟩
      · exact a1
      · exact absurd a1 HY0.out
    have RM := rnew_any s size w1 hs (HE.out.below B1)
    have HB1 : Hid (Below w.heap.size w w1) := B1
    clear PM hcase B1
    go_wp2_with fail
    refine RM.mono ?_
    rintro e w2 ⟨B2, hcase⟩
    obtain rfl : e = .returned (.tuple #[.pointer none, .int .i64 y]) := by
      rcases hcase with ⟨_, a1⟩ | ⟨a1, _⟩
      · rw [a1, newE_r, ← HY.out]
      · exact absurd (HY.out.trans a1) HY0.out
    have HB2 : Hid (Below w.heap.size w w2) := HB1.out.trans (B2.mono HB1.out.size)
    clear RM hcase B2
    go_wp2
    go_ret
    exact ⟨rfl, ⟨HB2.out.mono hBw, GS.of_below HB2.out⟩, v, ps, HW.out.below HB2.out (Nat.le_refl _), Nat.le_refl _, by omega, fun hh => absurd (HY.out.trans hh) HY0.out⟩
end Go.Proofs.YtbgilndohccicaaGreatDoor
