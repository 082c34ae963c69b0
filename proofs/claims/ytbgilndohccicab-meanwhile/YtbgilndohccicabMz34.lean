import Derived.Test.YtbgilndohccicabMz28
import Derived.Deep.RegionLaw
namespace Go.Proofs.Ytbgilndohccicab
open Go.RowKit

theorem Try.infoGTerm : (Try.prog.info? 191).map (fun i => (i.zero, i.size, i.bytes)) = some (some (.agg #[.int .u8 0, .int .i64 0, .int .i64 0]), 3, 24) := by kernel_rfl
theorem infoPartsT {P : Program} {e : TypeId} {z : Option Value} {s b : Nat} (h : (P.info? e).map (fun i => (i.zero, i.size, i.bytes)) = some (z, s, b)) : ∃ i, P.info? e = some i ∧ i.zero = z ∧ i.size = s ∧ i.bytes = b := by
  cases hi : P.info? e with
  | none => rw [hi] at h; simp at h
  | some i => rw [hi] at h; simp at h; exact ⟨i, rfl, h.1, h.2.1, h.2.2⟩
theorem cells_three (w : World) (l : List Value) (T : TypeId) : ∀ (j : Nat) (u : Value), l[j]? = some u → (w.alloc (.cells l.toArray T)).cell? ((⟨w.heap.size, 0, none⟩ : Addr).add j) = some u := by
  intro j u hj
  have e : (⟨w.heap.size, 0, none⟩ : Addr).add j = ⟨w.heap.size, j, none⟩ := by unfold Addr.add; split <;> simp_all
  have h := World.cell?_alloc_mark w l.toArray T (0, 0) j
  rw [e, h]; simpa using hj
/-- What a reader of sums answers. -/
def SumPost (R : SumR) (b : Nat) (s : ByteArray) (base : Nat) (v : Value) (w : World) (e : Ending) (w' : World) : Prop :=
  e = .returned (.bool R.ok) ∧ ∃ v', RT w' b s R.at_ base v' R.ts ∧ Fr b v v' w w'
theorem RT.shape {w : World} {b : Nat} {s : ByteArray} {k base : Nat} {v : Value} {ts : List GT} (h : RT w b s k base v ts) : ∃ a c, v = .slice a ts.length c := by
  rcases h.tv.2 with ⟨rfl, hn⟩ | ⟨g, cap, cur, rfl, _⟩
  · exact ⟨none, 0, by rw [hn]⟩
  · exact ⟨_, _, rfl⟩
theorem stepT_append {P : Program} {ops : Array Oper} {o : Oper} {a : Act} {w : World} {K : Act → World → Prop} {Q : Exit → Act → World → Prop} {E : Prop}
    (hg : o.guard = none) (s x : Operand) (t : TypeId) (hop : o.op = Op.call { callee := Callee.builtin Builtin.append, args := #[s, x], argTypes := #[t, t] })
    (v u v' : Value) (w' : World) (hs : a.eval s = v) (hx : a.eval x = u) (hrun : (Builtin.append_ #[t, t] o.type #[v, u]).run P w = .ok v' w') (hK : K (a.put o.dst v') w') :
    if Region.wanted o (yielded ops a.tmps) = true then Oper.wp P o a w K Q else E := by
  have hw : Region.wanted o (yielded ops a.tmps) = true := by simp [Region.wanted, hg]
  rw [if_pos hw]
  unfold Oper.wp
  simp [execOp, hop, resolve, invoke, builtin, hs, hx, hrun, Result.andThen]
  exact hK
/-- The append of a term. -/
theorem RT.run {w : World} {b : Nat} {s : ByteArray} {k base : Nat} {v : Value} {ts : List GT} (h : RT w b s k base v ts) (hl : ts.length + 1 ≤ k) (t : GT) : ∃ g cap w2,
    (Builtin.append_ #[158, 158] 158 #[v, .slice (some ⟨w.heap.size, 0, none⟩) 1 1]).run Try.prog ((w.alloc (.cells #[.int .u8 t.w, .int .i64 t.v, .int .i64 t.p] 191)).drew) = .ok (.slice (some ⟨g, 0, none⟩) (ts.length + 1) cap) w2 ∧
    RT (w2.setCell ⟨b, 3, none⟩ (.slice (some ⟨g, 0, none⟩) (ts.length + 1) cap)) b s k base (.slice (some ⟨g, 0, none⟩) (ts.length + 1) cap) (ts ++ [t]) ∧
    Fr b v (.slice (some ⟨g, 0, none⟩) (ts.length + 1) cap) w (w2.setCell ⟨b, 3, none⟩ (.slice (some ⟨g, 0, none⟩) (ts.length + 1) cap)) ∧
    w2.cell? ⟨b, 3, none⟩ = some v ∧ w2.frozen? ⟨b, 3, none⟩ = false ∧ b < w2.heap.size := by
  obtain ⟨i0, hi, hz0, hz1, hz2⟩ := infoPartsT Try.infoGTerm
  have hn := h.rs.lt
  have hk := h.rs.le
  obtain ⟨v', w2, hr, hown, hg, _, hat⟩ := run_append_own_at (P := Try.prog) ((w.alloc (.cells #[.int .u8 t.w, .int .i64 t.v, .int .i64 t.p] 191)).drew) base 158 158 191 i0 _ 3 24 Try.underlying158 hi hz0 hz1 hz2 rfl (by decide) v ts.length (flatT ts) (World.ownsRow.alloc h.tv _)
    ⟨w.heap.size, 0, none⟩ 1 1 [.int .u8 t.w, .int .i64 t.v, .int .i64 t.p] rfl (cells_three w _ _) (by intro y hy; simp at hy; rcases hy with rfl | rfl | rfl <;> rfl) (by unfold maxLen; omega) (by omega) (by simp; have := h.le; omega)
  obtain ⟨g, cap, ev⟩ : ∃ g cap, v' = .slice (some ⟨g, 0, none⟩) (ts.length + 1) cap := by
    rcases hown.2 with ⟨_, e⟩ | ⟨g', cap', cur, e, _⟩
    · omega
    · exact ⟨g', cap', e⟩
  subst ev
  have hg' : (w.alloc (.cells #[.int .u8 t.w, .int .i64 t.v, .int .i64 t.p] 191)).grownBy w2 v.ownBlock := ⟨hg.os, hg.tape, hg.output, hg.size, hg.block⟩
  have A := h.app (t := t) hl hown hg' hat
  have g1 : w.grownBy w2 v.ownBlock := gb_trans (World.grownBy_alloc w _ _) hg'
  have hb : some b ≠ v.ownBlock := fun e => by have := (h.own b e.symm).1; have := h.lt; omega
  have eb := g1.block b h.rs.blt hb
  exact ⟨g, cap, w2, hr, A.1, A.2, (World.cell?_of_block (a := ⟨b, 3, none⟩) eb).trans h.c3, (World.frozen?_of_block (a := ⟨b, 3, none⟩) eb).trans h.rs.f3, Nat.lt_of_lt_of_le h.rs.blt g1.size⟩
set_option maxHeartbeats 1000000 in
set_option maxRecDepth 20000 in
theorem fac_letter (s : ByteArray) (b k base : Nat) (v : Value) (ts : List GT) (d : Nat) (w : World) (h : RT w b s k base v ts) (h1 : 97 ≤ nextB s k) (h2 : nextB s k ≤ 122) :
    Calls Try.prog 114 #[.pointer (some ⟨b, 0, none⟩), .int .i64 d] w (SumPost ⟨true, k + 1, ts ++ [⟨nextB s k, 0, k⟩]⟩ b s base v w) := by
  have hk : k < s.size := nextB_pos (by omega)
  have hb := h.rs.blt
  obtain ⟨a, c, rfl⟩ := h.shape
  have q1 : (decide (48 ≤ nextB s k) && decide (nextB s k ≤ 57)) = false := by simp; omega
  have q2 : (decide (97 ≤ nextB s k) && decide (nextB s k ≤ 122)) = true := by simp; omega
  have H : Hid (RT w b s k base (.slice a ts.length c) ts) := h
  have hn := h.rs.lt
  have HR := here_any s b k true w h.rs
  clear h
  go_enter Try.func114, Try.ntmps114
  go_wp2_with fail
  refine HR.mono ?_
  rintro e w1 ⟨rfl, B1⟩
  have H1 := (H.out.below B1).alloc (.cells #[.int .u8 (nextB s k), .int .i64 0, .int .i64 k] 191)
  have F1 : Fr b (.slice a ts.length c) (.slice a ts.length c) w (w1.alloc (.cells #[.int .u8 (nextB s k), .int .i64 0, .int .i64 k] 191)) := Fr.below (B1.alloc B1.size _)
  clear HR
  go_wp2_with fail
  refine (isIn_rs false q1).mono ?_
  rintro e w' ⟨rfl, rfl⟩
  go_wp2_with fail
  refine (isLetter_any _ _ _ _).mono ?_
  rintro e w2 ⟨rfl, B2⟩
  rw [q2]
  have H2 := H1.below B2
  have F2 : Fr b (.slice a ts.length c) (.slice a ts.length c) w w2 := F1.trans (Fr.below B2)
  have lc := fun o => B2.cell (p := ⟨w1.heap.size, o, none⟩) (by simp)
  have hp : w1.heap.size < w2.heap.size := by have := B2.size; simp at this; omega
  have hpb : b < w1.heap.size := by have := B1.size; omega
  have hb2 : b < w2.heap.size := by omega
  have l0 : w2.cell? ⟨w1.heap.size, 0, none⟩ = some (.int .u8 (nextB s k)) := (lc 0).trans (by go_simp)
  have l1 : w2.cell? ⟨w1.heap.size, 1, none⟩ = some (.int .i64 0) := (lc 1).trans (by go_simp)
  have l2 : w2.cell? ⟨w1.heap.size, 2, none⟩ = some (.int .i64 k) := (lc 2).trans (by go_simp)
  have H3 := H2.inc hk
  have F3 := F2.trans (Fr.setB b 1 (.slice a ts.length c) (.int .i64 ((k : Int) + 1)) w2)
  obtain ⟨c0, c1, c2, _, f1, f3, _, _⟩ := id H2.rs
  have c3 := H2.c3
  obtain ⟨g, cap, w4, hrun, H4, F4, k3, k4, k5⟩ := H3.run (by have := H2.ln; omega) ⟨nextB s k, 0, k⟩
  have HF : Hid (Fr b (.slice a ts.length c) (.slice (some ⟨g, 0, none⟩) (ts.length + 1) cap) w (w4.setCell ⟨b, 3, none⟩ (.slice (some ⟨g, 0, none⟩) (ts.length + 1) cap))) := F3.trans F4
  have HH : Hid _ := H4
  clear B2 B1 F1 F2 F3 F4 lc H1 H2 H3 H4
  go_wp2
  go_region_law (refine stepT_append rfl (.tmp 27) (.tmp 29) 158 rfl _ _ _ _ (by simp [Act.eval]) (by simp [Act.eval]) hrun ?_)
  all_goals
    go_wp2
    go_ret
    exact ⟨rfl, _, HH.out, HF.out⟩
end Go.Proofs.Ytbgilndohccicab
namespace Go.Proofs.Ytbgilndohccicab
open Go.RowKit

theorem RT.setP {w : World} {b : Nat} {s : ByteArray} {k base : Nat} {v : Value} {ts : List GT} (h : RT w b s k base v ts) {p : Nat} (o : Nat) (x : Value) (hb : b ≠ p) (hv : v.ownBlock ≠ some p) : RT (w.setCell ⟨p, o, none⟩ x) b s k base v ts := by
  have g := gb_set w p o x
  exact ⟨h.rs.setOther hb x, (World.cell?_of_block (a := ⟨b, 3, none⟩) (g.block b h.rs.blt (by simpa using hb))).trans h.c3, World.ownsRow.kept h.tv g (.inr hv), h.lt, Nat.le_trans h.le g.size, h.ln⟩
theorem Fr.setNew {b : Nat} {v v' : Value} {w w' : World} (h : Fr b v v' w w') {p : Nat} (o : Nat) (x : Value) (hp : w.heap.size ≤ p) : Fr b v v' w (w'.setCell ⟨p, o, none⟩ x) := by
  have g := gb_set w' p o x
  exact ⟨g.os.trans h.os, g.tape.trans h.tape, g.output.trans h.output, Nat.le_trans h.size g.size, fun k hk hb hv => (g.block k (Nat.lt_of_lt_of_le hk h.size) (by simp; omega)).trans (h.blk k hk hb hv), h.own⟩
theorem pow_bound {x d : Int} {j : Nat} (h : x < 10 ^ j) (hd : d ≤ 9) : x * 10 + d < 10 ^ (j + 1) := by rw [Int.pow_succ]; omega
theorem pow_small {x : Int} {j : Nat} (h : x < 10 ^ j) (hj : j ≤ 9) : x < 1000000000 := by
  have : (10 : Int) ^ j ≤ 10 ^ 9 := by exact_mod_cast Nat.pow_le_pow_right (by decide) hj
  have e : (10 : Int) ^ 9 = 1000000000 := by decide
  omega
def NumPost (b : Nat) (s : ByteArray) (k base : Nat) (v : Value) (ts : List GT) (w : World) (e : Ending) (w' : World) : Prop :=
  e = .returned (.tuple #[]) ∧ ∃ v', RT w' b s (gNum s 9 k 0).2 base v' (ts ++ [⟨48, (gNum s 9 k 0).1, k⟩]) ∧ Fr b v v' w w'
set_option maxHeartbeats 2000000 in
set_option maxRecDepth 20000 in
theorem number_any (s : ByteArray) (b k base : Nat) (v : Value) (ts : List GT) (w : World) (h : RT w b s k base v ts) (h1 : 48 ≤ nextB s k) (h2 : nextB s k ≤ 57) :
    Calls Try.prog 115 #[.pointer (some ⟨b, 0, none⟩)] w (NumPost b s k base v ts w) := by
  unfold NumPost
  obtain ⟨G, hG⟩ : ∃ G, gNum s 9 k 0 = G := ⟨_, rfl⟩
  have HG0 : Hid (gNum s 9 k 0 = G) := hG
  have hb := h.rs.blt
  obtain ⟨a, c, rfl⟩ := h.shape
  have hown : ∀ g, (Value.slice a ts.length c).ownBlock = some g → g < w.heap.size := fun g hg => (h.own g hg).2
  have HO : Hid (∀ g, (Value.slice a ts.length c).ownBlock = some g → g < w.heap.size) := hown
  have hbase := h.le
  have hbs := h.lt
  have hln := h.ln
  have H : Hid (RT w b s k base (.slice a ts.length c) ts) := h
  obtain ⟨c0, c1, c2, _, f1, f3, _, _⟩ := id h.rs
  rw [hG]
  clear h hG hown
  go_enter Try.func115, Try.ntmps115
  go_wp2
  go_loopg [3] 9 (fun gk i wr => ∃ (k' : Nat) (x : Int), gk ≤ 9 ∧ i = .int .i64 (9 - (gk : Int)) ∧ G = gNum s gk k' x ∧ 0 ≤ x ∧ x < 10 ^ (9 - gk) ∧ (gk = 9 → k' = k ∧ x = 0) ∧ k ≤ k' ∧ (gk < 9 → k < k') ∧ RT wr b s k' base (.slice a ts.length c) ts ∧ wr.cell? ⟨w.heap.size, 0, none⟩ = some (.int .u8 48) ∧ wr.cell? ⟨w.heap.size, 1, none⟩ = some (.int .i64 x) ∧ wr.cell? ⟨w.heap.size, 2, none⟩ = some (.int .i64 k) ∧ wr.frozen? ⟨w.heap.size, 1, none⟩ = false ∧ w.heap.size < wr.heap.size ∧ Fr b (.slice a ts.length c) (.slice a ts.length c) w wr)
  case atStart =>
    refine ⟨k, 0, Nat.le_refl _, rfl, HG0.out.symm, Int.le_refl _, by decide, fun _ => ⟨rfl, rfl⟩, Nat.le_refl _, fun h => by omega, H.out.alloc _, by go_simp, by go_simp, by go_simp, by go_simp, by simp, Fr.below ((Below.refl _ _).alloc (Nat.le_refl _) _)⟩
  case round =>
    obtain ⟨k', x, hg9, rfl, hGx, hx0, hx1, hst, hkk, hk9, HR, l0, l1, l2, lf, hp, F0⟩ := hrel
    have hpv : (Value.slice a ts.length c).ownBlock ≠ some w.heap.size := fun e => by have := HO.out _ e; omega
    have HP : Hid ((Value.slice a ts.length c).ownBlock ≠ some w.heap.size) := hpv
    have hpb : b ≠ w.heap.size := by omega
    obtain ⟨q0, q1, q2, _, q4, q5, _, _⟩ := id HR.rs
    have q3 := HR.c3
    have hbr := HR.rs.blt
    have hlt := HR.rs.lt
    clear hpv c0 c1 c2 f1 f3
    cases gk with
    | zero =>
      have hkk' : k < k' := hk9 (by omega)
      have HG : Hid (G = (x, k')) := hGx
      have F1 : Hid (Fr b (.slice a ts.length c) (.slice a ts.length c) w wr) := F0
      clear hGx hst hk9 hx1 F0
      obtain ⟨g, cap, w4, hrun, H4, F4, k3, k4, k5⟩ := (HR).run (by omega) ⟨48, x, k⟩
      have HF : Hid (Fr b (.slice a ts.length c) (.slice (some ⟨g, 0, none⟩) (ts.length + 1) cap) w (w4.setCell ⟨b, 3, none⟩ (.slice (some ⟨g, 0, none⟩) (ts.length + 1) cap))) := (F1.out).trans F4
      have HH : Hid _ := H4
      clear F4 H4
      go_wp2
      go_region_law (refine stepT_append rfl (.tmp 41) (.tmp 43) 158 rfl _ _ _ _ (by simp [Act.eval]) (by simp [Act.eval]) hrun ?_)
      all_goals
        go_wp2
        refine bodyPost_end (v := .tuple #[]) (by simp [results, Try.results115, go_sem]) rfl ?_
        rw [HG.out]
        exact ⟨rfl, _, HH.out, HF.out⟩
    | succ n =>
      have hs9 : x < 1000000000 := pow_small hx1 (by omega)
      by_cases hd : 48 ≤ nextB s k' ∧ nextB s k' ≤ 57
      · obtain ⟨d1, d2⟩ := hd
        have hk' : k' < s.size := nextB_pos (by omega)
        have hin : (decide (48 ≤ nextB s k') && decide (nextB s k' ≤ 57)) = true := by simp; omega
        rw [gNum, if_pos ⟨d1, d2⟩] at hGx
        have hpw : x * 10 + (nextB s k' - 48) < 10 ^ (9 - n) := by
          have := pow_bound (d := nextB s k' - 48) hx1 (by omega)
          rwa [show 9 - (n + 1) + 1 = 9 - n by omega] at this
        have HPW : Hid (x * 10 + (nextB s k' - 48) < 10 ^ (9 - n)) := hpw
        have hNC := next_rs HR.rs
        have F1 : Hid (Fr b (.slice a ts.length c) (.slice a ts.length c) w wr) := F0
        clear hpw hx1 F0 hst
        go_wp2_with fail
        refine hNC.mono ?_
        rintro e w' ⟨rfl, m, rfl⟩
        have HR2 : RT (wr.drewN m) b s k' base (.slice a ts.length c) ts := HR.below ⟨rfl, rfl, rfl, Nat.le_refl _, fun _ _ => rfl⟩
        have F2 : Hid (Fr b (.slice a ts.length c) (.slice a ts.length c) w (wr.drewN m)) := F1.out.trans (Fr.below ⟨rfl, rfl, rfl, Nat.le_refl _, fun _ _ => rfl⟩)
        have L0 : (wr.drewN m).cell? ⟨w.heap.size, 0, none⟩ = some (.int .u8 48) := l0
        have L1 : (wr.drewN m).cell? ⟨w.heap.size, 1, none⟩ = some (.int .i64 x) := l1
        have L2 : (wr.drewN m).cell? ⟨w.heap.size, 2, none⟩ = some (.int .i64 k) := l2
        have LF : (wr.drewN m).frozen? ⟨w.heap.size, 1, none⟩ = false := lf
        have hp5 : w.heap.size < (wr.drewN m).heap.size := hp
        generalize wr.drewN m = w5 at HR2 F2 L0 L1 L2 LF hp5 ⊢
        obtain ⟨p0, p1, p2, _, p4, p5, _, _⟩ := id HR2.rs
        have p3 := HR2.c3
        have hbr5 : b < w5.heap.size := HR2.rs.blt
        clear l0 l1 l2 lf hNC q0 q1 q2 q3 q4 q5 F1
        go_wp2_with fail
        refine (isIn_rs true hin).mono ?_
        rintro e w5 ⟨rfl, rfl⟩
        by_cases hz : x * 10 + (nextB s k' - 48) = 0
        · rw [if_pos hz] at hGx
          have HG : Hid (G = (0, k' + 1)) := hGx
          have HR3 := (HR2.inc hk').setP (p := w.heap.size) 1 (.int .i64 0) hpb HP.out
          have F3 : Hid (Fr b (.slice a ts.length c) (.slice a ts.length c) w ((w5.setCell ⟨b, 1, none⟩ (.int .i64 ((k' : Int) + 1))).setCell ⟨w.heap.size, 1, none⟩ (.int .i64 0))) := (F2.out.trans (Fr.setB b 1 _ _ w5)).setNew 1 _ (Nat.le_refl _)
          clear hGx hk9
          obtain ⟨g, cap, w4, hrun, H4, F4, k3, k4, k5⟩ := (HR3).run (by omega) ⟨48, 0, k⟩
          have HF : Hid (Fr b (.slice a ts.length c) (.slice (some ⟨g, 0, none⟩) (ts.length + 1) cap) w (w4.setCell ⟨b, 3, none⟩ (.slice (some ⟨g, 0, none⟩) (ts.length + 1) cap))) := (F3.out).trans F4
          have HH : Hid _ := H4
          clear F4 H4
          go_wp2
          go_region_law (refine stepT_append rfl (.tmp 41) (.tmp 43) 158 rfl _ _ _ _ (by simp [Act.eval]) (by simp [Act.eval]) hrun ?_)
          all_goals
            go_wp2
            refine bodyPost_end (v := .tuple #[]) (by simp [results, Try.results115, go_sem]) rfl ?_
            rw [HG.out]
            exact ⟨rfl, _, HH.out, HF.out⟩
        · rw [if_neg hz] at hGx
          have HR3 := (HR2.inc hk').setP (p := w.heap.size) 1 (.int .i64 (x * 10 + (nextB s k' - 48))) hpb HP.out
          have F3 : Hid (Fr b (.slice a ts.length c) (.slice a ts.length c) w ((w5.setCell ⟨b, 1, none⟩ (.int .i64 ((k' : Int) + 1))).setCell ⟨w.heap.size, 1, none⟩ (.int .i64 (x * 10 + (nextB s k' - 48))))) := (F2.out.trans (Fr.setB b 1 _ _ w5)).setNew 1 _ (Nat.le_refl _)
          have HGX : Hid (G = gNum s n (k' + 1) (x * 10 + (nextB s k' - 48))) := hGx
          have HR4 : Hid _ := HR3
          clear hGx hk9 HR3
          go_wp2
          go_roundg n
          case measure => omega
          case rel =>
            exact ⟨k' + 1, x * 10 + (nextB s k' - 48), by omega, by simp; omega, HGX.out, by omega, HPW.out, fun h => by omega, by omega, fun _ => by omega, HR4.out, by go_simp, by go_simp, by go_simp, by go_simp, by simp [World.setCell]; omega, F3.out⟩
      · rw [gNum, if_neg hd] at hGx
        have hin : (decide (48 ≤ nextB s k') && decide (nextB s k' ≤ 57)) = false := by
          cases hh : (decide (48 ≤ nextB s k') && decide (nextB s k' ≤ 57)) with
          | false => rfl
          | true => simp at hh; exact absurd hh hd
        have hkk' : k < k' := by
          by_cases h9 : n + 1 = 9
          · obtain ⟨e1, _⟩ := hst h9
            subst e1
            exact absurd ⟨h1, h2⟩ hd
          · exact hk9 (by omega)
        have HG : Hid (G = (x, k')) := hGx
        have hNC := next_rs HR.rs
        have F1 : Hid (Fr b (.slice a ts.length c) (.slice a ts.length c) w wr) := F0
        clear hGx hst hk9 hx1 F0 hd
        go_wp2_with fail
        refine hNC.mono ?_
        rintro e w' ⟨rfl, m, rfl⟩
        have HR2 : RT (wr.drewN m) b s k' base (.slice a ts.length c) ts := HR.below ⟨rfl, rfl, rfl, Nat.le_refl _, fun _ _ => rfl⟩
        have F2 : Hid (Fr b (.slice a ts.length c) (.slice a ts.length c) w (wr.drewN m)) := F1.out.trans (Fr.below ⟨rfl, rfl, rfl, Nat.le_refl _, fun _ _ => rfl⟩)
        have L0 : (wr.drewN m).cell? ⟨w.heap.size, 0, none⟩ = some (.int .u8 48) := l0
        have L1 : (wr.drewN m).cell? ⟨w.heap.size, 1, none⟩ = some (.int .i64 x) := l1
        have L2 : (wr.drewN m).cell? ⟨w.heap.size, 2, none⟩ = some (.int .i64 k) := l2
        have LF : (wr.drewN m).frozen? ⟨w.heap.size, 1, none⟩ = false := lf
        have hp5 : w.heap.size < (wr.drewN m).heap.size := hp
        generalize wr.drewN m = w5 at HR2 F2 L0 L1 L2 LF hp5 ⊢
        obtain ⟨p0, p1, p2, _, p4, p5, _, _⟩ := id HR2.rs
        have p3 := HR2.c3
        have hbr5 : b < w5.heap.size := HR2.rs.blt
        clear l0 l1 l2 lf hNC q0 q1 q2 q3 q4 q5 F1
        go_wp2_with fail
        refine (isIn_rs false hin).mono ?_
        rintro e w' ⟨rfl, rfl⟩
        obtain ⟨g, cap, w4, hrun, H4, F4, k3, k4, k5⟩ := (HR2).run (by omega) ⟨48, x, k⟩
        have HF : Hid (Fr b (.slice a ts.length c) (.slice (some ⟨g, 0, none⟩) (ts.length + 1) cap) w (w4.setCell ⟨b, 3, none⟩ (.slice (some ⟨g, 0, none⟩) (ts.length + 1) cap))) := (F2.out).trans F4
        have HH : Hid _ := H4
        clear F4 H4
        go_wp2
        go_region_law (refine stepT_append rfl (.tmp 41) (.tmp 43) 158 rfl _ _ _ _ (by simp [Act.eval]) (by simp [Act.eval]) hrun ?_)
        all_goals
          go_wp2
          refine bodyPost_end (v := .tuple #[]) (by simp [results, Try.results115, go_sem]) rfl ?_
          rw [HG.out]
          exact ⟨rfl, _, HH.out, HF.out⟩
end Go.Proofs.Ytbgilndohccicab
