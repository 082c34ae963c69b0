import Derived.Test.YtbgilndohccicaaGreatDoorRh6
import Derived.Test.YtbgilndohccicaaGreatDoorMaA
import Derived.Test.YtbgilndohccicaaGreatDoorGa1
namespace Go.Proofs.YtbgilndohccicaaGreatDoor
open Go.RowKit

theorem RVcellsK {w : World} {base : Nat} {v : Value} {l : List GF} (h : RV w base v l) :
    ∃ a cap, v = .slice a l.length cap ∧ (0 < l.length → ∃ g, a = some ⟨g, 0, none⟩ ∧ base ≤ g ∧ g < w.heap.size ∧ ∀ i, i < l.length → RowK w g i (l[i]?.getD noGF).n (l[i]?.getD noGF).k) := by
  rcases h.2 with ⟨rfl, hn⟩ | ⟨g, cap, cur, rfl, hbg, hg, h1, h2, _⟩
  · exact ⟨none, 0, by rw [hn], fun h => by omega⟩
  · refine ⟨_, cap, rfl, fun _ => ⟨g, rfl, hbg, (Array.getElem?_eq_some_iff.1 hg).1, fun i hi => ?_⟩⟩
    have c := World.ownsRow.cells h (g := g) rfl
    have e : ∀ o u, o < 7 → (GF.cells (l[i]?.getD noGF))[o]? = some u → w.cell? ⟨g, i * 7 + o, none⟩ = some u := by
      intro o u ho hu
      rw [← add_off]
      refine c _ _ ?_
      rw [← hu]
      exact flat_get GF.cells 7 (fun _ => rfl) l noGF i o hi ho
    exact ⟨e 0 _ (by omega) rfl, e 1 _ (by omega) rfl⟩
/-- Where a schema's classes lie. -/
def kxOf (vs : List GV) (g cap : Nat) : KX := ⟨g, cap, fun i => (vs[i]?.getD noGV).v.a, fun i => match (vs[i]?.getD noGV).v.a with | some a => a.block | none => 0, fun i => (vs[i]?.getD noGV).v.c⟩
theorem cat_gcl (cs : List GC) (i : Nat) (hi : i < cs.length) : cat (cs.map gcl) i = gcl (cs[i]?.getD noGC) := by
  unfold cat; rw [List.getElem?_map, List.getElem?_eq_getElem hi]; rfl
theorem gk_get (l : List GF) (j : Nat) (hj : j < l.length) : (l.map gk)[j]?.getD (0, 0) = ((l[j]?.getD noGF).n, (l[j]?.getD noGF).k) := by
  rw [List.getElem?_map, List.getElem?_eq_getElem hj]; rfl
theorem RCls.kc {w : World} {base : Nat} {v : Value} {vs : List GV} {cs : List GC} (h : RCls w base v vs cs) (hne : cs ≠ []) :
    ∃ g cap, v = .slice (some ⟨g, 0, none⟩) cs.length cap ∧ KC w (kxOf vs g cap) (cs.map gcl) ∧ (∀ b, (kxOf vs g cap).has (cs.map gcl) b → base ≤ b) := by
  obtain ⟨g, cap, e, hg, _, hc⟩ := h.cells hne
  have hl := h.len
  have hbg : base ≤ g := (World.ownsRow.lt h.row g (by rw [e]; rfl)).1
  have hRV : ∀ i, i < cs.length → ∃ x c, vs[i]? = some x ∧ cs[i]? = some c ∧ x.n = c.n ∧ RV w base x.v.val c.l := by
    intro i hi
    have h1 : vs[i]? = some (vs[i]'(by omega)) := List.getElem?_eq_getElem _
    have h2 : cs[i]? = some (cs[i]'hi) := List.getElem?_eq_getElem _
    obtain ⟨a, _, c⟩ := h.fld i _ _ h1 h2
    exact ⟨_, _, h1, h2, a, c⟩
  have hfld : ∀ i j, i < cs.length → j < (cs[i]?.getD noGC).l.length → (kxOf vs g cap).FA i = some ⟨(kxOf vs g cap).FG i, 0, none⟩ ∧ base ≤ (kxOf vs g cap).FG i ∧ (kxOf vs g cap).FG i < w.heap.size ∧ RowK w ((kxOf vs g cap).FG i) j ((cs[i]?.getD noGC).l[j]?.getD noGF).n ((cs[i]?.getD noGC).l[j]?.getD noGF).k := by
    intro i j hi hj
    obtain ⟨x, c, h1, h2, h3, h5⟩ := hRV i hi
    rw [h2] at hj ⊢
    simp only [kxOf, h1, Option.getD_some] at hj ⊢
    obtain ⟨ra, rc, rv, r⟩ := RVcellsK h5
    obtain ⟨g', rfl, hbg', hg', hcell⟩ := r (by omega)
    have e : x.v.a = some ⟨g', 0, none⟩ := by
      have : (Value.slice x.v.a x.v.n x.v.c) = .slice (some ⟨g', 0, none⟩) c.l.length rc := rv
      injection this
    rw [e]
    exact ⟨rfl, hbg', hg', hcell j hj⟩
  have hclen : ∀ i, i < cs.length → (cat (cs.map gcl) i).2.length = (cs[i]?.getD noGC).l.length := fun i hi => by rw [cat_gcl cs i hi]; simp [gcl]
  refine ⟨g, cap, e, ⟨hg, fun i hi => ?_, fun i j hi hj => ?_⟩, ?_⟩
  · rw [List.length_map] at hi
    obtain ⟨x, c, h1, h2, h3, h5⟩ := hRV i hi
    have := hc i hi
    rw [h1] at this
    obtain ⟨ra, rc, rv, _⟩ := RVcellsK h5
    have e : x.v.n = c.l.length := by
      have : (Value.slice x.v.a x.v.n x.v.c) = .slice ra c.l.length rc := rv
      injection this
    rw [hclen i hi, cat_gcl cs i hi, h2]
    obtain ⟨c0, c1, c2, c3, c4⟩ := this
    simp only [Option.getD_some, gcl, kxOf, h1] at c0 c4 ⊢
    rw [h3] at c0; rw [e] at c4
    exact ⟨c0, c4⟩
  · rw [List.length_map] at hi
    rw [hclen i hi] at hj
    obtain ⟨a1, _, a3, a4⟩ := hfld i j hi hj
    refine ⟨a1, a3, ?_⟩
    rw [cat_gcl cs i hi]
    show RowK w _ j (((cs[i]?.getD noGC).l.map gk)[j]?.getD (0, 0)).1 (((cs[i]?.getD noGC).l.map gk)[j]?.getD (0, 0)).2
    rw [gk_get _ j hj]
    exact a4
  · rintro b (rfl | ⟨i, hi, h0, rfl⟩)
    · exact hbg
    · rw [List.length_map] at hi
      rw [hclen i hi] at h0
      exact (hfld i 0 hi h0).2.1
def newD : DH := ⟨fun _ => 0, fun _ => 0, fun _ _ => 0, 0⟩
def newEr (E size : Int) : Int := if E ≠ 0 then E else if size < 1 ∨ 200 < size then 7 else 0
def RNPost (s : ByteArray) (size : Int) (w : World) (e : Ending) (w' : World) : Prop := Below w.heap.size w w' ∧
  ((newEr (readE s) size ≠ 0 ∧ e = .returned (.tuple #[.pointer none, .int .i64 (newEr (readE s) size)])) ∨
   (newEr (readE s) size = 0 ∧ ∃ rb x, e = .returned (.tuple #[.pointer (some ⟨rb, 0, none⟩), .int .i64 0]) ∧ RP w' rb x (readC s) size newD ∧ (∀ b, x.has (readC s) 0 rb b → w.heap.size ≤ b) ∧ x.pd = false))
def newX (kx : KX) : RX := ⟨kx, ⟨none, 0, 0⟩, fun _ => 0, fun _ => 0, ⟨none, 0, 0⟩, false, false, 0⟩
theorem RP.new (w : World) (kx : KX) (cs : Sch) (size : Int) (h : KC w kx cs) : RP (w.alloc (.cells #[.slice (some ⟨kx.g, 0, none⟩) cs.length kx.cap, .int .i64 size, .slice none 0 0, .int .i64 0, .int .i64 0, .int .i64 0, .int .i64 0, .int .i64 0, .int .i64 0, .int .i64 0, .int .i64 0, .slice none 0 0, .bool false, .bool false, .int .i64 0] 64)) w.heap.size (newX kx) cs size newD := by
  have hg := heap_alloc_new w (.cells #[.slice (some ⟨kx.g, 0, none⟩) cs.length kx.cap, .int .i64 size, .slice none 0 0, .int .i64 0, .int .i64 0, .int .i64 0, .int .i64 0, .int .i64 0, .int .i64 0, .int .i64 0, .int .i64 0, .slice none 0 0, .bool false, .bool false, .int .i64 0] 64)
  have hc := fun o => cell_of_row _ _ o _ _ _ hg
  refine ⟨by rw [hc]; rfl, by rw [hc]; rfl, by rw [hc]; rfl, fun i hi => ?_, by rw [hc]; rfl, by rw [hc]; rfl, by rw [hc]; rfl, by rw [hc]; rfl, fun o => frozen_of_row _ _ _ _ _ hg, h.below ((Below.refl _ _).alloc (Nat.le_refl _) _), World.ownsRow_nil _ _ _ _, fun o ho => absurd ho (Nat.not_lt_zero _), fun o o' ho => absurd ho (Nat.not_lt_zero _), fun o ho => absurd ho (Nat.not_lt_zero _), fun o ho => absurd ho (Nat.not_lt_zero _), fun o ho => absurd ho (Nat.not_lt_zero _), fun hh => ?_, fun g hg => by cases hg⟩
  · rw [hc]
    have : i = 0 ∨ i = 1 ∨ i = 2 ∨ i = 3 ∨ i = 4 ∨ i = 5 ∨ i = 6 ∨ i = 7 := by omega
    rcases this with rfl | rfl | rfl | rfl | rfl | rfl | rfl | rfl <;> rfl
  · have := h.has_lt hh; omega
theorem readC_of {s : ByteArray} {cs : List GC} (h0 : readE s = 0) (hc : gaAll s = some cs) : readC s = cs.map gcl := by
  have h1 : ¬ 200 < s.size := fun h => by unfold readE at h0; rw [if_pos h] at h0; simp at h0
  have h2 : ¬ (readR s).ok = false := fun h => by unfold readE at h0; rw [if_neg h1, if_pos h] at h0; simp at h0
  have h3 : (readR s).tw = -1 := Classical.byContradiction fun h => by unfold readE at h0; rw [if_neg h1, if_neg h2, if_neg h] at h0; simp at h0
  rcases read_meet s with ⟨a, _⟩ | ⟨cs', _, b, c, _⟩
  · exact absurd a h2
  · rw [hc] at b
    have := Option.some.inj b
    subst this
    unfold readC; rw [if_neg h1, if_neg h2, if_pos h3]; exact c
set_option maxHeartbeats 1000000 in
set_option maxRecDepth 20000 in
theorem rnew_any (s : ByteArray) (size : Int) (w : World) (hm : s.size ≤ 9223372036854775807) (hE : Ends w) : Calls Tryz.prog 11 #[.string s, .int .i64 size] w (RNPost s size w) := by
  have R : Calls Tryz.prog 17 #[.string s] w fun e w' => ∃ (a : Option Addr) (n c : Nat) (P : Int), e = .returned (.tuple #[.slice a n c, .int .i64 (readE s), .int .i64 P]) ∧ (readE s = 0 → ∃ cs vs, gaAll s = some cs ∧ RCls w' w.heap.size (.slice a n c) vs cs) ∧ Below w.heap.size w w' := by
    refine (schema_any s w hm hE).mono ?_
    rintro e w' ⟨a, n, c, E, P, he, hS, hC, hb⟩
    obtain ⟨e1, _⟩ := agree s E P hS
    subst e1
    exact ⟨a, n, c, P, he, hC, hb⟩
  unfold RNPost
  by_cases h0 : readE s = 0
  · by_cases h1 : size < 1 ∨ 200 < size
    · have HE : Hid (newEr (readE s) size = 7) := by show _ = _; unfold newEr; rw [if_neg (by simpa using h0), if_pos h1]
      rw [h0] at R
      clear hm h0 hE
      rcases h1 with h1 | h1
      · go_enter Tryz.func11, Tryz.ntmps11
        go_wp2_with fail
        refine R.mono ?_
        rintro e w1 ⟨a, n, c, P, rfl, _, hb1⟩
        clear R
        go_wp2
        go_ret2
        exact ⟨hb1, .inl ⟨by rw [HE.out]; decide, by rw [HE.out]; rfl⟩⟩
      · have h1' : ¬ size < 1 := by omega
        go_enter Tryz.func11, Tryz.ntmps11
        go_wp2_with fail
        refine R.mono ?_
        rintro e w1 ⟨a, n, c, P, rfl, _, hb1⟩
        clear R
        go_wp2
        go_ret2
        exact ⟨hb1, .inl ⟨by rw [HE.out]; decide, by rw [HE.out]; rfl⟩⟩
    · have HE : Hid (newEr (readE s) size = 0) := by show _ = _; unfold newEr; rw [if_neg (by simpa using h0), if_neg h1]
      have h2 : ¬ size < 1 := by omega
      have h3 : ¬ 200 < size := by omega
      have H0 : Hid (readE s = 0) := h0
      rw [h0] at R
      clear hm h0 h1 hE
      go_enter Tryz.func11, Tryz.ntmps11
      go_wp2_with fail
      refine R.mono ?_
      rintro e w1 ⟨a, n, c, P, rfl, hC, hb1⟩
      obtain ⟨cs, vs, hga, V⟩ := hC trivial
      have hne := (gaAll_ok s cs hga).2
      have hrc := readC_of H0.out hga
      obtain ⟨g, cap, ev, K, hkb⟩ := V.kc hne
      injection ev with e1 e2 e3
      subst e1; subst e2; subst e3
      have HR : Hid (readC s = cs.map gcl ∧ KC w1 (kxOf vs g c) (cs.map gcl) ∧ (∀ b, (kxOf vs g c).has (cs.map gcl) b → w.heap.size ≤ b)) := ⟨hrc, K, hkb⟩
      clear R hC V hne hrc K hkb hga
      go_wp2
      go_ret2
      have BA := (Below.refl w1.heap.size w1).alloc (Nat.le_refl _) (.cells #[.slice (some ⟨g, 0, none⟩) cs.length c, .int .i64 size, .slice none 0 0, .int .i64 0, .int .i64 0, .int .i64 0, .int .i64 0, .int .i64 0, .int .i64 0, .int .i64 0, .int .i64 0, .slice none 0 0, .bool false, .bool false, .int .i64 0] 64)
      refine ⟨hb1.trans (BA.mono hb1.size), .inr ⟨HE.out, w1.heap.size, newX (kxOf vs g c), rfl, ?_, ?_, rfl⟩⟩
      · rw [HR.out.1]
        have := RP.new w1 (kxOf vs g c) (cs.map gcl) size HR.out.2.1
        rw [List.length_map] at this
        exact this
      · rw [HR.out.1]
        rintro b (rfl | hb | ⟨g', hg', rfl⟩ | ⟨o, ho, rfl⟩)
        · exact hb1.size
        · exact HR.out.2.2 b hb
        · cases hg'
        · exact absurd ho (Nat.not_lt_zero _)
  · have HE : Hid (newEr (readE s) size = readE s) := by show _ = _; unfold newEr; rw [if_pos h0]
    obtain ⟨y, hy⟩ : ∃ y, y = readE s := ⟨_, rfl⟩
    have HY : Hid (y = readE s) := hy
    rw [← hy] at R h0
    have hy' : (y == 0) = false := by simpa using h0
    have hy'' : (y != 0) = true := by simpa using h0
    have HY0 : Hid (y ≠ 0) := h0
    clear hm hy hE
    go_enter Tryz.func11, Tryz.ntmps11
    go_wp2_with fail
    refine R.mono ?_
    rintro e w1 ⟨a, n, c, P, rfl, _, hb1⟩
    clear R
    go_wp2
    go_ret2
    exact ⟨hb1, .inl ⟨by rw [HE.out, ← HY.out]; exact HY0.out, by rw [HE.out, ← HY.out]; rfl⟩⟩
end Go.Proofs.YtbgilndohccicaaGreatDoor
