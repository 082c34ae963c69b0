import Derived.Test.YthckelcjncnalaaDoorFz34
import Derived.Test.YthckelcjncnalaaDoorFz11
import Derived.Deep.RegionWith
namespace Go.Proofs.YthckelcjncnalaaDoor
open Go.RowKit

def noGU : GU := ⟨0, 0, 0, 0, false, false, ⟨#[]⟩⟩
def noHC : HC := ⟨0, 0, 0, 0, []⟩
def noHV : HV := ⟨0, 0, 0, 0, ⟨none, 0, 0⟩⟩
structure HCell (w : World) (g i : Nat) (x : HV) : Prop where
  c0 : w.cell? ⟨g, i * 5, none⟩ = some (.int .u8 x.n)
  c1 : w.cell? ⟨g, i * 5 + 1, none⟩ = some (.int .u8 x.s)
  c2 : w.cell? ⟨g, i * 5 + 2, none⟩ = some (.int .i64 x.p)
  c3 : w.cell? ⟨g, i * 5 + 3, none⟩ = some (.int .i64 x.sa)
  c4 : w.cell? ⟨g, i * 5 + 4, none⟩ = some (.slice x.v.a x.v.n x.v.c)
theorem UCls.cells {w : World} {base : Nat} {v : Value} {vs : List HV} {cs : List HC} (h : UCls w base v vs cs) (hne : cs ≠ []) :
    ∃ g cap, v = .slice (some ⟨g, 0, none⟩) cs.length cap ∧ g < w.heap.size ∧ cs.length ≤ maxLen ∧ ∀ i, i < cs.length → HCell w g i (vs[i]?.getD noHV) := by
  have hl := h.len
  rcases h.row.2 with ⟨rfl, hn⟩ | ⟨g, cap, cur, rfl, _, hg, h1, h2, _⟩
  · exact absurd (List.length_eq_zero_iff.1 (by omega)) hne
  · refine ⟨g, cap, by rw [hl], (Array.getElem?_eq_some_iff.1 hg).1, by omega, fun i hi => ?_⟩
    have c := World.ownsRow.cells h.row (g := g) rfl
    have e : ∀ o u, o < 5 → (HV.cells (vs[i]?.getD noHV))[o]? = some u → w.cell? ⟨g, i * 5 + o, none⟩ = some u := by
      intro o u ho hu
      rw [← add_off]
      refine c _ _ ?_
      rw [← hu]
      exact flat_get HV.cells 5 (fun _ => rfl) vs noHV i o (by omega) ho
    exact ⟨e 0 _ (by omega) rfl, e 1 _ (by omega) rfl, e 2 _ (by omega) rfl, e 3 _ (by omega) rfl, e 4 _ (by omega) rfl⟩
/-- The cells of an update's field. -/
structure UCell (w : World) (g j : Nat) (x : GU) : Prop where
  c0 : w.cell? ⟨g, j * 7, none⟩ = some (.int .u8 x.n)
  c1 : w.cell? ⟨g, j * 7 + 1, none⟩ = some (.int .u8 x.k)
  c2 : w.cell? ⟨g, j * 7 + 2, none⟩ = some (.int .i64 x.p)
  c3 : w.cell? ⟨g, j * 7 + 3, none⟩ = some (.int .i64 x.sa)
  c4 : w.cell? ⟨g, j * 7 + 4, none⟩ = some (.bool x.sm)
  c5 : w.cell? ⟨g, j * 7 + 5, none⟩ = some (.bool x.bg)
  c6 : w.cell? ⟨g, j * 7 + 6, none⟩ = some (.string x.su)
theorem UV.cells {w : World} {base : Nat} {v : Value} {l : List GU} (h : UV w base v l) :
    ∃ a cap, v = .slice a l.length cap ∧ l.length ≤ maxLen ∧ (0 < l.length → ∃ g, a = some ⟨g, 0, none⟩ ∧ g < w.heap.size ∧ ∀ i, i < l.length → UCell w g i (l[i]?.getD noGU)) := by
  rcases h.2 with ⟨rfl, hn⟩ | ⟨g, cap, cur, rfl, _, hg, h1, h2, _⟩
  · exact ⟨none, 0, by rw [hn], by rw [hn]; simp [maxLen], fun h => by omega⟩
  · refine ⟨_, cap, rfl, by omega, fun _ => ⟨g, rfl, (Array.getElem?_eq_some_iff.1 hg).1, fun i hi => ?_⟩⟩
    have c := World.ownsRow.cells h (g := g) rfl
    have e : ∀ o u, o < 7 → (GU.cells (l[i]?.getD noGU))[o]? = some u → w.cell? ⟨g, i * 7 + o, none⟩ = some u := by
      intro o u ho hu
      rw [← add_off]
      refine c _ _ ?_
      rw [← hu]
      exact flat_get GU.cells 7 (fun _ => rfl) l noGU i o hi ho
    exact ⟨e 0 _ (by omega) rfl, e 1 _ (by omega) rfl, e 2 _ (by omega) rfl, e 3 _ (by omega) rfl, e 4 _ (by omega) rfl, e 5 _ (by omega) rfl, e 6 _ (by omega) rfl⟩
theorem RCls.old {w : World} {base : Nat} {v : Value} {vs : List GV} {cs : List GC} (h : RCls w base v vs cs) (hne : cs ≠ []) (h6 : cs.length ≤ 6) :
    ∃ g cap, v = .slice (some ⟨g, 0, none⟩) cs.length cap ∧ OldN w g cs.length (fun i => (cs[i]?.getD noGC).n) := by
  obtain ⟨g, cap, rfl, hg, _, hc⟩ := h.cells hne
  refine ⟨g, cap, rfl, hg, by omega, fun i hi => ?_⟩
  have hl := h.len
  have h1 : vs[i]? = some (vs[i]'(by omega)) := List.getElem?_eq_getElem _
  have h2 : cs[i]? = some (cs[i]'hi) := List.getElem?_eq_getElem _
  have := (hc i hi).c0
  rw [h1] at this
  rw [h2]
  simp only [Option.getD_some] at this ⊢
  rw [← (h.fld i _ _ h1 h2).1]; exact this
def UFine (cs : List HC) : Prop := cs.length ≤ 6 ∧ ∀ c ∈ cs, c.l.length ≤ 6 ∧ ∀ f ∈ c.l, 0 ≤ f.p
/-- The places at which a letter stands that has stood there before. -/
def URepN (ON : Nat → Int) (om : Nat) (cs : List HC) (p : Int) : Prop :=
  VDs (fun i => (cs[i]?.getD noHC).n) (fun i => madeI ON om (cs[i]?.getD noHC).n (cs[i]?.getD noHC).s) (fun i => ((cs[i]?.getD noHC).p : Int)) (fun i => (cs[i]?.getD noHC).l.length) (fun i j => ((cs[i]?.getD noHC).l[j]?.getD noGU).n) (fun i j => ((cs[i]?.getD noHC).l[j]?.getD noGU).p) cs.length p

theorem utwice_any (og ocap om : Nat) (ON : Nat → Int) (cs : List HC) (vs : List HV) (base : Nat) (v : Value) (w : World) (hold : OldN w og om ON) (h : UCls w base v vs cs) (hF : UFine cs) (hne : cs ≠ []) :
    Calls Tryd.prog 12 #[v, .slice (some ⟨og, 0, none⟩) om ocap] w fun e w' => ∃ b, e = .returned (.int .i64 b) ∧ Least (URepN ON om cs) b ∧ Below w.heap.size w w' := by
  obtain ⟨g, cap, rfl, hg, _, hc⟩ := h.cells hne
  have hl := h.len
  have hget : ∀ i, i < cs.length → ∃ x c, vs[i]? = some x ∧ cs[i]? = some c := fun i hi => ⟨vs[i]'(by omega), cs[i], List.getElem?_eq_getElem _, List.getElem?_eq_getElem _⟩
  have hRV : ∀ i, i < cs.length → ∃ x c, vs[i]? = some x ∧ cs[i]? = some c ∧ (x.n = c.n ∧ x.s = c.s ∧ x.sa = c.sa) ∧ x.p = c.p ∧ UV w base x.v.val c.l := by
    intro i hi
    obtain ⟨x, c, h1, h2⟩ := hget i hi
    exact ⟨x, c, h1, h2, h.fld i x c h1 h2⟩
  have hmem : ∀ i : Nat, (cs[i]?.getD noHC).l.length ≤ 6 ∧ ∀ f ∈ (cs[i]?.getD noHC).l, 0 ≤ f.p := by
    intro i
    cases hi : cs[i]? with
    | none => simp [noHC]
    | some c => exact hF.2 c (List.mem_of_getElem? hi)
  refine utwice_row g cap cs.length og ocap om _ _ (fun i => (cs[i]?.getD noHC).s) _ _ (fun i => (cs[i]?.getD noHC).sa) (fun i => (vs[i]?.getD noHV).v.a) (fun i => match (vs[i]?.getD noHV).v.a with | some a => a.block | none => 0) _ (fun i => (vs[i]?.getD noHV).v.c) _ _ w hg (by have := hF.1; omega) (fun i => by have := (hmem i).1; omega) hold (fun i _ => rfl) (fun i => by omega) (fun i j => ?_) (fun i hi => ?_) (fun i j hi hj => ?_)
  · cases hj : (cs[i]?.getD noHC).l[j]? with
    | none => simp [noGU]
    | some f => exact (hmem i).2 f (List.mem_of_getElem? hj)
  · obtain ⟨x, c, h1, h2, ⟨h3, h3s, h3a⟩, h4, h5⟩ := hRV i hi
    have := hc i hi
    rw [h1] at this ⊢
    obtain ⟨ra, rc, rv, _⟩ := h5.cells
    have e : x.v.n = c.l.length := by
      have : (Value.slice x.v.a x.v.n x.v.c) = .slice ra c.l.length rc := rv
      injection this
    rw [h2]
    obtain ⟨c0, c1, c2, c3, c4⟩ := this
    simp only [Option.getD_some] at c0 c1 c2 c3 c4 ⊢
    rw [h3] at c0; rw [h3s] at c1; rw [h4] at c2; rw [h3a] at c3; rw [e] at c4
    exact ⟨c0, c1, c2, c3, c4⟩
  · obtain ⟨x, c, h1, h2, ⟨h3, h3s, h3a⟩, h4, h5⟩ := hRV i hi
    rw [h2] at hj ⊢
    rw [h1]
    simp only [Option.getD_some] at hj ⊢
    obtain ⟨ra, rc, rv, _, r⟩ := h5.cells
    obtain ⟨g', rfl, hg', hcell⟩ := r (by omega)
    have e : x.v.a = some ⟨g', 0, none⟩ := by
      have : (Value.slice x.v.a x.v.n x.v.c) = .slice (some ⟨g', 0, none⟩) c.l.length rc := rv
      injection this
    rw [e]
    have := hcell j hj
    exact ⟨rfl, hg', ⟨this.c0, this.c2⟩⟩

end Go.Proofs.YthckelcjncnalaaDoor
namespace Go.Proofs.YthckelcjncnalaaDoor

theorem idxF_lt {fs : List (Int × Int)} {x : Int} (h : ¬ idxF fs x < 0) : ∃ i : Nat, idxF fs x = i ∧ i < fs.length := by
  unfold idxF at h ⊢
  cases hf : fs.findIdx? (fun p => p.1 == x) with
  | none => rw [hf] at h; simp at h
  | some i => rw [List.findIdx?_eq_some_iff_getElem] at hf; exact ⟨i, rfl, hf.1⟩
theorem idxF_at {fs : List (Int × Int)} {x : Int} {i : Nat} (h : idxF fs x = i) : i < fs.length ∧ (fs[i]?.getD (0, 0)).1 = x := by
  unfold idxF at h
  cases hf : fs.findIdx? (fun p => p.1 == x) with
  | none => rw [hf] at h; simp at h
  | some k =>
    rw [hf] at h
    have : k = i := by have h' : (k : Int) = i := h; omega
    subst this
    rw [List.findIdx?_eq_some_iff_getElem] at hf
    obtain ⟨h1, h2, _⟩ := hf
    exact ⟨h1, by rw [List.getElem?_eq_getElem h1]; simpa using h2⟩
def rtB (x : Int) : Bool := decide (0 ≤ x) && decide (x < 8)
theorem rtB_nat {x : Int} (h : rtB x = true) : ∃ n : Nat, x = n ∧ n < 8 := by
  simp only [rtB, Bool.and_eq_true, decide_eq_true_eq] at h
  exact ⟨x.toNat, by omega, by omega⟩
/-- What a search for a field tells: the object, the field's place, its kind, the error. -/
structure FF where
  n : Nat
  i : Nat
  k : Int
  e : Int
def ffind (cs : Sch) (R : Nat → Nat) (K : Nat → Int) (root letter : Int) : FF :=
  if rtB root = false then ⟨0, 0, 0, 8⟩
  else if R root.toNat = 0 then ⟨0, 0, 0, 9⟩
  else if idxF (fof cs (K (R root.toNat))) letter < 0 then ⟨0, 0, 0, 5⟩
  else ⟨R root.toNat, (idxF (fof cs (K (R root.toNat))) letter).toNat, ((fof cs (K (R root.toNat)))[(idxF (fof cs (K (R root.toNat))) letter).toNat]?.getD (0, 0)).2, 0⟩
def fnum (f : FF) : FF := if f.e = 0 then (if f.k = 114 then ⟨0, 0, 0, 6⟩ else f) else ⟨0, 0, 0, f.e⟩
def fref (f : FF) : FF := if f.e = 0 then (if f.k = 114 then f else ⟨0, 0, 0, 6⟩) else ⟨0, 0, 0, f.e⟩
theorem ffind_zero (cs : Sch) (R : Nat → Nat) (K : Nat → Int) (root letter : Int) (h : (ffind cs R K root letter).e ≠ 0) : ffind cs R K root letter = ⟨0, 0, 0, (ffind cs R K root letter).e⟩ := by
  unfold ffind at h ⊢
  split
  · rfl
  · split
    · rfl
    · split
      · rfl
      · rename_i h1 h2 h3; rw [if_neg h1, if_neg h2, if_neg h3] at h; simp at h
/-- What was found. -/
theorem ffind_at {cs : Sch} {R : Nat → Nat} {K : Nat → Int} {root letter : Int} (h : (ffind cs R K root letter).e = 0) :
    ∃ n : Nat, root = n ∧ n < 8 ∧ R n ≠ 0 ∧ ∃ i : Nat, idxF (fof cs (K (R n))) letter = i ∧ i < (fof cs (K (R n))).length ∧ ffind cs R K root letter = ⟨R n, i, ((fof cs (K (R n)))[i]?.getD (0, 0)).2, 0⟩ := by
  unfold ffind at h ⊢
  split at h
  · simp at h
  · rename_i h1
    obtain ⟨n, rfl, hn⟩ := rtB_nat (by simpa using h1)
    rw [if_neg h1]
    simp only [Int.toNat_natCast] at h ⊢
    split at h
    · simp at h
    · rename_i h2
      rw [if_neg h2]
      split at h
      · simp at h
      · rename_i h3
        rw [if_neg h3]
        obtain ⟨i, hi1, hi2⟩ := idxF_lt h3
        exact ⟨n, rfl, hn, h2, i, hi1, hi2, by rw [hi1]; simp⟩
theorem ffind_bd {cs : Sch} {R : Nat → Nat} {K : Nat → Int} {root letter : Int} (hR : ∀ i, i < 8 → R i < 201) (h6 : ∀ c ∈ cs, c.2.length ≤ 6) (h : (ffind cs R K root letter).e = 0) :
    0 < (ffind cs R K root letter).n ∧ (ffind cs R K root letter).n < 201 ∧ (ffind cs R K root letter).i < 6 := by
  obtain ⟨n, _, hn, h0, i, _, hi, e⟩ := ffind_at h
  rw [e]
  have := fof_le h6 (K (R n))
  exact ⟨by simp only []; omega, hR n hn, by simp only []; omega⟩
/-- Both sides find the same. -/
theorem find_meet {cs : Sch} {p : PH} {r : DH} {M : Nat → Nat → Prop} (h : Bis cs p r M) (root letter : Int) :
    (ffind cs p.R p.K root letter).e = (ffind cs r.R r.K root letter).e ∧ (ffind cs p.R p.K root letter).i = (ffind cs r.R r.K root letter).i ∧ (ffind cs p.R p.K root letter).k = (ffind cs r.R r.K root letter).k ∧
      ((ffind cs p.R p.K root letter).e = 0 → M (ffind cs p.R p.K root letter).n (ffind cs r.R r.K root letter).n) := by
  unfold ffind
  split
  · exact ⟨rfl, rfl, rfl, fun h => by simp at h⟩
  · rename_i h1
    obtain ⟨n, rfl, hn⟩ := rtB_nat (by simpa using h1)
    simp only [Int.toNat_natCast]
    rcases h.root n hn with ⟨e1, e2⟩ | hm
    · rw [if_pos e1, if_pos e2]; exact ⟨rfl, rfl, rfl, fun h => by simp at h⟩
    · have hp := h.pos _ _ hm
      have n1 : ¬ p.R n = 0 := by omega
      have n2 : ¬ r.R n = 0 := by omega
      rw [if_neg n1, if_neg n2, h.cls _ _ hm]
      split
      · exact ⟨rfl, rfl, rfl, fun h => by simp at h⟩
      · exact ⟨rfl, rfl, rfl, fun _ => hm⟩
theorem fnum_e0 {f : FF} (h : (fnum f).e = 0) : f.e = 0 ∧ f.k ≠ 114 ∧ fnum f = f := by
  unfold fnum at h ⊢
  split at h
  · rename_i h0
    split at h
    · simp at h
    · rename_i hk; exact ⟨h0, hk, by rw [if_pos h0, if_neg hk]⟩
  · rename_i h0; exact absurd h h0
theorem fref_e0 {f : FF} (h : (fref f).e = 0) : f.e = 0 ∧ f.k = 114 ∧ fref f = f := by
  unfold fref at h ⊢
  split at h
  · rename_i h0
    split at h
    · rename_i hk; exact ⟨h0, hk, by rw [if_pos h0, if_pos hk]⟩
    · simp at h
  · rename_i h0; exact absurd h h0
theorem fnum_e (f g : FF) (h1 : f.e = g.e) (h2 : f.k = g.k) : (fnum f).e = (fnum g).e := by
  unfold fnum; rw [h1, h2]; split
  · rename_i h0; split
    · rfl
    · rw [h1]
  · rfl
theorem fref_e (f g : FF) (h1 : f.e = g.e) (h2 : f.k = g.k) : (fref f).e = (fref g).e := by
  unfold fref; rw [h1, h2]; split
  · rename_i h0; split
    · rw [h1]
    · rfl
  · rfl
theorem ffind_fld {cs : Sch} {R : Nat → Nat} {K : Nat → Int} {root letter : Int} (h : (ffind cs R K root letter).e = 0) :
    ∃ f, (fof cs (K (ffind cs R K root letter).n))[(ffind cs R K root letter).i]? = some f ∧ f.2 = (ffind cs R K root letter).k := by
  obtain ⟨n, _, hn, h0, i, _, hi, e⟩ := ffind_at h
  rw [e]
  simp only []
  exact ⟨_, List.getElem?_eq_getElem hi, by rw [List.getElem?_eq_getElem hi]; rfl⟩
/-- What Get tells. -/
theorem get_meet {cs : Sch} {p : PH} {r : DH} (h : Sim cs p r) (root letter : Int) :
    (fnum (ffind cs p.R p.K root letter)).e = (fnum (ffind cs r.R r.K root letter)).e ∧ ((fnum (ffind cs p.R p.K root letter)).e = 0 → p.N (ffind cs p.R p.K root letter).n (ffind cs p.R p.K root letter).i = r.C (ffind cs r.R r.K root letter).n (ffind cs r.R r.K root letter).i) := by
  obtain ⟨M, h⟩ := h
  obtain ⟨h1, h2, h3, h4⟩ := find_meet h root letter
  refine ⟨fnum_e _ _ h1 h3, fun h0 => ?_⟩
  obtain ⟨a1, a2, _⟩ := fnum_e0 h0
  obtain ⟨f, hf, hk⟩ := ffind_fld a1
  rw [← h2]
  exact h.num _ _ (h4 a1) _ f hf (by rw [hk]; exact a2)
theorem put_meet {cs : Sch} {p : PH} {r : DH} (h : Sim cs p r) (root letter v : Int) (h0 : (fnum (ffind cs p.R p.K root letter)).e = 0) :
    Sim cs { p with N := set2 p.N (ffind cs p.R p.K root letter).n (ffind cs p.R p.K root letter).i v } { r with C := set2 r.C (ffind cs r.R r.K root letter).n (ffind cs r.R r.K root letter).i v } := by
  obtain ⟨M, h⟩ := h
  obtain ⟨h1, h2, h3, h4⟩ := find_meet h root letter
  obtain ⟨a1, a2, _⟩ := fnum_e0 h0
  obtain ⟨f, hf, hk⟩ := ffind_fld a1
  rw [← h2]
  exact ⟨M, h.setNum (h4 a1) _ v f hf (by rw [hk]; exact a2)⟩
theorem ref_meet {cs : Sch} {p : PH} {r : DH} (h : Sim cs p r) (root letter : Int) : (fref (ffind cs p.R p.K root letter)).e = (fref (ffind cs r.R r.K root letter)).e := by
  obtain ⟨M, h⟩ := h
  obtain ⟨h1, h2, h3, h4⟩ := find_meet h root letter
  exact fref_e _ _ h1 h3
theorem follow_meet {cs : Sch} {p : PH} {r : DH} (h : Sim cs p r) (root letter : Int) (to : Nat) (h0 : (fref (ffind cs p.R p.K root letter)).e = 0) :
    Sim cs { p with R := set1 p.R to (p.F (ffind cs p.R p.K root letter).n (ffind cs p.R p.K root letter).i) } { r with R := set1 r.R to (r.C (ffind cs r.R r.K root letter).n (ffind cs r.R r.K root letter).i).toNat } := by
  obtain ⟨M, h⟩ := h
  obtain ⟨h1, h2, h3, h4⟩ := find_meet h root letter
  obtain ⟨a1, a2, _⟩ := fref_e0 h0
  obtain ⟨f, hf, hk⟩ := ffind_fld a1
  rw [← h2]
  refine ⟨M, h.setRoot to _ _ ?_⟩
  rcases h.ref _ _ (h4 a1) _ f hf (by rw [hk]; exact a2) with ⟨e1, e2⟩ | ⟨c, e1, e2⟩
  · left; rw [e2]; exact ⟨e1, rfl⟩
  · right; rw [e1]; exact e2
theorem link_meet {cs : Sch} {p : PH} {r : DH} (h : Sim cs p r) (root letter : Int) (fr : Nat) (hfr : fr < 8) (h0 : (fref (ffind cs p.R p.K root letter)).e = 0) :
    Sim cs { p with F := set2 p.F (ffind cs p.R p.K root letter).n (ffind cs p.R p.K root letter).i (p.R fr) } { r with C := set2 r.C (ffind cs r.R r.K root letter).n (ffind cs r.R r.K root letter).i (r.R fr : Int) } := by
  obtain ⟨M, h⟩ := h
  obtain ⟨h1, h2, h3, h4⟩ := find_meet h root letter
  obtain ⟨a1, a2, _⟩ := fref_e0 h0
  obtain ⟨f, hf, hk⟩ := ffind_fld a1
  rw [← h2]
  exact ⟨M, h.setRef (h4 a1) _ _ _ (h.root fr hfr) f hf (by rw [hk]; exact a2)⟩
theorem copy_meet {cs : Sch} {p : PH} {r : DH} (h : Sim cs p r) (i to : Nat) (hi : i < 8) : Sim cs { p with R := set1 p.R to (p.R i) } { r with R := set1 r.R to (r.R i) } := by
  obtain ⟨M, h⟩ := h
  exact ⟨M, h.setRoot to _ _ (h.root i hi)⟩
theorem clear_meet {cs : Sch} {p : PH} {r : DH} (h : Sim cs p r) (i : Nat) : Sim cs { p with R := set1 p.R i 0 } { r with R := set1 r.R i 0 } := by
  obtain ⟨M, h⟩ := h
  exact ⟨M, h.setRoot i 0 0 (.inl ⟨rfl, rfl⟩)⟩
theorem same_meet {cs : Sch} {p : PH} {r : DH} (h : Sim cs p r) (i j : Nat) (hi : i < 8) (hj : j < 8) : p.R i = p.R j ↔ r.R i = r.R j := by
  obtain ⟨M, h⟩ := h
  rcases h.root i hi with ⟨a1, a2⟩ | a <;> rcases h.root j hj with ⟨b1, b2⟩ | b
  · simp [a1, a2, b1, b2]
  · have := h.pos _ _ b; omega
  · have := h.pos _ _ a; omega
  · constructor
    · intro e; rw [e] at a; exact h.fn _ _ _ a b
    · intro e; rw [e] at a; exact h.inj _ _ _ a b
theorem class_meet' {cs : Sch} {p : PH} {r : DH} (h : Sim cs p r) (i : Nat) (hi : i < 8) : (p.R i = 0 ↔ r.R i = 0) ∧ (p.R i ≠ 0 → p.K (p.R i) = r.K (r.R i)) := by
  obtain ⟨M, h⟩ := h
  rcases h.root i hi with ⟨a1, a2⟩ | a
  · exact ⟨by simp [a1, a2], fun h => absurd a1 h⟩
  · have := h.pos _ _ a
    exact ⟨by omega, fun _ => h.cls _ _ a⟩
/-- Nothing is there at first. -/
theorem sim_new (cs : Sch) (p : PH) (r : DH) (h1 : ∀ i, i < 8 → p.R i = 0) (h2 : ∀ i, i < 8 → r.R i = 0) : Sim cs p r :=
  ⟨fun _ _ => False, ⟨fun _ _ _ h => h.elim, fun _ _ _ h => h.elim, fun _ _ h => h.elim, fun i hi => .inl ⟨h1 i hi, h2 i hi⟩, fun _ _ h => h.elim, fun _ _ h => h.elim, fun _ _ h => h.elim, fun _ _ h => h.elim, fun _ _ h => h.elim⟩⟩
end Go.Proofs.YthckelcjncnalaaDoor
namespace Go.Proofs.YthckelcjncnalaaDoor
open Go.RowKit

/-- A field's row of the document's classes: its name and kind. -/
structure RowK (w : World) (g j : Nat) (n k : Int) : Prop where
  c0 : w.cell? ⟨g, j * 7, none⟩ = some (.int .u8 n)
  c1 : w.cell? ⟨g, j * 7 + 1, none⟩ = some (.int .u8 k)
theorem RowK.keep {w w' : World} {g j : Nat} {n k : Int} (h : RowK w g j n k) (e : w'.heap[g]? = w.heap[g]?) : RowK w' g j n k :=
  ⟨(World.cell?_of_block (a := ⟨g, _, none⟩) e).trans h.c0, (World.cell?_of_block (a := ⟨g, _, none⟩) e).trans h.c1⟩
theorem RowK.below {w w' : World} {g j : Nat} {n k : Int} (h : RowK w g j n k) (hb : Below w.heap.size w w') (hg : g < w.heap.size) : RowK w' g j n k := h.keep (hb.block g hg)
structure RowC (w : World) (g i : Nat) (n : Int) (a : Option Addr) (l c : Nat) : Prop where
  c0 : w.cell? ⟨g, i * 5, none⟩ = some (.int .u8 n)
  c4 : w.cell? ⟨g, i * 5 + 4, none⟩ = some (.slice a l c)
theorem RowC.keep {w w' : World} {g i : Nat} {n : Int} {a : Option Addr} {l c : Nat} (h : RowC w g i n a l c) (e : w'.heap[g]? = w.heap[g]?) : RowC w' g i n a l c :=
  ⟨(World.cell?_of_block (a := ⟨g, _, none⟩) e).trans h.c0, (World.cell?_of_block (a := ⟨g, _, none⟩) e).trans h.c4⟩
theorem RowC.below {w w' : World} {g i : Nat} {n : Int} {a : Option Addr} {l c : Nat} (h : RowC w g i n a l c) (hb : Below w.heap.size w w') (hg : g < w.heap.size) : RowC w' g i n a l c := h.keep (hb.block g hg)
/-- Where the document's classes lie. -/
structure KX where
  g : Nat
  cap : Nat
  FA : Nat → Option Addr
  FG : Nat → Nat
  FC : Nat → Nat
def cat (cs : Sch) (i : Nat) : Int × List (Int × Int) := cs[i]?.getD (0, [])
structure KC (w : World) (x : KX) (cs : Sch) : Prop where
  lt : x.g < w.heap.size
  row : ∀ i, i < cs.length → RowC w x.g i (cat cs i).1 (x.FA i) (cat cs i).2.length (x.FC i)
  fld : ∀ i j, i < cs.length → j < (cat cs i).2.length → x.FA i = some ⟨x.FG i, 0, none⟩ ∧ x.FG i < w.heap.size ∧ RowK w (x.FG i) j ((cat cs i).2[j]?.getD (0, 0)).1 ((cat cs i).2[j]?.getD (0, 0)).2
def KX.has (x : KX) (cs : Sch) (b : Nat) : Prop := b = x.g ∨ ∃ i, i < cs.length ∧ 0 < (cat cs i).2.length ∧ b = x.FG i
theorem KC.keep {w w' : World} {x : KX} {cs : Sch} (h : KC w x cs) (hs : w.heap.size ≤ w'.heap.size) (e : ∀ b, x.has cs b → w'.heap[b]? = w.heap[b]?) : KC w' x cs := by
  refine ⟨Nat.lt_of_lt_of_le h.lt hs, fun i hi => (h.row i hi).keep (e _ (.inl rfl)), fun i j hi hj => ?_⟩
  obtain ⟨h1, h2, h3⟩ := h.fld i j hi hj
  exact ⟨h1, Nat.lt_of_lt_of_le h2 hs, h3.keep (e _ (.inr ⟨i, hi, by omega, rfl⟩))⟩
theorem KC.has_lt {w : World} {x : KX} {cs : Sch} (h : KC w x cs) {b : Nat} (hb : x.has cs b) : b < w.heap.size := by
  rcases hb with rfl | ⟨i, hi, h0, rfl⟩
  · exact h.lt
  · exact (h.fld i 0 hi h0).2.1
theorem KC.below {w w' : World} {x : KX} {cs : Sch} (h : KC w x cs) (hb : Below w.heap.size w w') : KC w' x cs := h.keep hb.size fun b hx => hb.block b (h.has_lt hx)
theorem KC.drew {w : World} {x : KX} {cs : Sch} (h : KC w x cs) : KC w.drew x cs := h.keep (Nat.le_refl _) fun _ _ => rfl
/-- A class's fields. -/
structure KF (w : World) (a : Option Addr) (g : Nat) (fs : List (Int × Int)) : Prop where
  a : 0 < fs.length → a = some ⟨g, 0, none⟩ ∧ g < w.heap.size
  row : ∀ j, j < fs.length → RowK w g j (fs[j]?.getD (0, 0)).1 (fs[j]?.getD (0, 0)).2
theorem KF.below {w w' : World} {a : Option Addr} {g : Nat} {fs : List (Int × Int)} (h : KF w a g fs) (hb : Below w.heap.size w w') : KF w' a g fs :=
  ⟨fun h0 => ⟨(h.a h0).1, Nat.lt_of_lt_of_le (h.a h0).2 hb.size⟩, fun j hj => (h.row j hj).below hb (h.a (by omega)).2⟩
theorem fof_hit {cs : Sch} {c : Int} {i : Nat} (hi : i < cs.length) (h : (cat cs i).1 = c) (hno : ∀ j, j < i → ¬ (cat cs j).1 = c) : fof cs c = (cat cs i).2 ∧ (cs.any fun x => x.1 == c) = true := by
  have e : cs.find? (fun x => x.1 == c) = some cs[i] := by
    rw [List.find?_eq_some_iff_getElem]
    refine ⟨by simpa [cat, List.getElem?_eq_getElem hi] using h, i, hi, rfl, fun j hj => ?_⟩
    have := hno j hj
    have hj' : j < cs.length := by omega
    simpa [cat, List.getElem?_eq_getElem hj'] using this
  constructor
  · unfold fof; rw [e]; simp [cat, List.getElem?_eq_getElem hi]
  · simp only [List.any_eq_true]; exact ⟨cs[i], List.getElem_mem hi, by simpa [cat, List.getElem?_eq_getElem hi] using h⟩
theorem fof_no {cs : Sch} {c : Int} (hno : ∀ j, j < cs.length → ¬ (cat cs j).1 = c) : fof cs c = [] ∧ (cs.any fun x => x.1 == c) = false := by
  have h : ∀ p ∈ cs, (p.1 == c) = false := by
    intro p hp
    obtain ⟨j, hj, rfl⟩ := List.getElem_of_mem hp
    have := hno j hj
    simpa [cat, List.getElem?_eq_getElem hj] using this
  constructor
  · have : cs.find? (fun x => x.1 == c) = none := by rw [List.find?_eq_none]; intro p hp; simp [h p hp]
    unfold fof; rw [this]; rfl
  · simp only [List.any_eq_false]; intro p hp; simp [h p hp]
/-- The first class of that Letter, and its fields' slice. -/
def kidx (cs : Sch) (c : Int) : Nat := cs.findIdx (fun p => p.1 == c)
def knA (x : KX) (cs : Sch) (c : Int) : Option Addr := if kidx cs c < cs.length then x.FA (kidx cs c) else none
def knC (x : KX) (cs : Sch) (c : Int) : Nat := if kidx cs c < cs.length then x.FC (kidx cs c) else 0
theorem kidx_hit {cs : Sch} {c : Int} {i : Nat} (hi : i < cs.length) (h : (cat cs i).1 = c) (hno : ∀ j, j < i → ¬ (cat cs j).1 = c) : kidx cs c = i := by
  unfold kidx
  rw [List.findIdx_eq hi]
  refine ⟨by simpa [cat, List.getElem?_eq_getElem hi] using h, fun j hj => ?_⟩
  have := hno j hj
  have hj' : j < cs.length := by omega
  simpa [cat, List.getElem?_eq_getElem hj'] using this
theorem kidx_no {cs : Sch} {c : Int} (hno : ∀ j, j < cs.length → ¬ (cat cs j).1 = c) : kidx cs c = cs.length := by
  unfold kidx
  rw [List.findIdx_eq_length]
  intro p hp
  obtain ⟨j, hj, rfl⟩ := List.getElem_of_mem hp
  have := hno j hj
  simpa [cat, List.getElem?_eq_getElem hj] using this
theorem kidx_or (cs : Sch) (c : Int) : (∃ i, i < cs.length ∧ (cat cs i).1 = c ∧ ∀ j, j < i → ¬ (cat cs j).1 = c) ∨ (∀ j, j < cs.length → ¬ (cat cs j).1 = c) := by
  by_cases h : kidx cs c < cs.length
  · left
    have h1 : (cs[kidx cs c].1 == c) = true := List.findIdx_getElem (xs := cs) (p := fun (p : Int × List (Int × Int)) => p.1 == c) (w := h)
    refine ⟨kidx cs c, h, by simpa [cat, List.getElem?_eq_getElem h] using h1, fun j hj => ?_⟩
    have := List.not_of_lt_findIdx (xs := cs) (p := fun (p : Int × List (Int × Int)) => p.1 == c) hj
    have hj' : j < cs.length := by omega
    simpa [cat, List.getElem?_eq_getElem hj'] using this
  · right
    intro j hj
    have := List.not_of_lt_findIdx (xs := cs) (p := fun (p : Int × List (Int × Int)) => p.1 == c) (i := j) (by show j < kidx cs c; omega)
    simpa [cat, List.getElem?_eq_getElem hj] using this
theorem KC.kf {w : World} {x : KX} {cs : Sch} (h : KC w x cs) (c : Int) : KF w (knA x cs c) (x.FG (kidx cs c)) (fof cs c) ∧ (0 < (fof cs c).length → x.has cs (x.FG (kidx cs c))) := by
  rcases kidx_or cs c with ⟨i, hi, h1, h2⟩ | hno
  · obtain ⟨e1, e2⟩ := fof_hit hi h1 h2
    have e3 := kidx_hit hi h1 h2
    rw [e1, e3, knA, e3, if_pos hi]
    exact ⟨⟨fun h0 => ⟨(h.fld i 0 hi h0).1, (h.fld i 0 hi h0).2.1⟩, fun j hj => (h.fld i j hi hj).2.2⟩, fun h0 => .inr ⟨i, hi, h0, rfl⟩⟩
  · obtain ⟨e1, e2⟩ := fof_no hno
    rw [e1]
    exact ⟨⟨fun h => by simp at h, fun j hj => by simp at hj⟩, fun h => by simp at h⟩

end Go.Proofs.YthckelcjncnalaaDoor
