import Derived.Test.YthckelcjncnalabKz16
namespace Go.Proofs.Ythckelcjncnalab

theorem idxF_lt {fs : List (Int × Int)} {x : Int} (h : ¬ idxF fs x < 0) : ∃ i : Nat, idxF fs x = i ∧ i < fs.length := by
  unfold idxF at h ⊢
  cases hf : fs.findIdx? (fun p => p.1 == x) with
  | none => rw [hf] at h; simp at h
  | some i => rw [List.findIdx?_eq_some_iff_getElem] at hf; exact ⟨i, rfl, hf.1⟩
theorem idxF_at {fs : List (Int × Int)} {x : Int} {i : Nat} (h : idxF fs x = i) : i < fs.length ∧ (fs[i]?.getD (0, 0)).1 = x := by
  unfold idxF at h
  cases hf : fs.findIdx? (fun p => p.1 == x) with
  | none => rw [hf] at h; simp at h
  | some k =>
    rw [hf] at h
    have : k = i := by have h' : (k : Int) = i := h; omega
    subst this
    rw [List.findIdx?_eq_some_iff_getElem] at hf
    obtain ⟨h1, h2, _⟩ := hf
    exact ⟨h1, by rw [List.getElem?_eq_getElem h1]; simpa using h2⟩
def rtB (x : Int) : Bool := decide (0 ≤ x) && decide (x < 8)
theorem rtB_nat {x : Int} (h : rtB x = true) : ∃ n : Nat, x = n ∧ n < 8 := by
  simp only [rtB, Bool.and_eq_true, decide_eq_true_eq] at h
  exact ⟨x.toNat, by omega, by omega⟩
/-- What a search for a field tells: the object, the field's place, its kind, the error. -/
structure FF where
  n : Nat
  i : Nat
  k : Int
  e : Int
def ffind (cs : Sch) (R : Nat → Nat) (K : Nat → Int) (root letter : Int) : FF :=
  if rtB root = false then ⟨0, 0, 0, 8⟩
  else if R root.toNat = 0 then ⟨0, 0, 0, 9⟩
  else if idxF (fof cs (K (R root.toNat))) letter < 0 then ⟨0, 0, 0, 5⟩
  else ⟨R root.toNat, (idxF (fof cs (K (R root.toNat))) letter).toNat, ((fof cs (K (R root.toNat)))[(idxF (fof cs (K (R root.toNat))) letter).toNat]?.getD (0, 0)).2, 0⟩
def fnum (f : FF) : FF := if f.e = 0 then (if f.k = 114 then ⟨0, 0, 0, 6⟩ else f) else ⟨0, 0, 0, f.e⟩
def fref (f : FF) : FF := if f.e = 0 then (if f.k = 114 then f else ⟨0, 0, 0, 6⟩) else ⟨0, 0, 0, f.e⟩
theorem ffind_zero (cs : Sch) (R : Nat → Nat) (K : Nat → Int) (root letter : Int) (h : (ffind cs R K root letter).e ≠ 0) : ffind cs R K root letter = ⟨0, 0, 0, (ffind cs R K root letter).e⟩ := by
  unfold ffind at h ⊢
  split
  · rfl
  · split
    · rfl
    · split
      · rfl
      · rename_i h1 h2 h3; rw [if_neg h1, if_neg h2, if_neg h3] at h; simp at h
/-- What was found. -/
theorem ffind_at {cs : Sch} {R : Nat → Nat} {K : Nat → Int} {root letter : Int} (h : (ffind cs R K root letter).e = 0) :
    ∃ n : Nat, root = n ∧ n < 8 ∧ R n ≠ 0 ∧ ∃ i : Nat, idxF (fof cs (K (R n))) letter = i ∧ i < (fof cs (K (R n))).length ∧ ffind cs R K root letter = ⟨R n, i, ((fof cs (K (R n)))[i]?.getD (0, 0)).2, 0⟩ := by
  unfold ffind at h ⊢
  split at h
  · simp at h
  · rename_i h1
    obtain ⟨n, rfl, hn⟩ := rtB_nat (by simpa using h1)
    rw [if_neg h1]
    simp only [Int.toNat_natCast] at h ⊢
    split at h
    · simp at h
    · rename_i h2
      rw [if_neg h2]
      split at h
      · simp at h
      · rename_i h3
        rw [if_neg h3]
        obtain ⟨i, hi1, hi2⟩ := idxF_lt h3
        exact ⟨n, rfl, hn, h2, i, hi1, hi2, by rw [hi1]; simp⟩
theorem ffind_bd {cs : Sch} {R : Nat → Nat} {K : Nat → Int} {root letter : Int} (hR : ∀ i, i < 8 → R i < 201) (h6 : ∀ c ∈ cs, c.2.length ≤ 6) (h : (ffind cs R K root letter).e = 0) :
    0 < (ffind cs R K root letter).n ∧ (ffind cs R K root letter).n < 201 ∧ (ffind cs R K root letter).i < 6 := by
  obtain ⟨n, _, hn, h0, i, _, hi, e⟩ := ffind_at h
  rw [e]
  have := fof_le h6 (K (R n))
  exact ⟨by simp only []; omega, hR n hn, by simp only []; omega⟩
/-- Both sides find the same. -/
theorem find_meet {cs : Sch} {p : PH} {r : DH} {M : Nat → Nat → Prop} (h : Bis cs p r M) (root letter : Int) :
    (ffind cs p.R p.K root letter).e = (ffind cs r.R r.K root letter).e ∧ (ffind cs p.R p.K root letter).i = (ffind cs r.R r.K root letter).i ∧ (ffind cs p.R p.K root letter).k = (ffind cs r.R r.K root letter).k ∧
      ((ffind cs p.R p.K root letter).e = 0 → M (ffind cs p.R p.K root letter).n (ffind cs r.R r.K root letter).n) := by
  unfold ffind
  split
  · exact ⟨rfl, rfl, rfl, fun h => by simp at h⟩
  · rename_i h1
    obtain ⟨n, rfl, hn⟩ := rtB_nat (by simpa using h1)
    simp only [Int.toNat_natCast]
    rcases h.root n hn with ⟨e1, e2⟩ | hm
    · rw [if_pos e1, if_pos e2]; exact ⟨rfl, rfl, rfl, fun h => by simp at h⟩
    · have hp := h.pos _ _ hm
      have n1 : ¬ p.R n = 0 := by omega
      have n2 : ¬ r.R n = 0 := by omega
      rw [if_neg n1, if_neg n2, h.cls _ _ hm]
      split
      · exact ⟨rfl, rfl, rfl, fun h => by simp at h⟩
      · exact ⟨rfl, rfl, rfl, fun _ => hm⟩
theorem fnum_e0 {f : FF} (h : (fnum f).e = 0) : f.e = 0 ∧ f.k ≠ 114 ∧ fnum f = f := by
  unfold fnum at h ⊢
  split at h
  · rename_i h0
    split at h
    · simp at h
    · rename_i hk; exact ⟨h0, hk, by rw [if_pos h0, if_neg hk]⟩
  · rename_i h0; exact absurd h h0
theorem fref_e0 {f : FF} (h : (fref f).e = 0) : f.e = 0 ∧ f.k = 114 ∧ fref f = f := by
  unfold fref at h ⊢
  split at h
  · rename_i h0
    split at h
    · rename_i hk; exact ⟨h0, hk, by rw [if_pos h0, if_pos hk]⟩
    · simp at h
  · rename_i h0; exact absurd h h0
theorem fnum_e (f g : FF) (h1 : f.e = g.e) (h2 : f.k = g.k) : (fnum f).e = (fnum g).e := by
  unfold fnum; rw [h1, h2]; split
  · rename_i h0; split
    · rfl
    · rw [h1]
  · rfl
theorem fref_e (f g : FF) (h1 : f.e = g.e) (h2 : f.k = g.k) : (fref f).e = (fref g).e := by
  unfold fref; rw [h1, h2]; split
  · rename_i h0; split
    · rw [h1]
    · rfl
  · rfl
theorem ffind_fld {cs : Sch} {R : Nat → Nat} {K : Nat → Int} {root letter : Int} (h : (ffind cs R K root letter).e = 0) :
    ∃ f, (fof cs (K (ffind cs R K root letter).n))[(ffind cs R K root letter).i]? = some f ∧ f.2 = (ffind cs R K root letter).k := by
  obtain ⟨n, _, hn, h0, i, _, hi, e⟩ := ffind_at h
  rw [e]
  simp only []
  exact ⟨_, List.getElem?_eq_getElem hi, by rw [List.getElem?_eq_getElem hi]; rfl⟩
/-- What Get tells. -/
theorem get_meet {cs : Sch} {p : PH} {r : DH} (h : Sim cs p r) (root letter : Int) :
    (fnum (ffind cs p.R p.K root letter)).e = (fnum (ffind cs r.R r.K root letter)).e ∧ ((fnum (ffind cs p.R p.K root letter)).e = 0 → p.N (ffind cs p.R p.K root letter).n (ffind cs p.R p.K root letter).i = r.C (ffind cs r.R r.K root letter).n (ffind cs r.R r.K root letter).i) := by
  obtain ⟨M, h⟩ := h
  obtain ⟨h1, h2, h3, h4⟩ := find_meet h root letter
  refine ⟨fnum_e _ _ h1 h3, fun h0 => ?_⟩
  obtain ⟨a1, a2, _⟩ := fnum_e0 h0
  obtain ⟨f, hf, hk⟩ := ffind_fld a1
  rw [← h2]
  exact h.num _ _ (h4 a1) _ f hf (by rw [hk]; exact a2)
theorem put_meet {cs : Sch} {p : PH} {r : DH} (h : Sim cs p r) (root letter v : Int) (h0 : (fnum (ffind cs p.R p.K root letter)).e = 0) :
    Sim cs { p with N := set2 p.N (ffind cs p.R p.K root letter).n (ffind cs p.R p.K root letter).i v } { r with C := set2 r.C (ffind cs r.R r.K root letter).n (ffind cs r.R r.K root letter).i v } := by
  obtain ⟨M, h⟩ := h
  obtain ⟨h1, h2, h3, h4⟩ := find_meet h root letter
  obtain ⟨a1, a2, _⟩ := fnum_e0 h0
  obtain ⟨f, hf, hk⟩ := ffind_fld a1
  rw [← h2]
  exact ⟨M, h.setNum (h4 a1) _ v f hf (by rw [hk]; exact a2)⟩
theorem ref_meet {cs : Sch} {p : PH} {r : DH} (h : Sim cs p r) (root letter : Int) : (fref (ffind cs p.R p.K root letter)).e = (fref (ffind cs r.R r.K root letter)).e := by
  obtain ⟨M, h⟩ := h
  obtain ⟨h1, h2, h3, h4⟩ := find_meet h root letter
  exact fref_e _ _ h1 h3
theorem follow_meet {cs : Sch} {p : PH} {r : DH} (h : Sim cs p r) (root letter : Int) (to : Nat) (h0 : (fref (ffind cs p.R p.K root letter)).e = 0) :
    Sim cs { p with R := set1 p.R to (p.F (ffind cs p.R p.K root letter).n (ffind cs p.R p.K root letter).i) } { r with R := set1 r.R to (r.C (ffind cs r.R r.K root letter).n (ffind cs r.R r.K root letter).i).toNat } := by
  obtain ⟨M, h⟩ := h
  obtain ⟨h1, h2, h3, h4⟩ := find_meet h root letter
  obtain ⟨a1, a2, _⟩ := fref_e0 h0
  obtain ⟨f, hf, hk⟩ := ffind_fld a1
  rw [← h2]
  refine ⟨M, h.setRoot to _ _ ?_⟩
  rcases h.ref _ _ (h4 a1) _ f hf (by rw [hk]; exact a2) with ⟨e1, e2⟩ | ⟨c, e1, e2⟩
  · left; rw [e2]; exact ⟨e1, rfl⟩
  · right; rw [e1]; exact e2
theorem link_meet {cs : Sch} {p : PH} {r : DH} (h : Sim cs p r) (root letter : Int) (fr : Nat) (hfr : fr < 8) (h0 : (fref (ffind cs p.R p.K root letter)).e = 0) :
    Sim cs { p with F := set2 p.F (ffind cs p.R p.K root letter).n (ffind cs p.R p.K root letter).i (p.R fr) } { r with C := set2 r.C (ffind cs r.R r.K root letter).n (ffind cs r.R r.K root letter).i (r.R fr : Int) } := by
  obtain ⟨M, h⟩ := h
  obtain ⟨h1, h2, h3, h4⟩ := find_meet h root letter
  obtain ⟨a1, a2, _⟩ := fref_e0 h0
  obtain ⟨f, hf, hk⟩ := ffind_fld a1
  rw [← h2]
  exact ⟨M, h.setRef (h4 a1) _ _ _ (h.root fr hfr) f hf (by rw [hk]; exact a2)⟩
theorem copy_meet {cs : Sch} {p : PH} {r : DH} (h : Sim cs p r) (i to : Nat) (hi : i < 8) : Sim cs { p with R := set1 p.R to (p.R i) } { r with R := set1 r.R to (r.R i) } := by
  obtain ⟨M, h⟩ := h
  exact ⟨M, h.setRoot to _ _ (h.root i hi)⟩
theorem clear_meet {cs : Sch} {p : PH} {r : DH} (h : Sim cs p r) (i : Nat) : Sim cs { p with R := set1 p.R i 0 } { r with R := set1 r.R i 0 } := by
  obtain ⟨M, h⟩ := h
  exact ⟨M, h.setRoot i 0 0 (.inl ⟨rfl, rfl⟩)⟩
theorem same_meet {cs : Sch} {p : PH} {r : DH} (h : Sim cs p r) (i j : Nat) (hi : i < 8) (hj : j < 8) : p.R i = p.R j ↔ r.R i = r.R j := by
  obtain ⟨M, h⟩ := h
  rcases h.root i hi with ⟨a1, a2⟩ | a <;> rcases h.root j hj with ⟨b1, b2⟩ | b
  · simp [a1, a2, b1, b2]
  · have := h.pos _ _ b; omega
  · have := h.pos _ _ a; omega
  · constructor
    · intro e; rw [e] at a; exact h.fn _ _ _ a b
    · intro e; rw [e] at a; exact h.inj _ _ _ a b
theorem class_meet' {cs : Sch} {p : PH} {r : DH} (h : Sim cs p r) (i : Nat) (hi : i < 8) : (p.R i = 0 ↔ r.R i = 0) ∧ (p.R i ≠ 0 → p.K (p.R i) = r.K (r.R i)) := by
  obtain ⟨M, h⟩ := h
  rcases h.root i hi with ⟨a1, a2⟩ | a
  · exact ⟨by simp [a1, a2], fun h => absurd a1 h⟩
  · have := h.pos _ _ a
    exact ⟨by omega, fun _ => h.cls _ _ a⟩
/-- Nothing is there at first. -/
theorem sim_new (cs : Sch) (p : PH) (r : DH) (h1 : ∀ i, i < 8 → p.R i = 0) (h2 : ∀ i, i < 8 → r.R i = 0) : Sim cs p r :=
  ⟨fun _ _ => False, ⟨fun _ _ _ h => h.elim, fun _ _ _ h => h.elim, fun _ _ h => h.elim, fun i hi => .inl ⟨h1 i hi, h2 i hi⟩, fun _ _ h => h.elim, fun _ _ h => h.elim, fun _ _ h => h.elim, fun _ _ h => h.elim, fun _ _ h => h.elim⟩⟩
end Go.Proofs.Ythckelcjncnalab
