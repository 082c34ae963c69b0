import Derived.Test.YtbgilndohccicabMz02
namespace Go.Proofs.Ytbgilndohccicab

theorem idxF_lt {fs : List (Int × Int)} {x : Int} (h : ¬ idxF fs x < 0) : ∃ i : Nat, idxF fs x = i ∧ i < fs.length := by
  unfold idxF at h ⊢
  cases hf : fs.findIdx? (fun p => p.1 == x) with
  | none => rw [hf] at h; simp at h
  | some i => rw [List.findIdx?_eq_some_iff_getElem] at hf; exact ⟨i, rfl, hf.1⟩
theorem idxF_at {fs : List (Int × Int)} {x : Int} {i : Nat} (h : idxF fs x = i) : i < fs.length ∧ (fs[i]?.getD (0, 0)).1 = x := by
  unfold idxF at h
  cases hf : fs.findIdx? (fun p => p.1 == x) with
  | none => rw [hf] at h; simp at h
  | some k =>
    rw [hf] at h
    have : k = i := by have h' : (k : Int) = i := h; omega
    subst this
    rw [List.findIdx?_eq_some_iff_getElem] at hf
    obtain ⟨h1, h2, _⟩ := hf
    exact ⟨h1, by rw [List.getElem?_eq_getElem h1]; simpa using h2⟩
def rtB (x : Int) : Bool := decide (0 ≤ x) && decide (x < 8)
theorem rtB_nat {x : Int} (h : rtB x = true) : ∃ n : Nat, x = n ∧ n < 8 := by
  simp only [rtB, Bool.and_eq_true, decide_eq_true_eq] at h
  exact ⟨x.toNat, by omega, by omega⟩
/-- What a search for a field tells: the object, the field's place, its kind, the error. -/
structure FF where
  n : Nat
  i : Nat
  k : Int
  e : Int
def ffind (cs : Sch) (R : Nat → Nat) (K : Nat → Int) (root letter : Int) : FF :=
  if rtB root = false then ⟨0, 0, 0, 8⟩
  else if R root.toNat = 0 then ⟨0, 0, 0, 9⟩
  else if idxF (fof cs (K (R root.toNat))) letter < 0 then ⟨0, 0, 0, 5⟩
  else ⟨R root.toNat, (idxF (fof cs (K (R root.toNat))) letter).toNat, ((fof cs (K (R root.toNat)))[(idxF (fof cs (K (R root.toNat))) letter).toNat]?.getD (0, 0)).2, 0⟩
def fnum (f : FF) : FF := if f.e = 0 then (if f.k = 114 then ⟨0, 0, 0, 6⟩ else f) else ⟨0, 0, 0, f.e⟩
def fref (f : FF) : FF := if f.e = 0 then (if f.k = 114 then f else ⟨0, 0, 0, 6⟩) else ⟨0, 0, 0, f.e⟩
theorem ffind_zero (cs : Sch) (R : Nat → Nat) (K : Nat → Int) (root letter : Int) (h : (ffind cs R K root letter).e ≠ 0) : ffind cs R K root letter = ⟨0, 0, 0, (ffind cs R K root letter).e⟩ := by
  unfold ffind at h ⊢
  split
  · rfl
  · split
    · rfl
    · split
      · rfl
      · rename_i h1 h2 h3; rw [if_neg h1, if_neg h2, if_neg h3] at h; simp at h
/-- What was found. -/
theorem ffind_at {cs : Sch} {R : Nat → Nat} {K : Nat → Int} {root letter : Int} (h : (ffind cs R K root letter).e = 0) :
    ∃ n : Nat, root = n ∧ n < 8 ∧ R n ≠ 0 ∧ ∃ i : Nat, idxF (fof cs (K (R n))) letter = i ∧ i < (fof cs (K (R n))).length ∧ ffind cs R K root letter = ⟨R n, i, ((fof cs (K (R n)))[i]?.getD (0, 0)).2, 0⟩ := by
  unfold ffind at h ⊢
  split at h
  · simp at h
  · rename_i h1
    obtain ⟨n, rfl, hn⟩ := rtB_nat (by simpa using h1)
    rw [if_neg h1]
    simp only [Int.toNat_natCast] at h ⊢
    split at h
    · simp at h
    · rename_i h2
      rw [if_neg h2]
      split at h
      · simp at h
      · rename_i h3
        rw [if_neg h3]
        obtain ⟨i, hi1, hi2⟩ := idxF_lt h3
        exact ⟨n, rfl, hn, h2, i, hi1, hi2, by rw [hi1]; simp⟩
theorem ffind_bd {cs : Sch} {R : Nat → Nat} {K : Nat → Int} {root letter : Int} (hR : ∀ i, i < 8 → R i < 201) (h6 : ∀ c ∈ cs, c.2.length ≤ 6) (h : (ffind cs R K root letter).e = 0) :
    0 < (ffind cs R K root letter).n ∧ (ffind cs R K root letter).n < 201 ∧ (ffind cs R K root letter).i < 6 := by
  obtain ⟨n, _, hn, h0, i, _, hi, e⟩ := ffind_at h
  rw [e]
  have := fof_le h6 (K (R n))
  exact ⟨by simp only []; omega, hR n hn, by simp only []; omega⟩
/-- Both sides find the same. -/
theorem find_meet {cs : Sch} {p : PH} {r : DH} {M : Nat → Nat → Prop} (h : Bis cs p r M) (root letter : Int) :
    (ffind cs p.R p.K root letter).e = (ffind cs r.R r.K root letter).e ∧ (ffind cs p.R p.K root letter).i = (ffind cs r.R r.K root letter).i ∧ (ffind cs p.R p.K root letter).k = (ffind cs r.R r.K root letter).k ∧
      ((ffind cs p.R p.K root letter).e = 0 → M (ffind cs p.R p.K root letter).n (ffind cs r.R r.K root letter).n) := by
  unfold ffind
  split
  · exact ⟨rfl, rfl, rfl, fun h => by simp at h⟩
  · rename_i h1
    obtain ⟨n, rfl, hn⟩ := rtB_nat (by simpa using h1)
    simp only [Int.toNat_natCast]
    rcases h.root n hn with ⟨e1, e2⟩ | hm
    · rw [if_pos e1, if_pos e2]; exact ⟨rfl, rfl, rfl, fun h => by simp at h⟩
    · have hp := h.pos _ _ hm
      have n1 : ¬ p.R n = 0 := by omega
      have n2 : ¬ r.R n = 0 := by omega
      rw [if_neg n1, if_neg n2, h.cls _ _ hm]
      split
      · exact ⟨rfl, rfl, rfl, fun h => by simp at h⟩
      · exact ⟨rfl, rfl, rfl, fun _ => hm⟩
theorem fnum_e0 {f : FF} (h : (fnum f).e = 0) : f.e = 0 ∧ f.k ≠ 114 ∧ fnum f = f := by
  unfold fnum at h ⊢
  split at h
  · rename_i h0
    split at h
    · simp at h
    · rename_i hk; exact ⟨h0, hk, by rw [if_pos h0, if_neg hk]⟩
  · rename_i h0; exact absurd h h0
theorem fref_e0 {f : FF} (h : (fref f).e = 0) : f.e = 0 ∧ f.k = 114 ∧ fref f = f := by
  unfold fref at h ⊢
  split at h
  · rename_i h0
    split at h
    · rename_i hk; exact ⟨h0, hk, by rw [if_pos h0, if_pos hk]⟩
    · simp at h
  · rename_i h0; exact absurd h h0
theorem fnum_e (f g : FF) (h1 : f.e = g.e) (h2 : f.k = g.k) : (fnum f).e = (fnum g).e := by
  unfold fnum; rw [h1, h2]; split
  · rename_i h0; split
    · rfl
    · rw [h1]
  · rfl
theorem fref_e (f g : FF) (h1 : f.e = g.e) (h2 : f.k = g.k) : (fref f).e = (fref g).e := by
  unfold fref; rw [h1, h2]; split
  · rename_i h0; split
    · rw [h1]
    · rfl
  · rfl
theorem ffind_fld {cs : Sch} {R : Nat → Nat} {K : Nat → Int} {root letter : Int} (h : (ffind cs R K root letter).e = 0) :
    ∃ f, (fof cs (K (ffind cs R K root letter).n))[(ffind cs R K root letter).i]? = some f ∧ f.2 = (ffind cs R K root letter).k := by
  obtain ⟨n, _, hn, h0, i, _, hi, e⟩ := ffind_at h
  rw [e]
  simp only []
  exact ⟨_, List.getElem?_eq_getElem hi, by rw [List.getElem?_eq_getElem hi]; rfl⟩
/-- What Get tells. -/
theorem get_meet {cs : Sch} {p : PH} {r : DH} (h : Sim cs p r) (root letter : Int) :
    (fnum (ffind cs p.R p.K root letter)).e = (fnum (ffind cs r.R r.K root letter)).e ∧ ((fnum (ffind cs p.R p.K root letter)).e = 0 → p.N (ffind cs p.R p.K root letter).n (ffind cs p.R p.K root letter).i = r.C (ffind cs r.R r.K root letter).n (ffind cs r.R r.K root letter).i) := by
  obtain ⟨M, h⟩ := h
  obtain ⟨h1, h2, h3, h4⟩ := find_meet h root letter
  refine ⟨fnum_e _ _ h1 h3, fun h0 => ?_⟩
  obtain ⟨a1, a2, _⟩ := fnum_e0 h0
  obtain ⟨f, hf, hk⟩ := ffind_fld a1
  rw [← h2]
  exact h.num _ _ (h4 a1) _ f hf (by rw [hk]; exact a2)
theorem put_meet {cs : Sch} {p : PH} {r : DH} (h : Sim cs p r) (root letter v : Int) (h0 : (fnum (ffind cs p.R p.K root letter)).e = 0) :
    Sim cs { p with N := set2 p.N (ffind cs p.R p.K root letter).n (ffind cs p.R p.K root letter).i v } { r with C := set2 r.C (ffind cs r.R r.K root letter).n (ffind cs r.R r.K root letter).i v } := by
  obtain ⟨M, h⟩ := h
  obtain ⟨h1, h2, h3, h4⟩ := find_meet h root letter
  obtain ⟨a1, a2, _⟩ := fnum_e0 h0
  obtain ⟨f, hf, hk⟩ := ffind_fld a1
  rw [← h2]
  exact ⟨M, h.setNum (h4 a1) _ v f hf (by rw [hk]; exact a2)⟩
theorem ref_meet {cs : Sch} {p : PH} {r : DH} (h : Sim cs p r) (root letter : Int) : (fref (ffind cs p.R p.K root letter)).e = (fref (ffind cs r.R r.K root letter)).e := by
  obtain ⟨M, h⟩ := h
  obtain ⟨h1, h2, h3, h4⟩ := find_meet h root letter
  exact fref_e _ _ h1 h3
theorem follow_meet {cs : Sch} {p : PH} {r : DH} (h : Sim cs p r) (root letter : Int) (to : Nat) (h0 : (fref (ffind cs p.R p.K root letter)).e = 0) :
    Sim cs { p with R := set1 p.R to (p.F (ffind cs p.R p.K root letter).n (ffind cs p.R p.K root letter).i) } { r with R := set1 r.R to (r.C (ffind cs r.R r.K root letter).n (ffind cs r.R r.K root letter).i).toNat } := by
  obtain ⟨M, h⟩ := h
  obtain ⟨h1, h2, h3, h4⟩ := find_meet h root letter
  obtain ⟨a1, a2, _⟩ := fref_e0 h0
  obtain ⟨f, hf, hk⟩ := ffind_fld a1
  rw [← h2]
  refine ⟨M, h.setRoot to _ _ ?_⟩
  rcases h.ref _ _ (h4 a1) _ f hf (by rw [hk]; exact a2) with ⟨e1, e2⟩ | ⟨c, e1, e2⟩
  · left; rw [e2]; exact ⟨e1, rfl⟩
  · right; rw [e1]; exact e2
theorem link_meet {cs : Sch} {p : PH} {r : DH} (h : Sim cs p r) (root letter : Int) (fr : Nat) (hfr : fr < 8) (h0 : (fref (ffind cs p.R p.K root letter)).e = 0) :
    Sim cs { p with F := set2 p.F (ffind cs p.R p.K root letter).n (ffind cs p.R p.K root letter).i (p.R fr) } { r with C := set2 r.C (ffind cs r.R r.K root letter).n (ffind cs r.R r.K root letter).i (r.R fr : Int) } := by
  obtain ⟨M, h⟩ := h
  obtain ⟨h1, h2, h3, h4⟩ := find_meet h root letter
  obtain ⟨a1, a2, _⟩ := fref_e0 h0
  obtain ⟨f, hf, hk⟩ := ffind_fld a1
  rw [← h2]
  exact ⟨M, h.setRef (h4 a1) _ _ _ (h.root fr hfr) f hf (by rw [hk]; exact a2)⟩
theorem copy_meet {cs : Sch} {p : PH} {r : DH} (h : Sim cs p r) (i to : Nat) (hi : i < 8) : Sim cs { p with R := set1 p.R to (p.R i) } { r with R := set1 r.R to (r.R i) } := by
  obtain ⟨M, h⟩ := h
  exact ⟨M, h.setRoot to _ _ (h.root i hi)⟩
theorem clear_meet {cs : Sch} {p : PH} {r : DH} (h : Sim cs p r) (i : Nat) : Sim cs { p with R := set1 p.R i 0 } { r with R := set1 r.R i 0 } := by
  obtain ⟨M, h⟩ := h
  exact ⟨M, h.setRoot i 0 0 (.inl ⟨rfl, rfl⟩)⟩
theorem same_meet {cs : Sch} {p : PH} {r : DH} (h : Sim cs p r) (i j : Nat) (hi : i < 8) (hj : j < 8) : p.R i = p.R j ↔ r.R i = r.R j := by
  obtain ⟨M, h⟩ := h
  rcases h.root i hi with ⟨a1, a2⟩ | a <;> rcases h.root j hj with ⟨b1, b2⟩ | b
  · simp [a1, a2, b1, b2]
  · have := h.pos _ _ b; omega
  · have := h.pos _ _ a; omega
  · constructor
    · intro e; rw [e] at a; exact h.fn _ _ _ a b
    · intro e; rw [e] at a; exact h.inj _ _ _ a b
theorem class_meet' {cs : Sch} {p : PH} {r : DH} (h : Sim cs p r) (i : Nat) (hi : i < 8) : (p.R i = 0 ↔ r.R i = 0) ∧ (p.R i ≠ 0 → p.K (p.R i) = r.K (r.R i)) := by
  obtain ⟨M, h⟩ := h
  rcases h.root i hi with ⟨a1, a2⟩ | a
  · exact ⟨by simp [a1, a2], fun h => absurd a1 h⟩
  · have := h.pos _ _ a
    exact ⟨by omega, fun _ => h.cls _ _ a⟩
/-- Nothing is there at first. -/
theorem sim_new (cs : Sch) (p : PH) (r : DH) (h1 : ∀ i, i < 8 → p.R i = 0) (h2 : ∀ i, i < 8 → r.R i = 0) : Sim cs p r :=
  ⟨fun _ _ => False, ⟨fun _ _ _ h => h.elim, fun _ _ _ h => h.elim, fun _ _ h => h.elim, fun i hi => .inl ⟨h1 i hi, h2 i hi⟩, fun _ _ h => h.elim, fun _ _ h => h.elim, fun _ _ h => h.elim, fun _ _ h => h.elim, fun _ _ h => h.elim⟩⟩
end Go.Proofs.Ytbgilndohccicab
namespace Go.Proofs.Ytbgilndohccicab

/-- The document's heap is well made. -/
structure Wf (cs : Sch) (r : DH) : Prop where
  root : ∀ i, i < 8 → r.R i ≤ r.n
  ref : ∀ b, 0 < b → b ≤ r.n → ∀ j f, (fof cs (r.K b))[j]? = some f → f.2 = 114 → 0 ≤ r.C b j ∧ r.C b j ≤ r.n
  rng : ∀ b j, 0 < b → b ≤ r.n → -9223372036854775808 ≤ r.C b j ∧ r.C b j ≤ 9223372036854775807
theorem Wf.in_le {cs : Sch} {r : DH} (h : Wf cs r) {b : Nat} (hb : r.in cs b) : 0 < b ∧ b ≤ r.n := by
  refine Rch.least (P := fun b => 0 < b ∧ b ≤ r.n) ?_ ?_ hb
  · rintro x ⟨i, hi, rfl, hx⟩; exact ⟨by omega, h.root i hi⟩
  · rintro x y ⟨h1, h2⟩ ⟨j, f, hf, hk, hc, hy⟩
    have := h.ref x h1 h2 j f hf hk
    omega
theorem Wf.setRoot {cs : Sch} {r : DH} (h : Wf cs r) (i y : Nat) (hy : y ≤ r.n) : Wf cs { r with R := set1 r.R i y } :=
  ⟨fun k hk => by
    by_cases e : k = i
    · subst e; simpa [set1_self] using hy
    · simpa [set1_ne _ _ e] using h.root k hk, h.ref, h.rng⟩
theorem Wf.setNum {cs : Sch} {r : DH} (h : Wf cs r) (b i : Nat) (v : Int) (f : Int × Int) (hf : (fof cs (r.K b))[i]? = some f) (hk : f.2 ≠ 114) (h1 : -9223372036854775808 ≤ v) (h2 : v ≤ 9223372036854775807) : Wf cs { r with C := set2 r.C b i v } := by
  refine ⟨h.root, fun x hx hn j g hg hgk => ?_, fun x j hx hn => ?_⟩
  · have e : ¬ (x = b ∧ j = i) := by
      rintro ⟨rfl, rfl⟩
      simp only [] at hg
      rw [hf] at hg
      exact hk (by have := Option.some.inj hg; rw [this]; exact hgk)
    simp only [set2_ne _ _ e]
    exact h.ref x hx hn j g hg hgk
  · by_cases e : x = b ∧ j = i
    · obtain ⟨rfl, rfl⟩ := e; simpa [set2_self] using ⟨h1, h2⟩
    · simp only [set2_ne _ _ e]; exact h.rng x j hx hn
theorem Wf.setRef {cs : Sch} {r : DH} (h : Wf cs r) (b i y : Nat) (hy : y ≤ r.n) (hn : r.n ≤ 9223372036854775807) : Wf cs { r with C := set2 r.C b i (y : Int) } := by
  refine ⟨h.root, fun x hx hn' j g hg hgk => ?_, fun x j hx hn' => ?_⟩
  · by_cases e : x = b ∧ j = i
    · obtain ⟨rfl, rfl⟩ := e; simp only [set2_self]; omega
    · simp only [set2_ne _ _ e]; exact h.ref x hx hn' j g hg hgk
  · by_cases e : x = b ∧ j = i
    · obtain ⟨rfl, rfl⟩ := e; simp only [set2_self]; omega
    · simp only [set2_ne _ _ e]; exact h.rng x j hx hn'
theorem Wf.make {cs : Sch} {r r' : DH} (h : Wf cs r) (i : Nat) (dR : r'.R = set1 r.R i (r.n + 1)) (dK : ∀ y, 0 < y → y ≤ r.n → r'.K y = r.K y) (dC : ∀ y j, 0 < y → y ≤ r.n → r'.C y j = r.C y j) (dC1 : ∀ j, r'.C (r.n + 1) j = 0) (dn : r'.n = r.n + 1) : Wf cs r' := by
  refine ⟨fun k hk => ?_, fun x hx hn j g hg hgk => ?_, fun x j hx hn => ?_⟩
  · rw [dR, dn]
    by_cases e : k = i
    · subst e; rw [set1_self]; omega
    · rw [set1_ne _ _ e]; have := h.root k hk; omega
  · by_cases e : x ≤ r.n
    · rw [dC x j hx e, dn]; rw [dK x hx e] at hg; have := h.ref x hx e j g hg hgk; omega
    · have : x = r.n + 1 := by omega
      subst this; rw [dC1]; omega
  · by_cases e : x ≤ r.n
    · rw [dC x j hx e]; exact h.rng x j hx e
    · have : x = r.n + 1 := by omega
      subst this; rw [dC1]; omega

/-! Which are there: again and again. T: those that are marked, from 0 on. -/
def cloJ (cs : Sch) (r : DH) (T : Nat → Bool) (o j : Nat) : Prop := ∀ f, (fof cs (r.K (o + 1)))[j]? = some f → f.2 = 114 → ∀ y : Nat, r.C (o + 1) j = y → y ≠ 0 → T (y - 1) = true
def clo (cs : Sch) (r : DH) (T : Nat → Bool) (o : Nat) : Prop := T o = true → ∀ j, cloJ cs r T o j
def cloA (cs : Sch) (r : DH) (T : Nat → Bool) : Prop := ∀ o, o < r.n → clo cs r T o
structure OI (cs : Sch) (r : DH) (T : Nat → Bool) (k : Nat) : Prop where
  snd : ∀ i, i < r.n → T i = true → r.in cs (i + 1)
  rts : ∀ i, i < 8 → r.R i ≠ 0 → T (r.R i - 1) = true
  cl : cloA cs r T ∨ k ≤ cnt T r.n
structure TI (cs : Sch) (r : DH) (T0 T : Nat → Bool) (o k : Nat) : Prop where
  snd : ∀ i, i < r.n → T i = true → r.in cs (i + 1)
  rts : ∀ i, i < 8 → r.R i ≠ 0 → T (r.R i - 1) = true
  mono : ∀ i, i < r.n → T0 i = true → T i = true
  st : cloA cs r T0 → T = T0
  ds : (T = T0 ∧ (∀ o', o' < o → clo cs r T o') ∧ (T o = true → ∀ j, j < k → cloJ cs r T o j)) ∨ cnt T0 r.n < cnt T r.n
/-- The roots are marked, one behind another. -/
structure RI (cs : Sch) (r : DH) (T : Nat → Bool) (m : Nat) : Prop where
  snd : ∀ i, i < r.n → T i = true → r.in cs (i + 1)
  rts : ∀ i, i < m → r.R i ≠ 0 → T (r.R i - 1) = true
theorem set1_true {T : Nat → Bool} {i j : Nat} (h : T j = true) : set1 T i true j = true := by
  by_cases e : j = i
  · subst e; exact set1_self _ _ _
  · rw [set1_ne _ _ e]; exact h
theorem set1_id {T : Nat → Bool} {i : Nat} (h : T i = true) : set1 T i true = T := by
  funext j
  by_cases e : j = i
  · subst e; rw [set1_self, h]
  · rw [set1_ne _ _ e]
theorem RI.start (cs : Sch) (r : DH) : RI cs r (fun _ => false) 0 := ⟨fun i _ h => by simp at h, fun i h => by omega⟩
theorem RI.skip {cs : Sch} {r : DH} {T : Nat → Bool} {m : Nat} (h : RI cs r T m) (h0 : r.R m = 0) : RI cs r T (m + 1) :=
  ⟨h.snd, fun i hi hne => by
    rcases Nat.lt_succ_iff_lt_or_eq.1 hi with hi | rfl
    · exact h.rts i hi hne
    · exact absurd h0 hne⟩
theorem RI.mark {cs : Sch} {r : DH} {T : Nat → Bool} {m : Nat} (h : RI cs r T m) (hm : m < 8) (h0 : r.R m ≠ 0) : RI cs r (set1 T (r.R m - 1) true) (m + 1) :=
  ⟨fun i hi ht => by
    by_cases e : i = r.R m - 1
    · have : i + 1 = r.R m := by omega
      rw [this]; exact .root ⟨m, hm, rfl, h0⟩
    · rw [set1_ne _ _ e] at ht; exact h.snd i hi ht,
   fun i hi hne => by
    rcases Nat.lt_succ_iff_lt_or_eq.1 hi with hi | rfl
    · exact set1_true (h.rts i hi hne)
    · exact set1_self _ _ _⟩
theorem RI.oi {cs : Sch} {r : DH} {T : Nat → Bool} (h : RI cs r T 8) : OI cs r T 0 := ⟨h.snd, h.rts, .inr (Nat.zero_le _)⟩
theorem OI.ti {cs : Sch} {r : DH} {T : Nat → Bool} {k : Nat} (h : OI cs r T k) : TI cs r T T 0 0 :=
  ⟨h.snd, h.rts, fun _ _ h => h, fun _ => rfl, .inl ⟨rfl, fun o' h => by omega, fun _ j h => by omega⟩⟩
theorem TI.skip {cs : Sch} {r : DH} {T0 T : Nat → Bool} {o k : Nat} (h : TI cs r T0 T o k) (hk : cloJ cs r T o k) : TI cs r T0 T o (k + 1) := by
  refine ⟨h.snd, h.rts, h.mono, h.st, ?_⟩
  rcases h.ds with ⟨h1, h2, h3⟩ | h1
  · exact .inl ⟨h1, h2, fun ht j hj => by
      rcases Nat.lt_succ_iff_lt_or_eq.1 hj with hj | rfl
      · exact h3 ht j hj
      · exact hk⟩
  · exact .inr h1
theorem TI.mark {cs : Sch} {r : DH} {T0 T : Nat → Bool} {o k : Nat} (h : TI cs r T0 T o k) (ho : o < r.n) (ht : T o = true) (f : Int × Int) (hf : (fof cs (r.K (o + 1)))[k]? = some f) (hk : f.2 = 114) (y : Nat) (hy : r.C (o + 1) k = y) (h0 : y ≠ 0) (hn : y ≤ r.n) : TI cs r T0 (set1 T (y - 1) true) o (k + 1) := by
  by_cases e : T (y - 1) = true
  · rw [set1_id e]
    refine h.skip ?_
    intro f' hf' hk' y' hy' _
    have : y' = y := by omega
    subst this; exact e
  · have e' : T (y - 1) = false := by simpa using e
    refine ⟨fun i hi hti => ?_, fun i hi hne => set1_true (h.rts i hi hne), fun i hi h2 => set1_true (h.mono i hi h2), fun hc => ?_, .inr ?_⟩
    · by_cases e2 : i = y - 1
      · have : i + 1 = y := by omega
        rw [this]; exact .step (h.snd o ho ht) ⟨k, f, hf, hk, hy, h0⟩
      · rw [set1_ne _ _ e2] at hti; exact h.snd i hi hti
    · have := h.st hc
      subst this
      exact absurd (hc o ho ht k f hf hk y hy h0) e
    · have c1 := cnt_mono T0 T r.n h.mono
      have c2 := cnt_more T (set1 T (y - 1) true) r.n (y - 1) (fun i hi h2 => set1_true h2) (by omega) e' (set1_self _ _ _)
      omega
theorem TI.next {cs : Sch} {r : DH} {T0 T : Nat → Bool} {o k : Nat} (h : TI cs r T0 T o k) (hk : T o = true → (fof cs (r.K (o + 1))).length ≤ k) : TI cs r T0 T (o + 1) 0 := by
  refine ⟨h.snd, h.rts, h.mono, h.st, ?_⟩
  rcases h.ds with ⟨h1, h2, h3⟩ | h1
  · refine .inl ⟨h1, fun o' ho' ht j => ?_, fun _ j hj => by omega⟩
    rcases Nat.lt_succ_iff_lt_or_eq.1 ho' with ho' | rfl
    · exact h2 o' ho' ht j
    · by_cases hj : j < k
      · exact h3 ht j hj
      · intro f hf
        have := hk ht
        obtain ⟨h', _⟩ := List.getElem?_eq_some_iff.1 hf
        omega
  · exact .inr h1
theorem TI.done {cs : Sch} {r : DH} {T0 T : Nat → Bool} {m : Nat} (h : TI cs r T0 T r.n 0) (h0 : OI cs r T0 m) : OI cs r T (m + 1) := by
  refine ⟨h.snd, h.rts, ?_⟩
  rcases h0.cl with hc | hc
  · have := h.st hc; subst this; exact .inl hc
  · rcases h.ds with ⟨h1, h2, _⟩ | h1
    · exact .inl h2
    · exact .inr (by omega)
theorem OI.fin {cs : Sch} {r : DH} (hw : Wf cs r) {T : Nat → Bool} (h : OI cs r T r.n) : ∀ o, o < r.n → (T o = true ↔ r.in cs (o + 1)) := by
  have hc : cloA cs r T := by
    rcases h.cl with hc | hc
    · exact hc
    · have := cnt_full T r.n hc
      intro o ho _ j f hf hk y hy h0
      have := hw.ref (o + 1) (by omega) (by omega) j f hf hk
      exact cnt_full T r.n hc (y - 1) (by omega)
  intro o ho
  refine ⟨h.snd o ho, fun hin => ?_⟩
  have : ∀ b, r.in cs b → 0 < b ∧ b ≤ r.n ∧ T (b - 1) = true := fun b hb => by
    refine Rch.least (P := fun b => 0 < b ∧ b ≤ r.n ∧ T (b - 1) = true) ?_ ?_ hb
    · rintro x ⟨i, hi, rfl, hx⟩; exact ⟨by omega, hw.root i hi, h.rts i hi hx⟩
    · rintro x y ⟨h1, h2, h3⟩ ⟨j, f, hf, hk, hcc, hy⟩
      have hr := hw.ref x h1 h2 j f hf hk
      have hx : x - 1 + 1 = x := by omega
      exact ⟨by omega, by omega, hc (x - 1) (by omega) h3 j f (by rw [hx]; exact hf) hk y (by rw [hx]; exact hcc) hy⟩
  exact (this _ hin).2.2
/-- The list of those that are marked. -/
def lst (T : Nat → Bool) (n : Nat) : List Nat := ((List.range n).filter T).map (· + 1)
theorem lst_mem {cs : Sch} {r : DH} (hw : Wf cs r) {T : Nat → Bool} (h : ∀ o, o < r.n → (T o = true ↔ r.in cs (o + 1))) (b : Nat) : b ∈ lst T r.n ↔ r.in cs b := by
  unfold lst
  rw [List.mem_map]
  constructor
  · rintro ⟨o, ho, rfl⟩
    obtain ⟨h1, h2⟩ := List.mem_filter.1 ho
    exact (h o (List.mem_range.1 h1)).1 h2
  · intro hb
    obtain ⟨h1, h2⟩ := hw.in_le hb
    refine ⟨b - 1, List.mem_filter.2 ⟨List.mem_range.2 (by omega), (h (b - 1) (by omega)).2 (by rwa [Nat.sub_add_cancel h1])⟩, by omega⟩
theorem lst_nodup (T : Nat → Bool) (n : Nat) : (lst T n).Nodup := by
  unfold lst
  have h : ∀ l : List Nat, l.Nodup → (l.map (· + 1)).Nodup := by
    intro l hl
    induction l with
    | nil => simp
    | cons x l ih =>
      rw [List.map_cons, List.nodup_cons]
      rw [List.nodup_cons] at hl
      refine ⟨fun hm => ?_, ih hl.2⟩
      obtain ⟨y, hy, e⟩ := List.mem_map.1 hm
      have : y = x := by omega
      subst this; exact hl.1 hy
  exact h _ (List.Pairwise.filter _ List.nodup_range)
theorem lst_succ (T : Nat → Bool) (n : Nat) : lst T (n + 1) = lst T n ++ (if T n = true then [n + 1] else []) := by
  unfold lst; rw [List.range_succ, List.filter_append, List.map_append]
  cases h : T n <;> simp [h]
/-- The words of the first n that are marked. -/
def wsum (cs : Sch) (K : Nat → Int) (T : Nat → Bool) (n : Nat) : Nat := ((lst T n).map fun b => wof cs (K b)).sum
theorem wsum_succ (cs : Sch) (K : Nat → Int) (T : Nat → Bool) (n : Nat) : wsum cs K T (n + 1) = wsum cs K T n + (if T n = true then wof cs (K (n + 1)) else 0) := by
  unfold wsum; rw [lst_succ, List.map_append, List.sum_append]
  split <;> simp
theorem wof_le {cs : Sch} (h6 : ∀ c ∈ cs, c.2.length ≤ 6) (x : Int) : wof cs x ≤ 7 := by have := fof_le h6 x; unfold wof; omega
theorem wsum_le {cs : Sch} (h6 : ∀ c ∈ cs, c.2.length ≤ 6) (K : Nat → Int) (T : Nat → Bool) (n : Nat) : wsum cs K T n ≤ 7 * n := by
  induction n with
  | zero => simp [wsum, lst]
  | succ n ih => rw [wsum_succ]; have := wof_le h6 (K (n + 1)); split <;> omega
end Go.Proofs.Ytbgilndohccicab
