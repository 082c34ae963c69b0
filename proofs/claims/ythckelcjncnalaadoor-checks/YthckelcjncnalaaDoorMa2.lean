import Derived.Test.YthckelcjncnalaaDoorMa1
namespace Go.Proofs.YthckelcjncnalaaDoor
open Go.RowKit

def Nf (l : List GF) (j : Nat) : Int := (l[j]?.getD noGF).n
def Pf (l : List GF) (j : Nat) : Int := (l[j]?.getD noGF).p
def DF (l : List GF) (p : Int) : Prop := VXs (Nf l) (Pf l) l.length p
def Nc (cs : List GC) (j : Nat) : Int := (cs[j]?.getD noGC).n
def Pc (cs : List GC) (j : Nat) : Int := ((cs[j]?.getD noGC).p : Int)

theorem VX_congr {N P N' P' : Nat → Int} {i k : Nat} {p : Int} (h : N i = N' i ∧ P i = P' i) (h' : ∀ j, j < k → N j = N' j) : VX N P i k p ↔ VX N' P' i k p := by
  constructor
  · rintro ⟨j, h1, h2, h3⟩; exact ⟨j, h1, by rw [← h.1, ← h' j h1]; exact h2, by rw [← h.2]; exact h3⟩
  · rintro ⟨j, h1, h2, h3⟩; exact ⟨j, h1, by rw [h.1, h' j h1]; exact h2, by rw [h.2]; exact h3⟩
theorem VXs_congr {N P N' P' : Nat → Int} {n : Nat} {p : Int} (h : ∀ j, j < n → N j = N' j ∧ P j = P' j) : VXs N P n p ↔ VXs N' P' n p := by
  constructor
  · rintro ⟨j, h1, h2⟩; exact ⟨j, h1, (VX_congr (h j h1) (fun i hi => (h i (by omega)).1)).1 h2⟩
  · rintro ⟨j, h1, h2⟩; exact ⟨j, h1, (VX_congr (h j h1) (fun i hi => (h i (by omega)).1)).2 h2⟩

theorem get_snoc_lt {α : Type} (l : List α) (x d : α) (j : Nat) (h : j < l.length) : (l ++ [x])[j]?.getD d = l[j]?.getD d := by rw [List.getElem?_append_left h]
theorem get_snoc_len {α : Type} (l : List α) (x d : α) : (l ++ [x])[l.length]?.getD d = x := by simp

theorem DF_nil (p : Int) : ¬ DF [] p := fun ⟨_, h, _⟩ => by simp at h
theorem DF_snoc (l : List GF) (f : GF) (p : Int) : DF (l ++ [f]) p ↔ DF l p ∨ ((∃ g ∈ l, g.n = f.n) ∧ p = f.p) := by
  have e : (l ++ [f]).length = l.length + 1 := by simp
  have c : VXs (Nf (l ++ [f])) (Pf (l ++ [f])) l.length p ↔ DF l p := VXs_congr fun j hj => ⟨by simp only [Nf]; rw [get_snoc_lt _ _ _ _ hj], by simp only [Pf]; rw [get_snoc_lt _ _ _ _ hj]⟩
  unfold DF
  rw [e, VXs_succ, c]
  refine or_congr Iff.rfl ?_
  constructor
  · rintro ⟨k, hk, h1, h2⟩
    simp only [Nf, Pf] at h1 h2
    rw [get_snoc_len] at h1 h2
    rw [get_snoc_lt _ _ _ _ hk] at h1
    exact ⟨⟨l[k], List.getElem_mem hk, by rw [List.getElem?_eq_getElem hk] at h1; exact h1.symm⟩, h2⟩
  · rintro ⟨⟨g, hg, h1⟩, h2⟩
    obtain ⟨k, hk, rfl⟩ := List.getElem_of_mem hg
    refine ⟨k, hk, ?_, ?_⟩
    · simp only [Nf]; rw [get_snoc_len, get_snoc_lt _ _ _ _ hk, List.getElem?_eq_getElem hk]; exact h1.symm
    · simp only [Pf]; rw [get_snoc_len]; exact h2

theorem Rep_nil (p : Int) : ¬ Rep [] p := fun ⟨_, h, _⟩ => by simp at h
theorem Rep_snoc (cs : List GC) (c : GC) (p : Int) : Rep (cs ++ [c]) p ↔ (Rep cs p ∨ ((∃ g ∈ cs, g.n = c.n) ∧ p = c.p)) ∨ DF c.l p := by
  have e : (cs ++ [c]).length = cs.length + 1 := by simp
  unfold Rep
  rw [e, VCs_succ]
  refine or_congr (or_congr ?_ ?_) ?_
  · constructor
    · rintro ⟨i, hi, h⟩
      refine ⟨i, hi, ?_⟩
      rcases h with h | h
      · exact .inl ((VX_congr ⟨by rw [get_snoc_lt _ _ _ _ hi], by rw [get_snoc_lt _ _ _ _ hi]⟩ (fun j hj => by rw [get_snoc_lt _ _ _ _ (by omega)])).1 h)
      · right; simpa only [get_snoc_lt _ _ _ _ hi] using h
    · rintro ⟨i, hi, h⟩
      refine ⟨i, hi, ?_⟩
      rcases h with h | h
      · exact .inl ((VX_congr ⟨by rw [get_snoc_lt _ _ _ _ hi], by rw [get_snoc_lt _ _ _ _ hi]⟩ (fun j hj => by rw [get_snoc_lt _ _ _ _ (by omega)])).2 h)
      · right; simpa only [get_snoc_lt _ _ _ _ hi] using h
  · constructor
    · rintro ⟨k, hk, h1, h2⟩
      simp only [get_snoc_len] at h1 h2
      rw [get_snoc_lt _ _ _ _ hk, List.getElem?_eq_getElem hk] at h1
      exact ⟨⟨cs[k], List.getElem_mem hk, h1.symm⟩, h2⟩
    · rintro ⟨⟨g, hg, h1⟩, h2⟩
      obtain ⟨k, hk, rfl⟩ := List.getElem_of_mem hg
      refine ⟨k, hk, ?_, ?_⟩
      · simp only [get_snoc_len]; rw [get_snoc_lt _ _ _ _ hk, List.getElem?_eq_getElem hk]; exact h1.symm
      · simp only [get_snoc_len]; exact h2
  · simp only [get_snoc_len]; exact Iff.rfl

/-- A place behind all others is noted, or the note stays. -/
theorem Least.note {V : Int → Prop} {tw : Int} {k : Nat} (h : Least V tw) (hb : ∀ p, V p → p < k) : Least (fun p => V p ∨ p = k) (noteI tw k) := by
  simp only [noteI]
  rcases h with ⟨h1, h2⟩ | ⟨h1, h2, h3⟩
  · rw [if_pos h1]
    exact .inr ⟨by omega, .inr rfl, fun p hp => by rcases hp with hp | hp; exact absurd hp (h2 p); omega⟩
  · rw [if_neg (by omega)]
    exact .inr ⟨h1, .inl h2, fun p hp => by rcases hp with hp | hp; exact h3 p hp; have := hb tw h2; omega⟩
theorem Least.noteIf {V : Int → Prop} {tw : Int} {k : Nat} {c : Prop} [Decidable c] (h : Least V tw) (hb : ∀ p, V p → p < k) : Least (fun p => V p ∨ (c ∧ p = k)) (if c then noteI tw k else tw) := by
  by_cases hc : c
  · rw [if_pos hc]; exact (h.note hb).congr fun p => by simp [hc]
  · rw [if_neg hc]; exact h.congr fun p => by simp [hc]

theorem idxF_iff (fs : List (Int × Int)) (x : Int) : 0 ≤ idxF fs x ↔ ∃ f ∈ fs, f.1 = x := by
  simp only [idxF]
  cases h : fs.findIdx? (fun p => p.1 == x) with
  | none =>
    rw [List.findIdx?_eq_none_iff] at h
    constructor
    · intro h'; simp at h'
    · rintro ⟨f, hf, rfl⟩; have := h f hf; simp at this
  | some i =>
    rw [List.findIdx?_eq_some_iff_getElem] at h
    obtain ⟨hi, h1, _⟩ := h
    constructor
    · intro _; exact ⟨fs[i], List.getElem_mem hi, by simpa using h1⟩
    · intro _; simp

theorem gf_jump (t : ByteArray) (p : Int) (fr : Nat) (l : List GF) : ∀ d i, (∀ j, i ≤ j → j < i + d → j < t.size ∧ nextB t j ≠ 44) → gfLoop t p (t.size + 1 - i) i fr l = gfLoop t p (t.size + 1 - (i + d)) (i + d) fr l := by
  intro d
  induction d with
  | zero => intro i _; rfl
  | succ d ih =>
    intro i h
    have h0 := h i (Nat.le_refl _) (by omega)
    have e : t.size + 1 - i = (t.size + 1 - (i + 1)) + 1 := by omega
    rw [e, gfLoop, if_pos h0, ih (i + 1) (fun j h1 h2 => h j (by omega) (by omega))]
    congr 1 <;> omega
theorem gf_at (t : ByteArray) (p : Int) (fr c : Nat) (l : List GF) (hc : c ≤ t.size) (h : c < t.size → nextB t c = 44) :
    gfLoop t p (t.size + 1 - c) c fr l = if fieldB (t.extract fr c) = false ∨ l.length = 6 then none else gfLoop t p (t.size + 1 - (c + 1)) (c + 1) (c + 1) (l ++ [⟨nextB (t.extract fr c) 0, nextB (t.extract fr c) 2, p + fr⟩]) := by
  have e : t.size + 1 - c = (t.size + 1 - (c + 1)) + 1 := by omega
  rw [e, gfLoop, if_neg (fun h' => h'.2 (h h'.1))]
theorem next_comma (t : ByteArray) : ∀ n fr, fr + n = t.size → ∃ c, fr ≤ c ∧ c ≤ t.size ∧ (∀ j, fr ≤ j → j < c → nextB t j ≠ 44) ∧ (c < t.size → nextB t c = 44) := by
  intro n
  induction n with
  | zero => intro fr h; exact ⟨fr, Nat.le_refl _, by omega, fun j h1 h2 => by omega, fun h' => by omega⟩
  | succ n ih =>
    intro fr h
    by_cases h0 : nextB t fr = 44
    · exact ⟨fr, Nat.le_refl _, by omega, fun j h1 h2 => by omega, fun _ => h0⟩
    · obtain ⟨c, h1, h2, h3, h4⟩ := ih (fr + 1) (by omega)
      refine ⟨c, by omega, h2, fun j hj1 hj2 => ?_, h4⟩
      rcases Nat.eq_or_lt_of_le hj1 with rfl | h'
      · exact h0
      · exact h3 j h' hj2
theorem gf_from (t : ByteArray) (p : Int) (fr c : Nat) (l : List GF) (h1 : fr ≤ c) (h2 : c ≤ t.size) (h3 : ∀ j, fr ≤ j → j < c → nextB t j ≠ 44) (h4 : c < t.size → nextB t c = 44) :
    gfLoop t p (t.size + 1 - fr) fr fr l = if fieldB (t.extract fr c) = false ∨ l.length = 6 then none else gfLoop t p (t.size + 1 - (c + 1)) (c + 1) (c + 1) (l ++ [⟨nextB (t.extract fr c) 0, nextB (t.extract fr c) 2, p + fr⟩]) := by
  have := gf_jump t p fr l (c - fr) fr (fun j a b => ⟨by omega, h3 j a (by omega)⟩)
  rw [this, show fr + (c - fr) = c by omega]
  exact gf_at t p fr c l h2 h4

theorem fieldB_iff (t : ByteArray) (fr c : Nat) (hc : c ≤ t.size) : fieldB (t.extract fr c) = true ↔ c = fr + 3 ∧ 97 ≤ nextB t fr ∧ nextB t fr ≤ 122 ∧ nextB t (fr + 1) = 58 ∧ isKindB (nextB t (fr + 2)) = true := by
  have hsz : (t.extract fr c).size = min c t.size - fr := ByteArray.size_extract
  simp only [fieldB, Bool.and_eq_true, decide_eq_true_eq, nextB_extract t fr c _ hc]
  constructor
  · rintro ⟨⟨⟨⟨h1, h2⟩, h3⟩, h4⟩, h5⟩
    have e : c = fr + 3 := by omega
    rw [if_pos (by omega)] at h2 h3 h4 h5
    exact ⟨e, h2, h3, h4, h5⟩
  · rintro ⟨rfl, h2, h3, h4, h5⟩
    rw [if_pos (by omega), if_pos (by omega), if_pos (by omega)]
    exact ⟨⟨⟨⟨by omega, h2⟩, h3⟩, h4⟩, h5⟩

/-- A field's pair as the program has it. -/
def gk (f : GF) : Int × Int := (f.n, f.k)

/-- The two loops over the fields of one class: it closes at m. -/
theorem fields_meet (s t : ByteArray) (a m : Nat) (hm : m < s.size) (hm125 : nextB s m = 125) (hno : ∀ j, a ≤ j → j < m → nextB s j ≠ 125) (ham : a ≤ m) (hts : t.size = m - a) (htn : ∀ j, j < t.size → nextB t j = nextB s (a + j)) (A : Int → Prop) :
    ∀ n fr l tw, l.length + n = 6 → 0 < n → fr ≤ t.size → Least (fun p => A p ∨ DF l p) tw → (∀ p, A p ∨ DF l p → p < (a + fr : Nat)) →
      ((rdLoop s n (l.map gk) (a + fr) tw).ok = false ∧ gfLoop t a (t.size + 1 - fr) fr fr l = none) ∨
      (∃ l', (rdLoop s n (l.map gk) (a + fr) tw).ok = true ∧ gfLoop t a (t.size + 1 - fr) fr fr l = some l' ∧ (rdLoop s n (l.map gk) (a + fr) tw).at_ = m + 1 ∧ (rdLoop s n (l.map gk) (a + fr) tw).fs = l'.map gk ∧
        Least (fun p => A p ∨ DF l' p) (rdLoop s n (l.map gk) (a + fr) tw).tw ∧ (∀ p, A p ∨ DF l' p → p < (m : Nat))) := by
  intro n
  induction n with
  | zero => intro fr l tw _ h; omega
  | succ n ih =>
    intro fr l tw hl _ hfr hL hB
    obtain ⟨c, c1, c2, c3, c4⟩ := next_comma t (t.size - fr) fr (by omega)
    have G := gf_from t a fr c l c1 c2 c3 c4
    have FB := fieldB_iff t fr c c2
    rw [rdLoop]
    by_cases h0 : (rdField s (l.map gk) (a + fr) tw).ok = false
    · rw [if_pos h0]
      refine .inl ⟨rfl, ?_⟩
      suffices hfalse : fieldB (t.extract fr c) = false by rw [G, if_pos (.inl hfalse)]
      cases hf : fieldB (t.extract fr c) with
      | false => rfl
      | true =>
        obtain ⟨rfl, f1, f2, f3, f4⟩ := FB.1 hf
        rw [htn fr (by omega)] at f1 f2
        rw [htn (fr + 1) (by omega)] at f3
        rw [htn (fr + 2) (by omega)] at f4
        rw [field_is s (l.map gk) (a + fr) tw f1 f2 (by rw [← f3]; congr 1) (by rw [← f4]; congr 2)] at h0
        cases h0
    rw [if_neg h0]
    obtain ⟨f1, f2, f3, f4, fe⟩ := field_at s (l.map gk) (a + fr) tw (by simpa using h0)
    rw [fe]
    simp only []
    have k1 : isKindB (nextB s (a + fr + 2)) = true := f4
    have kd := isKindB_pos f4
    have kne : nextB s (a + fr + 2) ≠ 125 ∧ nextB s (a + fr + 2) ≠ 44 := by
      constructor <;> (intro h; rw [h] at k1; simp [isKindB] at k1)
    have hq : a + fr + 3 ≤ m := by
      rcases Nat.lt_or_ge m (a + fr + 3) with h | h
      · have hm' : a + fr ≤ m := by omega
        have : m = a + fr ∨ m = a + fr + 1 ∨ m = a + fr + 2 := by omega
        rcases this with rfl | rfl | rfl
        · omega
        · omega
        · exact absurd hm125 kne.1
      · exact h
    have t0 : nextB t fr = nextB s (a + fr) := htn fr (by omega)
    have t1 : nextB t (fr + 1) = nextB s (a + fr + 1) := htn (fr + 1) (by omega)
    have t2 : nextB t (fr + 2) = nextB s (a + fr + 2) := htn (fr + 2) (by omega)
    have hc3 : fr + 3 ≤ c := by
      rcases Nat.lt_or_ge c (fr + 3) with h | h
      · have hct : c < t.size := by omega
        have := c4 hct
        have h' : c = fr ∨ c = fr + 1 ∨ c = fr + 2 := by omega
        rcases h' with rfl | rfl | rfl
        · omega
        · omega
        · rw [t2] at this; exact absurd this kne.2
      · exact h
    have hstep : Least (fun p => A p ∨ DF (l ++ [⟨nextB s (a + fr), nextB s (a + fr + 2), ((a + fr : Nat) : Int)⟩]) p) (if 0 ≤ idxF (l.map gk) (nextB s (a + fr)) then noteI tw (a + fr) else tw) := by
      refine (hL.noteIf (c := 0 ≤ idxF (l.map gk) (nextB s (a + fr))) hB).congr fun p => ?_
      rw [DF_snoc, idxF_iff]
      simp only [List.mem_map, gk]
      constructor
      · rintro ((h | h) | ⟨⟨_, ⟨g, hg, rfl⟩, h1⟩, h2⟩)
        · exact .inl h
        · exact .inr (.inl h)
        · exact .inr (.inr ⟨⟨g, hg, h1⟩, h2⟩)
      · rintro (h | h | ⟨⟨g, hg, h1⟩, h2⟩)
        · exact .inl (.inl h)
        · exact .inl (.inr h)
        · exact .inr ⟨⟨_, ⟨g, hg, rfl⟩, h1⟩, h2⟩
    have hB' : ∀ p, A p ∨ DF (l ++ [⟨nextB s (a + fr), nextB s (a + fr + 2), ((a + fr : Nat) : Int)⟩]) p → p < (a + fr + 1 : Nat) := by
      intro p hp
      rw [DF_snoc] at hp
      rcases hp with h | h | ⟨_, h⟩
      · have := hB p (.inl h); omega
      · have := hB p (.inr h); omega
      · simp only at h; omega
    have hl6 : ¬ l.length = 6 := by omega
    by_cases h125 : nextB s (a + fr + 3) = 125
    · have hme : a + fr + 3 = m := by
        rcases Nat.lt_or_ge (a + fr + 3) m with h | h
        · exact absurd h125 (hno _ (by omega) h)
        · omega
      have hce : c = fr + 3 := by omega
      subst hce
      have hfb : fieldB (t.extract fr (fr + 3)) = true := FB.2 ⟨rfl, by rw [t0]; exact f1, by rw [t0]; exact f2, by rw [t1]; exact f3, by rw [t2]; exact f4⟩
      rw [if_pos h125]
      refine .inr ⟨l ++ [⟨nextB s (a + fr), nextB s (a + fr + 2), ((a + fr : Nat) : Int)⟩], rfl, ?_, by simp only []; omega, by simp [gk], hstep, fun p hp => by have := hB' p hp; omega⟩
      rw [G, if_neg (by rw [hfb]; simp [hl6])]
      have : t.size + 1 - (fr + 3 + 1) = 0 := by omega
      rw [this, gfLoop, nextB_extract t fr (fr + 3) 0 c2, nextB_extract t fr (fr + 3) 2 c2, if_pos (by omega), if_pos (by omega)]
      simp only [Nat.add_zero, t0, t2]
      simp
    rw [if_neg h125]
    have hmlt : a + fr + 3 < m := by
      rcases Nat.lt_or_ge (a + fr + 3) m with h | h
      · exact h
      · have : a + fr + 3 = m := by omega
        rw [this] at h125; exact absurd hm125 h125
    have t3 : nextB t (fr + 3) = nextB s (a + fr + 3) := htn (fr + 3) (by omega)
    by_cases h44 : nextB s (a + fr + 3) = 44
    · have hce : c = fr + 3 := by
        rcases Nat.lt_or_ge (fr + 3) c with h | h
        · exact absurd (by rw [t3]; exact h44) (c3 (fr + 3) (by omega) h)
        · omega
      subst hce
      have hfb : fieldB (t.extract fr (fr + 3)) = true := FB.2 ⟨rfl, by rw [t0]; exact f1, by rw [t0]; exact f2, by rw [t1]; exact f3, by rw [t2]; exact f4⟩
      rw [if_neg (show ¬ (fieldB (t.extract fr (fr + 3)) = false ∨ l.length = 6) by rw [hfb]; simp [hl6]), nextB_extract t fr (fr + 3) 0 c2, nextB_extract t fr (fr + 3) 2 c2, if_pos (by omega), if_pos (by omega)] at G
      simp only [Nat.add_zero, t0, t2] at G
      rw [G]
      have hcast : (a : Int) + (fr : Int) = ((a + fr : Nat) : Int) := by omega
      rw [hcast]
      by_cases h5 : l.length = 5
      · simp only [List.length_map]
        rw [if_pos (.inl h5)]
        refine .inl ⟨rfl, ?_⟩
        obtain ⟨d, d1, d2, d3, d4⟩ := next_comma t (t.size - (fr + 3 + 1)) (fr + 3 + 1) (by omega)
        rw [gf_from t a (fr + 3 + 1) d _ d1 d2 d3 d4, if_pos (.inr (by simp; omega))]
      · simp only [List.length_map]
        rw [if_neg (by simp [h5, h44])]
        have := ih (fr + 3 + 1) (l ++ [⟨nextB s (a + fr), nextB s (a + fr + 2), ((a + fr : Nat) : Int)⟩]) _ (by simp; omega) (by omega) (by omega) hstep (fun p hp => by have := hB' p hp; omega)
        rw [show a + (fr + 3 + 1) = a + fr + 3 + 1 by omega] at this
        simpa [gk] using this
    · simp only [List.length_map]
      rw [if_pos (.inr h44)]
      refine .inl ⟨rfl, ?_⟩
      suffices hfalse : fieldB (t.extract fr c) = false by rw [G, if_pos (.inl hfalse)]
      cases hf : fieldB (t.extract fr c) with
      | false => rfl
      | true =>
        obtain ⟨hce, _⟩ := FB.1 hf
        subst hce
        have := c4 (by omega)
        rw [t3] at this
        exact absurd this h44
end Go.Proofs.YthckelcjncnalaaDoor
