import Derived.Test.YthckelcjncnalaaDoorFz36
namespace Go.Proofs.YthckelcjncnalaaDoor
open Go.RowKit

theorem class_meet (s : ByteArray) (k m : Nat) (hm : m < s.size) (hkm : k ≤ m) (hm125 : nextB s m = 125) (hno : ∀ j, k ≤ j → j < m → nextB s j ≠ 125) (cs : List GC) (tw : Int) (hL : Least (Rep cs) tw) (hB : ∀ p, Rep cs p → p < (k : Nat)) :
    ((rdClass s (cs.map (·.n)) k tw).ok = false ∧ gfClass (s.extract k m) k = none) ∨
    (∃ r : Int × List GF, (rdClass s (cs.map (·.n)) k tw).ok = true ∧ gfClass (s.extract k m) k = some r ∧ (rdClass s (cs.map (·.n)) k tw).at_ = m + 1 ∧ (rdClass s (cs.map (·.n)) k tw).l = r.1 ∧ (rdClass s (cs.map (·.n)) k tw).fs = r.2.map gk ∧
      Least (Rep (cs ++ [⟨r.1, k, r.2⟩])) (rdClass s (cs.map (·.n)) k tw).tw ∧ (∀ p, Rep (cs ++ [⟨r.1, k, r.2⟩]) p → p < (m : Nat))) := by
  have hu0 := nextB_extract s k m 0 (by omega)
  have hu1 := nextB_extract s k m 1 (by omega)
  simp only [Nat.add_zero] at hu0
  simp only [rdClass]
  by_cases h0 : nextB s k < 65 ∨ 90 < nextB s k
  · rw [if_pos h0]
    refine .inl ⟨rfl, gfClass_letter ?_⟩
    rintro ⟨h1, h2⟩
    rw [hu0] at h1 h2
    split at h1 <;> simp_all <;> omega
  rw [if_neg h0]
  have hk : k < m := by
    rcases Nat.eq_or_lt_of_le hkm with rfl | h
    · omega
    · exact h
  rw [if_pos hk] at hu0
  by_cases h1 : nextB s (k + 1) = 123
  · rw [if_pos h1]
    have hk1 : k + 1 < m := by
      rcases Nat.lt_or_ge (k + 1) m with h | h
      · exact h
      · have : k + 1 = m := by omega
        rw [this] at h1; omega
    rw [if_pos hk1] at hu1
    have hA : Least (fun p => Rep cs p ∨ ((∃ g ∈ cs, g.n = nextB s k) ∧ p = k)) (if (cs.map (·.n)).any (fun p => p == nextB s k) = true then noteI tw k else tw) := by
      refine (hL.noteIf (c := (cs.map (·.n)).any (fun p => p == nextB s k) = true) hB).congr fun p => ?_
      simp [List.any_eq_true]
    have hAB : ∀ p, (Rep cs p ∨ ((∃ g ∈ cs, g.n = nextB s k) ∧ p = k)) → p < (k + 2 : Nat) := by
      rintro p (h | ⟨_, h⟩)
      · have := hB p h; omega
      · omega
    generalize (if (cs.map (·.n)).any (fun p => p == nextB s k) = true then noteI tw k else tw) = tw1 at hA ⊢
    have hus : (s.extract k m).size = m - k := by have : (s.extract k m).size = min m s.size - k := ByteArray.size_extract; omega
    have hts : ((s.extract k m).extract 2 (s.extract k m).size).size = m - (k + 2) := by
      have : ((s.extract k m).extract 2 (s.extract k m).size).size = min (s.extract k m).size (s.extract k m).size - 2 := ByteArray.size_extract
      omega
    have htn : ∀ j, j < ((s.extract k m).extract 2 (s.extract k m).size).size → nextB ((s.extract k m).extract 2 (s.extract k m).size) j = nextB s (k + 2 + j) := by
      intro j hj
      rw [nextB_extract (s.extract k m) 2 (s.extract k m).size j (Nat.le_refl _), if_pos (by omega), nextB_extract s k m (2 + j) (by omega), if_pos (by omega), show k + (2 + j) = k + 2 + j by omega]
    have hG : gfClass (s.extract k m) k = (gfFields ((s.extract k m).extract 2 (s.extract k m).size) ((k + 2 : Nat) : Int)).map (fun l => (nextB s k, l)) := by
      simp only [gfClass]
      rw [if_pos ⟨by rw [hu0]; omega, by rw [hu0]; omega, by rw [hu1]; exact h1⟩, hu0, show ((k : Int) + 1 + 1) = ((k + 2 : Nat) : Int) by omega]
    generalize (s.extract k m).extract 2 (s.extract k m).size = t at hts htn hG
    rw [hG]
    by_cases h2 : nextB s (k + 2) = 125
    · have hme : k + 2 = m := by
        rcases Nat.lt_or_ge (k + 2) m with h | h
        · exact absurd h2 (hno _ (by omega) h)
        · omega
      have e1 : rdFields s (k + 2) tw1 = ⟨true, k + 2 + 1, tw1, []⟩ := by simp only [rdFields]; rw [if_pos h2]
      rw [e1, if_pos rfl]
      have e : gfFields t ((k + 2 : Nat) : Int) = some [] := by simp only [gfFields]; rw [if_pos (by omega)]
      rw [e]
      refine .inr ⟨(nextB s k, []), rfl, rfl, by simp only []; omega, rfl, rfl, hA.congr fun p => ?_, fun p hp => ?_⟩
      · rw [Rep_snoc]; simp [DF_nil]
      · rw [Rep_snoc] at hp
        rcases hp with hp | hp
        · have := hAB p (by simpa using hp); omega
        · exact absurd hp (DF_nil p)
    · have hmlt : k + 2 < m := by
        rcases Nat.lt_or_ge (k + 2) m with h | h
        · exact h
        · have : k + 2 = m := by omega
          rw [this] at h2; exact absurd hm125 h2
      have e1 : rdFields s (k + 2) tw1 = rdLoop s 6 [] (k + 2) tw1 := by simp only [rdFields]; rw [if_neg h2]
      rw [e1]
      have e : gfFields t ((k + 2 : Nat) : Int) = gfLoop t ((k + 2 : Nat) : Int) (t.size + 1) 0 0 [] := by simp only [gfFields]; rw [if_neg (by omega)]
      rw [e]
      have M := fields_meet s t (k + 2) m hm hm125 (fun j h1 h2 => hno j (by omega) h2) (by omega) hts htn (fun p => Rep cs p ∨ ((∃ g ∈ cs, g.n = nextB s k) ∧ p = k)) 6 0 [] tw1 rfl (by omega) (Nat.zero_le _)
        (hA.congr fun p => by simp [DF_nil]) (fun p hp => by rcases hp with hp | hp; exact hAB p hp; exact absurd hp (DF_nil p))
      simp only [Nat.add_zero, List.map_nil, Nat.sub_zero] at M
      rcases M with ⟨m1, m2⟩ | ⟨l', m1, m2, m3, m4, m5, m6⟩
      · rw [m2, if_neg (by rw [m1]; simp)]
        exact .inl ⟨rfl, rfl⟩
      · rw [m2, if_pos m1]
        refine .inr ⟨(nextB s k, l'), rfl, rfl, m3, rfl, m4, m5.congr fun p => ?_, fun p hp => ?_⟩
        · rw [Rep_snoc]
        · rw [Rep_snoc] at hp; exact m6 p hp
  · rw [if_neg h1]
    refine .inl ⟨rfl, ?_⟩
    simp only [gfClass]
    rw [if_neg]
    rintro ⟨_, _, h3⟩
    rw [hu1] at h3
    split at h3
    · exact h1 h3
    · omega

theorem ga_jump (s : ByteArray) (fr : Nat) (l : List GC) : ∀ d i, (∀ j, i ≤ j → j < i + d → j < s.size ∧ nextB s j ≠ 125) → gaLoop s (s.size - i) i fr l = gaLoop s (s.size - (i + d)) (i + d) fr l := by
  intro d
  induction d with
  | zero => intro i _; rfl
  | succ d ih =>
    intro i h
    have h0 := h i (Nat.le_refl _) (by omega)
    have e : s.size - i = (s.size - (i + 1)) + 1 := by omega
    rw [e, gaLoop, if_neg h0.2, ih (i + 1) (fun j h1 h2 => h j (by omega) (by omega))]
    congr 1 <;> omega
theorem next_brace (s : ByteArray) : ∀ n k, k + n = s.size → (∃ m, k ≤ m ∧ m < s.size ∧ nextB s m = 125 ∧ ∀ j, k ≤ j → j < m → nextB s j ≠ 125) ∨ (∀ j, k ≤ j → nextB s j ≠ 125) := by
  intro n
  induction n with
  | zero => intro k h; exact .inr fun j hj => by rw [nextB_out (by omega)]; omega
  | succ n ih =>
    intro k h
    by_cases h0 : nextB s k = 125
    · exact .inl ⟨k, Nat.le_refl _, by omega, h0, fun j h1 h2 => by omega⟩
    · rcases ih (k + 1) (by omega) with ⟨m, h1, h2, h3, h4⟩ | h1
      · refine .inl ⟨m, by omega, h2, h3, fun j hj1 hj2 => ?_⟩
        rcases Nat.eq_or_lt_of_le hj1 with rfl | h'
        · exact h0
        · exact h4 j h' hj2
      · refine .inr fun j hj => ?_
        rcases Nat.eq_or_lt_of_le hj with rfl | h'
        · exact h0
        · exact h1 j h'
theorem ga_none (s : ByteArray) (k : Nat) (l : List GC) (hk : k ≤ s.size) (h : ∀ j, k ≤ j → nextB s j ≠ 125) : gaLoop s (s.size - k) k k l = some (l, k) := by
  have := ga_jump s k l (s.size - k) k (fun j h1 h2 => ⟨by omega, h j h1⟩)
  rw [this, show s.size - (k + (s.size - k)) = 0 by omega, gaLoop]
theorem ga_at (s : ByteArray) (k m : Nat) (l : List GC) (hkm : k ≤ m) (hm : m < s.size) (h125 : nextB s m = 125) (h : ∀ j, k ≤ j → j < m → nextB s j ≠ 125) :
    gaLoop s (s.size - k) k k l = match gfClass (s.extract k m) k with
      | none => none
      | some r => if l.length = 6 then none else gaLoop s (s.size - (m + 1)) (m + 1) (m + 1) (l ++ [⟨r.1, k, r.2⟩]) := by
  have := ga_jump s k l (m - k) k (fun j h1 h2 => ⟨by omega, h j h1 (by omega)⟩)
  rw [this, show k + (m - k) = m by omega, show s.size - m = (s.size - (m + 1)) + 1 by omega, gaLoop, if_pos h125]
  cases gfClass (s.extract k m) k <;> rfl

def gaFin (s : ByteArray) : Option (List GC × Nat) → Option (List GC)
  | none => none
  | some r => if 0 < r.1.length ∧ r.2 = s.size then some r.1 else none
theorem gaAll_fin (s : ByteArray) : gaAll s = gaFin s (gaLoop s s.size 0 0 []) := by
  simp only [gaAll]
  cases gaLoop s s.size 0 0 [] <;> rfl

def gcl (c : GC) : Int × List (Int × Int) := (c.n, c.l.map gk)

theorem all_meet (s : ByteArray) : ∀ n cs k tw, cs.length + n = 6 → (k < s.size ∨ cs = []) → k ≤ s.size → Least (Rep cs) tw → (∀ p, Rep cs p → p < (k : Nat)) →
    ((rcLoop s n (cs.map gcl) k tw).ok = false ∧ gaFin s (gaLoop s (s.size - k) k k cs) = none) ∨
    (∃ cs', (rcLoop s n (cs.map gcl) k tw).ok = true ∧ gaFin s (gaLoop s (s.size - k) k k cs) = some cs' ∧ (rcLoop s n (cs.map gcl) k tw).cs = cs'.map gcl ∧ Least (Rep cs') (rcLoop s n (cs.map gcl) k tw).tw) := by
  intro n
  induction n with
  | zero =>
    intro cs k tw hl hk hks _ _
    have hk' : k < s.size := by
      rcases hk with h | h
      · exact h
      · subst h; simp at hl
    refine .inl ⟨rfl, ?_⟩
    rcases next_brace s (s.size - k) k (by omega) with ⟨m, h1, h2, h3, h4⟩ | h1
    · rw [ga_at s k m cs h1 h2 h3 h4]
      cases gfClass (s.extract k m) k with
      | none => rfl
      | some r => simp only []; rw [if_pos (by omega)]; rfl
    · rw [ga_none s k cs hks h1]
      simp only [gaFin]
      rw [if_neg (by omega)]
  | succ n ih =>
    intro cs k tw hl hk hks hL hB
    have hmap : (cs.map gcl).map (·.1) = cs.map (·.n) := by simp [gcl, Function.comp_def]
    rw [rcLoop, hmap]
    rcases next_brace s (s.size - k) k (by omega) with ⟨m, h1, h2, h3, h4⟩ | h1
    · have C := class_meet s k m h2 h1 h3 h4 cs tw hL hB
      generalize rdClass s (cs.map (·.n)) k tw = r at C ⊢
      rw [ga_at s k m cs h1 h2 h3 h4]
      rcases C with ⟨c1, c2⟩ | ⟨g, c1, c2, c3, c4, c5, c6, c7⟩
      · rw [c2, if_pos c1]; exact .inl ⟨rfl, rfl⟩
      · rw [c2, if_neg (by rw [c1]; simp)]
        simp only []
        rw [if_neg (show ¬ cs.length = 6 by omega), c3, c4, c5]
        by_cases he : m + 1 = s.size
        · rw [if_pos he]
          refine .inr ⟨cs ++ [⟨g.1, k, g.2⟩], rfl, ?_, by simp [gcl], c6⟩
          rw [show s.size - (m + 1) = 0 by omega, gaLoop]
          simp only [gaFin]
          rw [if_pos ⟨by simp, he⟩]
        · rw [if_neg he]
          have := ih (cs ++ [⟨g.1, k, g.2⟩]) (m + 1) r.tw (by simp; omega) (.inl (by omega)) (by omega) c6 (fun p hp => by have := c7 p hp; omega)
          simpa [gcl] using this
    · have hf : (rdClass s (cs.map (·.n)) k tw).ok = false := by
        cases h : (rdClass s (cs.map (·.n)) k tw).ok with
        | false => rfl
        | true =>
          obtain ⟨j, j1, _, j3, _⟩ := class_end s _ k tw h
          exact absurd j3 (h1 j j1)
      rw [if_pos hf, ga_none s k cs hks h1]
      refine .inl ⟨rfl, ?_⟩
      simp only [gaFin]
      rw [if_neg]
      rintro ⟨h2, h3⟩
      rcases hk with h | h
      · omega
      · subst h; simp at h2

/-- Program and reference read the same. -/
theorem read_meet (s : ByteArray) : ((readR s).ok = false ∧ gaAll s = none) ∨ (∃ cs, (readR s).ok = true ∧ gaAll s = some cs ∧ (readR s).cs = cs.map gcl ∧ Least (Rep cs) (readR s).tw) := by
  have := all_meet s 6 [] 0 (-1) rfl (.inr rfl) (Nat.zero_le _) (.inl ⟨rfl, fun p => Rep_nil p⟩) (fun p hp => absurd hp (Rep_nil p))
  simp only [Nat.sub_zero, List.map_nil] at this
  rw [gaAll_fin]
  exact this

theorem ga_accepts (s : ByteArray) : (gaAll s).isSome = true ↔ accepts s := by
  rw [← (read_accepts s).1]
  rcases read_meet s with ⟨h1, h2⟩ | ⟨cs, h1, h2, _⟩ <;> rw [h1, h2] <;> simp

theorem begins_iff (p : ByteArray) : beginsB p = true ↔ (dr p 0 (.q0 0)).1 = p.size := by
  constructor
  · intro h
    have h' : begin1 p ∨ begin2 p := by
      by_cases h1 : begin1 p
      · exact .inl h1
      · by_cases h2 : begin2 p
        · exact .inr h2
        · rw [begins_no h1 h2] at h; cases h
    rcases h' with ⟨j, _, h⟩ | ⟨j, _, h | h⟩
    · exact ahead_of_accepts ((ga_accepts _).1 h)
    · exact ahead_of_accepts ((ga_accepts _).1 h)
    · rw [ByteArray.append_assoc] at h
      exact ahead_of_accepts ((ga_accepts _).1 h)
  · intro h
    obtain ⟨j, hj, ha⟩ := begins_of_ahead h
    exact begins_1 ⟨j, hj, (ga_accepts _).2 ha⟩

theorem ahead_goes (s : ByteArray) (i : Nat) (hi : i ≤ s.size) : (dr (s.extract 0 i) 0 (.q0 0)).1 = (s.extract 0 i).size ↔ i ≤ (dr s 0 (.q0 0)).1 := by
  have hsz : (s.extract 0 i).size = i := by have : (s.extract 0 i).size = min i s.size - 0 := ByteArray.size_extract; omega
  have A := dr_agree (s.extract 0 i) s (by omega) (fun j hj => by rw [nextB_extract s 0 i j hi, if_pos (by omega), Nat.zero_add]) (.q0 0)
  rw [hsz] at A ⊢
  by_cases h : (dr (s.extract 0 i) 0 (.q0 0)).1 < i
  · rw [A.1 h]
    omega
  · have := A.2 h
    have g := dr_ge s i (dr (s.extract 0 i) 0 (.q0 0)).2 hi
    rw [this.1]
    omega

theorem wrong_is (s : ByteArray) : ∀ n i, i + n = s.size → i ≤ (dr s 0 (.q0 0)).1 → wrongN s n i = (dr s 0 (.q0 0)).1 := by
  intro n
  induction n with
  | zero =>
    intro i hi h
    have := (dr_ge s 0 (.q0 0) (Nat.zero_le _)).2
    rw [wrongN]; omega
  | succ n ih =>
    intro i hi h
    rw [wrongN]
    have P := ahead_goes s (i + 1) (by omega)
    rw [← begins_iff] at P
    by_cases hb : beginsB (s.extract 0 (i + 1)) = true
    · rw [if_pos hb]
      exact ih (i + 1) (by omega) (P.1 hb)
    · rw [if_neg hb]
      have : ¬ i + 1 ≤ (dr s 0 (.q0 0)).1 := fun h' => hb (P.2 h')
      omega

theorem least_unique {V : Int → Prop} {a b : Int} (h : Least V a) (h' : Least V b) : a = b := by
  rcases h with ⟨h1, h2⟩ | ⟨h1, h2, h3⟩ <;> rcases h' with ⟨g1, g2⟩ | ⟨g1, g2, g3⟩
  · omega
  · exact absurd g2 (h2 b)
  · exact absurd h2 (g2 a)
  · have := h3 b g2; have := g3 a h2; omega

/-- What Schema answers is what Read answers. -/
theorem agree (s : ByteArray) (E P : Int) (h : SchemaR s E P) : E = readE s ∧ P = readP s := by
  simp only [readE, readP]
  rcases h with ⟨h, rfl, rfl⟩ | ⟨h, hn, rfl, rfl⟩ | ⟨h, cs, b, hs, hL, hb⟩
  · rw [if_pos h, if_pos h]; exact ⟨rfl, rfl⟩
  · rw [if_neg h, if_neg h]
    rcases read_meet s with ⟨h1, _⟩ | ⟨cs, _, h2, _⟩
    · rw [if_pos h1, if_pos h1, (read_accepts s).2 h1, wrong_is s s.size 0 (by omega) (Nat.zero_le _)]
      exact ⟨rfl, rfl⟩
    · rw [hn] at h2; cases h2
  · rw [if_neg h, if_neg h]
    rcases read_meet s with ⟨_, h2⟩ | ⟨cs', h1, h2, _, h4⟩
    · rw [hs] at h2; cases h2
    · rw [hs] at h2
      injection h2 with h2
      subst h2
      have e := least_unique hL h4
      have hne : ¬ (readR s).ok = false := by rw [h1]; simp
      rw [if_neg hne, if_neg hne, ← e]
      rcases hb with ⟨h0, rfl, rfl⟩ | ⟨h0, rfl, rfl⟩
      · rw [if_neg (by omega), if_neg (by omega)]; exact ⟨rfl, rfl⟩
      · have hm : b = -1 := by
          rcases hL with ⟨h, _⟩ | ⟨h, _⟩
          · exact h
          · omega
        rw [if_pos hm, if_pos hm]; exact ⟨rfl, rfl⟩
end Go.Proofs.YthckelcjncnalaaDoor
