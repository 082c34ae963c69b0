import Derived.Test.YtbgilndohccicabMz16
namespace Go.Proofs.Ytbgilndohccicab
open Go.RowKit

/-- The first place noted stays. -/
def cmb (tw : Int) (o : Option Int) : Int := if tw = -1 then o.getD (-1) else tw
theorem cmb_none (tw : Int) : cmb tw none = tw := by unfold cmb; split <;> simp_all
theorem idx_any (fs : List (Int × Int)) (x : Int) : (0 ≤ idxF fs x) ↔ (fs.map (·.1)).any (fun p => p == x) = true := by
  unfold idxF
  cases h : fs.findIdx? (fun p => p.1 == x) with
  | none =>
    rw [List.findIdx?_eq_none_iff] at h
    simp only [List.any_map, List.any_eq_true]
    constructor
    · intro h'; omega
    · rintro ⟨p, hp, h2⟩; have := h p hp; simp at this h2; exact absurd h2 this
  | some i =>
    rw [List.findIdx?_eq_some_iff_getElem] at h
    obtain ⟨hi, h1, _⟩ := h
    simp only [List.any_map, List.any_eq_true]
    exact ⟨fun _ => ⟨fs[i], List.getElem_mem hi, h1⟩, fun _ => by omega⟩
theorem map_schF (gfs : List GFd) : (gfs.map schF).map (·.1) = gfs.map (·.l) := by simp [schF, Function.comp_def]

theorem ntf : ¬ (true = false) := by decide
theorem nft : ¬ (false = true) := by decide
theorem field_ok (s : ByteArray) (fs : List (Int × Int)) (k : Nat) (tw : Int) : (rdField s fs k tw).ok = (gdField noRule s k).ok ∧ (rdField s fs k tw).at_ = (gdField noRule s k).at_ := by
  unfold rdField gdField
  by_cases h1 : nextB s k < 97 ∨ 122 < nextB s k
  · have c1 : (decide (97 ≤ nextB s k) && decide (nextB s k ≤ 122)) = false := by simp; omega
    rw [if_pos h1, if_pos c1]; exact ⟨rfl, rfl⟩
  · have c1 : ¬ (decide (97 ≤ nextB s k) && decide (nextB s k ≤ 122)) = false := by simp; omega
    rw [if_neg h1, if_neg c1]
    by_cases h2 : nextB s (k + 1) = 58
    · have c2 : ¬ (nextB s (k + 1) == 58) = false := by simp [h2]
      rw [if_pos h2, if_neg c2]
      cases h3 : isKindB (nextB s (k + 2)) with
      | true =>
        have c4 : ¬ (noRule s (k + 1 + 1 + 1)).ok = false := by simp [noRule]
        rw [if_pos rfl, if_neg ntf, if_neg c4]; exact ⟨rfl, rfl⟩
      | false =>
        rw [if_neg nft, if_pos rfl]; exact ⟨rfl, rfl⟩
    · have c2 : (nextB s (k + 1) == 58) = false := by simpa using h2
      rw [if_neg h2, if_pos c2]; exact ⟨rfl, rfl⟩
theorem field_val (s : ByteArray) (fs : List (Int × Int)) (k : Nat) (tw : Int) (h : (gdField noRule s k).ok = true) :
    ((rdField s fs k tw).l, (rdField s fs k tw).kd) = schF (gdField noRule s k).f ∧ (gdField noRule s k).f.p = k ∧ (rdField s fs k tw).tw = if (fs.map (·.1)).any (fun p => p == (gdField noRule s k).f.l) = true then noteI tw k else tw := by
  have e1 : ¬ (nextB s k < 97 ∨ 122 < nextB s k) := by
    intro h1
    have c1 : (decide (97 ≤ nextB s k) && decide (nextB s k ≤ 122)) = false := by simp; omega
    unfold gdField at h; rw [if_pos c1] at h; simp at h
  have c1 : ¬ (decide (97 ≤ nextB s k) && decide (nextB s k ≤ 122)) = false := by simp; omega
  have e2 : nextB s (k + 1) = 58 := by
    by_cases h2 : nextB s (k + 1) = 58
    · exact h2
    · have c2 : (nextB s (k + 1) == 58) = false := by simpa using h2
      unfold gdField at h; rw [if_neg c1, if_pos c2] at h; simp at h
  have c2 : ¬ (nextB s (k + 1) == 58) = false := by simp [e2]
  have e3 : isKindB (nextB s (k + 1 + 1)) = true := by
    cases h3 : isKindB (nextB s (k + 1 + 1)) with
    | true => rfl
    | false => unfold gdField at h; rw [if_neg c1, if_neg c2, if_pos h3] at h; simp at h
  have c3 : ¬ isKindB (nextB s (k + 1 + 1)) = false := by simp [e3]
  have c4 : ¬ (noRule s (k + 1 + 1 + 1)).ok = false := by simp [noRule]
  have eg : gdField noRule s k = ⟨true, k + 1 + 1 + 1, ⟨nextB s k, k, nextB s (k + 1 + 1), [], 0, false⟩⟩ := by
    unfold gdField; rw [if_neg c1, if_neg c2, if_neg c3, if_neg c4]; rfl
  have er : rdField s fs k tw = ⟨true, k + 3, if 0 ≤ idxF fs (nextB s k) then noteI tw k else tw, nextB s k, nextB s (k + 2)⟩ := by
    unfold rdField; rw [if_neg e1, if_pos e2, if_pos e3]
  rw [eg, er]
  refine ⟨rfl, rfl, ?_⟩
  by_cases hi : 0 ≤ idxF fs (nextB s k)
  · rw [if_pos ((idx_any _ _).1 hi)]; simp only [if_pos hi]
  · rw [if_neg (fun h => hi ((idx_any _ _).2 h))]; simp only [if_neg hi]

/-- Places of what is read are no -1. -/
def okP (fs : List GFd) : Prop := ∀ f ∈ fs, 0 ≤ f.p
theorem twFs_pos {pre : List Int} {fs : List GFd} {p : Int} (h : twFs pre fs = some p) (hp : okP fs) : 0 ≤ p := by
  induction fs generalizing pre with
  | nil => simp [twFs] at h
  | cons f r ih =>
    rw [twFs] at h
    split at h
    · cases h; exact hp f (by simp)
    · exact ih h (fun g hg => hp g (by simp [hg]))
theorem cmb_step {tw : Int} {k : Nat} {pre : List Int} {f : GFd} {r : List GFd} (hp : f.p = k) : cmb (if pre.any (fun p => p == f.l) = true then noteI tw k else tw) (twFs (pre ++ [f.l]) r) = cmb tw (twFs pre (f :: r)) := by
  rw [twFs]
  by_cases ha : pre.any (fun p => p == f.l) = true
  · rw [if_pos ha, if_pos ha]
    unfold noteI cmb
    by_cases ht : tw = -1
    · simp only [ht, if_true]; rw [if_neg (by omega), hp]; rfl
    · rw [if_neg ht, if_neg ht, if_neg ht]
  · rw [if_neg ha, if_neg ha]

theorem loop_meet (s : ByteArray) (n : Nat) : ∀ (gfs : List GFd) (k : Nat) (tw : Int),
    (rdLoop s n (gfs.map schF) k tw).ok = (gdLoop noRule s n gfs k).ok ∧ (rdLoop s n (gfs.map schF) k tw).at_ = (gdLoop noRule s n gfs k).at_ ∧
    ((gdLoop noRule s n gfs k).ok = true → ∃ new, (gdLoop noRule s n gfs k).fs = gfs ++ new ∧ okP new ∧ (rdLoop s n (gfs.map schF) k tw).fs = (gfs ++ new).map schF ∧ (rdLoop s n (gfs.map schF) k tw).tw = cmb tw (twFs (gfs.map (·.l)) new) ∧ gfs.length + new.length ≤ gfs.length + n) := by
  induction n with
  | zero => intro gfs k tw; exact ⟨rfl, rfl, fun h => by simp [gdLoop] at h⟩
  | succ n ih =>
    intro gfs k tw
    obtain ⟨h1, h2⟩ := field_ok s (gfs.map schF) k tw
    rw [rdLoop, gdLoop, h1, h2]
    cases hok : (gdField noRule s k).ok with
    | false => exact ⟨rfl, rfl, fun h => by simp at h⟩
    | true =>
      obtain ⟨v1, v2, v3⟩ := field_val s (gfs.map schF) k tw hok
      rw [map_schF] at v3
      rw [if_neg ntf, if_neg ntf]
      have eapp : gfs.map schF ++ [((rdField s (gfs.map schF) k tw).l, (rdField s (gfs.map schF) k tw).kd)] = (gfs ++ [(gdField noRule s k).f]).map schF := by rw [v1]; simp
      rw [eapp]
      have hp1 : okP [(gdField noRule s k).f] := fun f hf => by simp at hf; subst hf; omega
      by_cases h125 : nextB s (gdField noRule s k).at_ = 125
      · rw [if_pos h125, if_pos h125]
        refine ⟨rfl, rfl, fun _ => ⟨[(gdField noRule s k).f], rfl, hp1, rfl, ?_, by simp⟩⟩
        show (rdField s (gfs.map schF) k tw).tw = _
        rw [v3, ← cmb_step (pre := gfs.map (·.l)) (r := []) v2]
        simp only [twFs, cmb_none]
      · rw [if_neg h125, if_neg h125, List.length_map]
        by_cases h5 : gfs.length = 5 ∨ nextB s (gdField noRule s k).at_ ≠ 44
        · rw [if_pos h5, if_pos h5]; exact ⟨rfl, rfl, fun h => by simp at h⟩
        · rw [if_neg h5, if_neg h5]
          obtain ⟨i1, i2, i3⟩ := ih (gfs ++ [(gdField noRule s k).f]) ((gdField noRule s k).at_ + 1) (rdField s (gfs.map schF) k tw).tw
          refine ⟨i1, i2, fun h => ?_⟩
          obtain ⟨new, j1, j2, j3, j4, j5⟩ := i3 h
          refine ⟨(gdField noRule s k).f :: new, by rw [j1]; simp, ?_, by rw [j3]; simp, ?_, by simp at j5 ⊢; omega⟩
          · intro f hf
            rcases List.mem_cons.1 hf with rfl | hf
            · omega
            · exact j2 f hf
          · rw [j4, v3, List.map_append, List.map_cons, List.map_nil, cmb_step v2]
theorem gfields_meet (s : ByteArray) (k : Nat) (tw : Int) :
    (rdFields s k tw).ok = (gdFields noRule s k).ok ∧ (rdFields s k tw).at_ = (gdFields noRule s k).at_ ∧
    ((gdFields noRule s k).ok = true → okP (gdFields noRule s k).fs ∧ (rdFields s k tw).fs = (gdFields noRule s k).fs.map schF ∧ (rdFields s k tw).tw = cmb tw (twFs [] (gdFields noRule s k).fs) ∧ (gdFields noRule s k).fs.length ≤ 6) := by
  unfold rdFields gdFields
  by_cases h : nextB s k = 125
  · rw [if_pos h, if_pos h]; exact ⟨rfl, rfl, fun _ => ⟨fun f hf => by simp at hf, rfl, by simp [twFs, cmb_none], by simp⟩⟩
  · rw [if_neg h, if_neg h]
    obtain ⟨h1, h2, h3⟩ := loop_meet s 6 [] k tw
    refine ⟨h1, h2, fun hk => ?_⟩
    obtain ⟨new, j1, j2, j3, j4, j5⟩ := h3 hk
    rw [j1]
    exact ⟨j2, j3, j4, by simpa using j5⟩

theorem gclass_meet (s : ByteArray) (ls : List Int) (k : Nat) (tw : Int) :
    (rdClass s ls k tw).ok = (gdClass noRule noFrom s k).ok ∧ (rdClass s ls k tw).at_ = (gdClass noRule noFrom s k).at_ ∧
    ((gdClass noRule noFrom s k).ok = true → (gdClass noRule noFrom s k).c.p = k ∧ okP (gdClass noRule noFrom s k).c.fs ∧ ((rdClass s ls k tw).l, (rdClass s ls k tw).fs) = schC (gdClass noRule noFrom s k).c ∧
      (rdClass s ls k tw).tw = cmb (if ls.any (fun p => p == (gdClass noRule noFrom s k).c.l) = true then noteI tw k else tw) (twFs [] (gdClass noRule noFrom s k).c.fs) ∧ (gdClass noRule noFrom s k).c.fs.length ≤ 6) := by
  unfold rdClass gdClass
  by_cases h1 : nextB s k < 65 ∨ 90 < nextB s k
  · have c1 : (decide (65 ≤ nextB s k) && decide (nextB s k ≤ 90)) = false := by simp; omega
    rw [if_pos h1, if_pos c1]; exact ⟨rfl, rfl, fun h => by simp at h⟩
  · have c1 : ¬ (decide (65 ≤ nextB s k) && decide (nextB s k ≤ 90)) = false := by simp; omega
    have c2 : ¬ (noFrom s (k + 1)).ok = false := by simp [noFrom]
    rw [if_neg h1, if_neg c1, if_neg c2]
    by_cases h2 : nextB s (k + 1) = 123
    · have c3 : ¬ (nextB s (noFrom s (k + 1)).at_ == 123) = false := by simp [noFrom, h2]
      rw [if_pos h2, if_neg c3]
      obtain ⟨f1, f2, f3⟩ := gfields_meet s (k + 2) (if ls.any (fun p => p == nextB s k) = true then noteI tw k else tw)
      have ek : (noFrom s (k + 1)).at_ + 1 = k + 2 := rfl
      rw [ek]
      cases hok : (gdFields noRule s (k + 2)).ok with
      | false =>
        rw [hok] at f1
        rw [if_neg (by rw [f1]; decide), if_pos rfl]
        exact ⟨rfl, f2, fun h => by simp at h⟩
      | true =>
        rw [hok] at f1
        rw [if_pos f1, if_neg ntf]
        obtain ⟨g1, g2, g3, g4⟩ := f3 hok
        exact ⟨rfl, f2, fun _ => ⟨rfl, g1, by rw [g2]; rfl, g3, g4⟩⟩
    · have c3 : (nextB s (noFrom s (k + 1)).at_ == 123) = false := by simpa [noFrom] using h2
      rw [if_neg h2, if_pos c3]; exact ⟨rfl, rfl, fun h => by simp at h⟩

theorem cmbC {tw : Int} {k : Nat} {pre : List Int} {c : GCd} {r : List GCd} (hp : c.p = k) (hf : okP c.fs) : cmb (cmb (if pre.any (fun p => p == c.l) = true then noteI tw k else tw) (twFs [] c.fs)) (twCs (pre ++ [c.l]) r) = cmb tw (twCs pre (c :: r)) := by
  rw [twCs]
  by_cases ha : pre.any (fun p => p == c.l) = true
  · rw [if_pos ha, if_pos ha]
    unfold noteI cmb
    by_cases ht : tw = -1
    · simp only [ht, if_true]; rw [if_neg (by omega), if_neg (by omega), hp]; rfl
    · rw [if_neg ht, if_neg ht, if_neg ht, if_neg ht]
  · rw [if_neg ha, if_neg ha]
    cases h : twFs [] c.fs with
    | none => rw [cmb_none]
    | some p =>
      have := twFs_pos h hf
      unfold cmb
      by_cases ht : tw = -1
      · simp only [ht, if_true, Option.getD_some]; rw [if_neg (by omega)]
      · simp only [if_neg ht]
theorem map_schC (cs : List GCd) : (cs.map schC).map (·.1) = cs.map (·.l) := by simp [schC, Function.comp_def]
theorem classes_meet (s : ByteArray) (n : Nat) : ∀ (cs : List GCd) (k : Nat) (tw : Int),
    (rcLoop s n (cs.map schC) k tw).ok = (gcLoop noRule noFrom s n cs k).ok ∧ (rcLoop s n (cs.map schC) k tw).at_ = (gcLoop noRule noFrom s n cs k).at_ ∧
    ((gcLoop noRule noFrom s n cs k).ok = true → ∃ new, (gcLoop noRule noFrom s n cs k).cs = cs ++ new ∧ (rcLoop s n (cs.map schC) k tw).cs = (cs ++ new).map schC ∧ (rcLoop s n (cs.map schC) k tw).tw = cmb tw (twCs (cs.map (·.l)) new) ∧ new.length ≤ n ∧ ∀ c ∈ new, c.fs.length ≤ 6) := by
  induction n with
  | zero => intro cs k tw; exact ⟨rfl, rfl, fun h => by simp [gcLoop] at h⟩
  | succ n ih =>
    intro cs k tw
    obtain ⟨h1, h2, h3⟩ := gclass_meet s ((cs.map schC).map (·.1)) k tw
    rw [rcLoop, gcLoop, h1, h2]
    cases hok : (gdClass noRule noFrom s k).ok with
    | false => exact ⟨rfl, rfl, fun h => by simp at h⟩
    | true =>
      obtain ⟨v1, v2, v3, v4, v5⟩ := h3 hok
      rw [if_neg ntf, if_neg ntf]
      have eapp : cs.map schC ++ [((rdClass s ((cs.map schC).map (·.1)) k tw).l, (rdClass s ((cs.map schC).map (·.1)) k tw).fs)] = (cs ++ [(gdClass noRule noFrom s k).c]).map schC := by rw [v3]; simp
      rw [eapp]
      by_cases ha : (gdClass noRule noFrom s k).at_ = s.size
      · rw [if_pos ha, if_pos ha]
        refine ⟨rfl, rfl, fun _ => ⟨[(gdClass noRule noFrom s k).c], rfl, rfl, ?_, by simp, fun c hc => by simp at hc; subst hc; exact v5⟩⟩
        show (rdClass s ((cs.map schC).map (·.1)) k tw).tw = _
        rw [v4, map_schC, ← cmbC (pre := cs.map (·.l)) (r := []) v1 v2]
        simp only [twCs, cmb_none]
      · rw [if_neg ha, if_neg ha]
        obtain ⟨i1, i2, i3⟩ := ih (cs ++ [(gdClass noRule noFrom s k).c]) (gdClass noRule noFrom s k).at_ (rdClass s ((cs.map schC).map (·.1)) k tw).tw
        refine ⟨i1, i2, fun h => ?_⟩
        obtain ⟨new, j1, j3, j4, j5, j6⟩ := i3 h
        refine ⟨(gdClass noRule noFrom s k).c :: new, by rw [j1]; simp, by rw [j3]; simp, ?_, by simp at j5 ⊢; omega, fun c hc => ?_⟩
        · rw [j4, v4, map_schC, List.map_append, List.map_cons, List.map_nil, cmbC v1 v2]
        · rcases List.mem_cons.1 hc with rfl | hc
          · exact v5
          · exact j6 c hc
/-- What the reader of grammar comes to is what Read was. -/
theorem read_meet2 (s : ByteArray) : (readR s).ok = (gcLoop noRule noFrom s 6 [] 0).ok ∧ (readR s).at_ = (gcLoop noRule noFrom s 6 [] 0).at_ ∧
    ((gcLoop noRule noFrom s 6 [] 0).ok = true → (readR s).cs = (gcLoop noRule noFrom s 6 [] 0).cs.map schC ∧ (readR s).tw = gTwice (gcLoop noRule noFrom s 6 [] 0).cs ∧ (gcLoop noRule noFrom s 6 [] 0).cs.length ≤ 6 ∧ ∀ c ∈ (gcLoop noRule noFrom s 6 [] 0).cs, c.fs.length ≤ 6) := by
  obtain ⟨h1, h2, h3⟩ := classes_meet s 6 [] 0 (-1)
  refine ⟨h1, h2, fun h => ?_⟩
  obtain ⟨new, j1, j2, j3, j4, j5⟩ := h3 h
  rw [j1]
  exact ⟨j2, j3, by simpa using j4, by simpa using j5⟩
end Go.Proofs.Ytbgilndohccicab
namespace Go.Proofs.Ytbgilndohccicab
open Go.RowKit

theorem schemaOf_any {base : Nat} {v : Value} {rs : List RCd} {cs : List GCd} {w : World} (h : GCs w base v rs cs) (hn : cs.length ≤ 6) (h6 : ∀ c ∈ cs, c.fs.length ≤ 6) :
    Calls Try.prog 60 #[v] w (SchPost cs w) := by
  rcases h.cells with ⟨rfl, hr⟩ | ⟨g, cap, rfl, hg, hcap, hm, hc⟩
  · have : cs = [] := by have := h.len; rw [hr] at this; exact List.length_eq_zero_iff.1 this.symm
    subst this
    exact schemaOf_nil w
  · exact schemaOf_row g cap rs cs w hg (by rw [h.len]; exact hn) h.len hc (fun i r c h1 h2 => (h.el i r c h1 h2).mono (Nat.zero_le _)) h6

set_option maxHeartbeats 400000 in
theorem read_bad (s : ByteArray) (w : World) (hm : s.size ≤ 9223372036854775807) (e0 p0 : Int) (h1 : gdE (gcLoop noRule noFrom s 6 [] 0) s = e0) (h2 : gdP (gcLoop noRule noFrom s 6 [] 0) s = p0) (hne : e0 ≠ 0)
    (r1 : readE s = e0) (r2 : readP s = p0) (r3 : readC s = []) :
    Calls Try.prog 29 #[.string s] w (RPost s w) := by
  have C := readSchema_any s (w.alloc (.cells #[.slice none 0 0] 72)) hm
  have E : Hid (gdE (gcLoop noRule noFrom s 6 [] 0) s = e0 ∧ gdP (gcLoop noRule noFrom s 6 [] 0) s = p0 ∧ readE s = e0 ∧ readP s = p0 ∧ readC s = []) := ⟨h1, h2, r1, r2, r3⟩
  have hne' : (e0 == 0) = false := by simpa using hne
  have hne'' : (e0 != 0) = true := by simpa using hne
  clear h1 h2 r1 r2 r3
  go_enter Try.func29, Try.ntmps29
  go_wp2_with fail
  refine C.mono ?_
  rintro e w1 ⟨va, vn, vc, rs, rfl, V1, hb1⟩
  rw [E.out.1, E.out.2.1]
  have hs1 : w.heap.size < w1.heap.size := by have := hb1.size; simp at this; omega
  have d0 : w1.cell? ⟨w.heap.size, 0, none⟩ = some (.slice none 0 0) := (hb1.cell (by show w.heap.size < _; simp)).trans (by go_simp)
  have df0 : w1.frozen? ⟨w.heap.size, 0, none⟩ = false := (hb1.frozen (by show w.heap.size < _; simp)).trans (by go_simp)
  have B1 : Below w.heap.size w w1 := ((Below.refl _ w).alloc (Nat.le_refl _) _).trans (hb1.mono (by simp))
  clear C V1 hb1
  go_wp2
  refine bodyPost_ret (v := .tuple #[.agg #[.slice none 0 0], .int .i64 e0, .int .i64 p0]) (by simp [results, Try.results29, go_sem, d0]) rfl ⟨_, _, _, [], by rw [E.out.2.2.1, E.out.2.2.2.1], by rw [E.out.2.2.2.2]; exact Cls.nil _ _, B1.setCell (Nat.le_refl _) _⟩

set_option maxHeartbeats 400000 in
theorem read_good (s : ByteArray) (w : World) (hs : s.size ≤ 200) (hok : (gcLoop noRule noFrom s 6 [] 0).ok = true) :
    Calls Try.prog 29 #[.string s] w (RPost s w) := by
  have C := readSchema_any s (w.alloc (.cells #[.slice none 0 0] 72)) (by omega)
  obtain ⟨m1, m2, m3⟩ := read_meet2 s
  obtain ⟨n1, n2, n3, n4⟩ := m3 hok
  have hs' : ¬ 200 < s.size := by omega
  have h1 : gdE (gcLoop noRule noFrom s 6 [] 0) s = 0 := by rw [gdE, if_neg hs', if_neg (by rw [hok]; decide)]
  have h2 : gdP (gcLoop noRule noFrom s 6 [] 0) s = 0 := by rw [gdP, if_neg hs', if_neg (by rw [hok]; decide)]
  have h3 : gdC (gcLoop noRule noFrom s 6 [] 0) s = (gcLoop noRule noFrom s 6 [] 0).cs := by rw [gdC, if_neg hs', if_neg (by rw [hok]; decide)]
  have r0 : (readR s).ok = true := by rw [m1, hok]
  have r1 : readE s = if gTwice (gcLoop noRule noFrom s 6 [] 0).cs = -1 then 0 else 3 := by rw [readE, if_neg hs', if_neg (by rw [r0]; decide), n2]
  have r2 : readP s = if gTwice (gcLoop noRule noFrom s 6 [] 0).cs = -1 then 0 else gTwice (gcLoop noRule noFrom s 6 [] 0).cs := by rw [readP, if_neg hs', if_neg (by rw [r0]; decide), n2]
  have r3 : readC s = if gTwice (gcLoop noRule noFrom s 6 [] 0).cs = -1 then (gcLoop noRule noFrom s 6 [] 0).cs.map schC else [] := by rw [readC, if_neg hs', if_neg (by rw [r0]; decide), n2, n1]
  unfold GReadPost at C
  rw [h1, h2, h3] at C
  generalize (gcLoop noRule noFrom s 6 [] 0).cs = cs at C r1 r2 r3 n3 n4
  obtain ⟨t, ht⟩ : ∃ t, t = gTwice cs := ⟨_, rfl⟩
  rw [← ht] at r1 r2 r3
  have HT : Hid (t = gTwice cs) := ht
  clear ht h1 h2 h3 r0 m1 m2 m3 n1 n2 hok hs'
  by_cases h : t = -1
  · rw [if_pos h] at r1 r2 r3
    have E : Hid (readE s = 0 ∧ readP s = 0 ∧ readC s = cs.map schC) := ⟨r1, r2, r3⟩
    subst h
    clear r1 r2 r3
    go_enter Try.func29, Try.ntmps29
    go_wp2_with fail
    refine C.mono ?_
    rintro e w1 ⟨va, vn, vc, rs, rfl, V1, hb1⟩
    clear C
    go_wp2_with fail
    refine (gtwice_any V1).mono ?_
    rintro e w2 ⟨rfl, hb2⟩
    rw [← HT.out]
    have V2 := V1.below hb2
    clear V1
    go_wp2_with fail
    refine (schemaOf_any V2 n3 n4).mono ?_
    rintro e w3 ⟨a3, n3', c3, vs, rfl, V3, hb3⟩
    have hz1 : w.heap.size < w1.heap.size := by have := hb1.size; simp at this; omega
    have hz2 : w.heap.size < w2.heap.size := Nat.lt_of_lt_of_le hz1 hb2.size
    have hz3 : w.heap.size < w3.heap.size := Nat.lt_of_lt_of_le hz2 hb3.size
    have d0 : w3.cell? ⟨w.heap.size, 0, none⟩ = some (.slice none 0 0) := (hb3.cell (by exact hz2)).trans ((hb2.cell (by exact hz1)).trans ((hb1.cell (by show w.heap.size < _; simp)).trans (by go_simp)))
    have df0 : w3.frozen? ⟨w.heap.size, 0, none⟩ = false := (hb3.frozen (by exact hz2)).trans ((hb2.frozen (by exact hz1)).trans ((hb1.frozen (by show w.heap.size < _; simp)).trans (by go_simp)))
    have B3 : Below w.heap.size w w3 := (((Below.refl _ w).alloc (Nat.le_refl _) _).trans (hb1.mono (by simp))).trans ((hb2.mono (by omega)).trans (hb3.mono (by omega)))
    clear hb1 hb2 hb3 V2
    go_wp2
    refine bodyPost_ret (v := .tuple #[.agg #[.slice a3 n3' c3], .int .i64 0, .int .i64 0]) (by simp [results, Try.results29, go_sem, d0]) rfl ⟨_, _, _, vs, by rw [E.out.1, E.out.2.1], ?_, B3.setCell (Nat.le_refl _) _⟩
    rw [E.out.2.2]
    exact (V3.kept (gb_set _ _ _ _) hz2).mono (by omega)
  · rw [if_neg h] at r1 r2 r3
    have E : Hid (readE s = 3 ∧ readP s = t ∧ readC s = []) := ⟨r1, r2, r3⟩
    have h' : (t == -1) = false := by simpa using h
    have h'' : (t != -1) = true := by simpa using h
    clear r1 r2 r3 h
    go_enter Try.func29, Try.ntmps29
    go_wp2_with fail
    refine C.mono ?_
    rintro e w1 ⟨va, vn, vc, rs, rfl, V1, hb1⟩
    clear C
    go_wp2_with fail
    refine (gtwice_any V1).mono ?_
    rintro e w2 ⟨rfl, hb2⟩
    rw [← HT.out]
    have hz1 : w.heap.size < w1.heap.size := by have := hb1.size; simp at this; omega
    have hz2 : w.heap.size < w2.heap.size := Nat.lt_of_lt_of_le hz1 hb2.size
    have d0 : w2.cell? ⟨w.heap.size, 0, none⟩ = some (.slice none 0 0) := (hb2.cell (by exact hz1)).trans ((hb1.cell (by show w.heap.size < _; simp)).trans (by go_simp))
    have df0 : w2.frozen? ⟨w.heap.size, 0, none⟩ = false := (hb2.frozen (by exact hz1)).trans ((hb1.frozen (by show w.heap.size < _; simp)).trans (by go_simp))
    have B2 : Below w.heap.size w w2 := (((Below.refl _ w).alloc (Nat.le_refl _) _).trans (hb1.mono (by simp))).trans (hb2.mono (by omega))
    clear hb1 hb2 V1
    go_wp2
    refine bodyPost_ret (v := .tuple #[.agg #[.slice none 0 0], .int .i64 3, .int .i64 t]) (by simp [results, Try.results29, go_sem, d0]) rfl ⟨_, _, _, [], by rw [E.out.1, E.out.2.1], by rw [E.out.2.2]; exact Cls.nil _ _, B2.setCell (Nat.le_refl _) _⟩

theorem read_any (s : ByteArray) (w : World) (hm : s.size ≤ 9223372036854775807) : Calls Try.prog 29 #[.string s] w (RPost s w) := by
  by_cases h : 200 < s.size
  · exact read_bad s w hm 1 0 (by rw [gdE, if_pos h]) (by rw [gdP, if_pos h]) (by decide) (by rw [readE, if_pos h]) (by rw [readP, if_pos h]) (by rw [readC, if_pos h])
  · cases hok : (gcLoop noRule noFrom s 6 [] 0).ok with
    | true => exact read_good s w (by omega) hok
    | false =>
      obtain ⟨m1, m2, _⟩ := read_meet2 s
      rw [hok] at m1
      exact read_bad s w hm 2 (gcLoop noRule noFrom s 6 [] 0).at_ (by rw [gdE, if_neg h, if_pos hok]) (by rw [gdP, if_neg h, if_pos hok]) (by decide) (by rw [readE, if_neg h, if_pos m1]) (by rw [readP, if_neg h, if_pos m1, m2]) (by rw [readC, if_neg h, if_pos m1])
end Go.Proofs.Ytbgilndohccicab
