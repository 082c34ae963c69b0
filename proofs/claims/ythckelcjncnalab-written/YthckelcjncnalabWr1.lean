import Derived.Test.YthckelcjncnalabGs2
namespace Go.Proofs.Ythckelcjncnalab
open Go.RowKit

/-- A text as numbers. -/
def bytesOf (s : ByteArray) : List Int := s.data.toList.map (fun b => (b.toNat : Int))
theorem bytesOf_app (a b : ByteArray) : bytesOf (a ++ b) = bytesOf a ++ bytesOf b := by
  simp only [bytesOf, ByteArray.data_append, Array.toList_append, List.map_append]
theorem bytesOf_len (s : ByteArray) : (bytesOf s).length = s.size := by simp only [bytesOf, List.length_map, Array.length_toList]; rfl
theorem nextB_bytes (s : ByteArray) (k : Nat) : nextB s k = (bytesOf s)[k]?.getD 0 := by
  by_cases h : k < s.size
  · rw [nextB_in h]
    have hk : k < s.data.toList.length := by rw [Array.length_toList]; exact h
    simp only [bytesOf, List.getElem?_map, List.getElem?_eq_getElem hk, Option.map_some, Option.getD_some]
    rfl
  · rw [nextB_out h, List.getElem?_eq_none (by rw [bytesOf_len]; omega)]; rfl

/-- t stands in s from the place k on. -/
def At (s : ByteArray) (k : Nat) (t : List Int) : Prop := ∀ j, j < t.length → nextB s (k + j) = t[j]?.getD 0
theorem At.left {s : ByteArray} {k : Nat} {a b : List Int} (h : At s k (a ++ b)) : At s k a := fun j hj => by
  rw [h j (by simp; omega), List.getElem?_append_left hj]
theorem At.right {s : ByteArray} {k : Nat} {a b : List Int} (h : At s k (a ++ b)) : At s (k + a.length) b := fun j hj => by
  have := h (a.length + j) (by simp; omega)
  rw [List.getElem?_append_right (by omega), show a.length + j - a.length = j by omega] at this
  rw [← this]; congr 1; omega
theorem At.all {s : ByteArray} {t : List Int} (h : bytesOf s = t) : At s 0 t := fun j _ => by rw [Nat.zero_add, nextB_bytes, h]
theorem At.get {s : ByteArray} {k : Nat} {t : List Int} (h : At s k t) (j : Nat) (x : Int) (hx : t[j]? = some x) : nextB s (k + j) = x := by
  rw [h j (List.getElem?_eq_some_iff.1 hx).1, hx]; rfl

def txF : List (Int × Int) → List Int
  | [] => []
  | [f] => [f.1, 58, f.2]
  | f :: g :: r => [f.1, 58, f.2, 44] ++ txF (g :: r)
def txC (c : Int × List (Int × Int)) : List Int := [c.1, 123] ++ (txF c.2 ++ [125])
def txS (cs : List (Int × List (Int × Int))) : List Int := cs.flatMap txC
def okF (fs : List (Int × Int)) : Prop := ∀ f ∈ fs, 97 ≤ f.1 ∧ f.1 ≤ 122 ∧ isKindB f.2 = true
def okC (c : Int × List (Int × Int)) : Prop := 65 ≤ c.1 ∧ c.1 ≤ 90 ∧ c.2.length ≤ 6 ∧ (c.2.map (·.1)).Nodup ∧ okF c.2
structure Sch (cs : List (Int × List (Int × Int))) : Prop where
  lo : 1 ≤ cs.length
  hi : cs.length ≤ 6
  nd : (cs.map (·.1)).Nodup
  ok : ∀ c ∈ cs, okC c

theorem txF_len (fs : List (Int × Int)) (h : fs ≠ []) : (txF fs).length + 1 = 4 * fs.length := by
  induction fs with
  | nil => exact absurd rfl h
  | cons f r ih =>
    cases r with
    | nil => rfl
    | cons g r => have := ih (by simp); simp [txF] at this ⊢; omega
theorem txF_le (fs : List (Int × Int)) (h : fs.length ≤ 6) : (txF fs).length ≤ 23 := by
  cases fs with
  | nil => simp [txF]
  | cons f r => have := txF_len (f :: r) (by simp); omega
theorem txF_snoc (fs : List (Int × Int)) (f : Int × Int) : txF (fs ++ [f]) = txF fs ++ ((if fs = [] then [] else [44]) ++ [f.1, 58, f.2]) := by
  induction fs with
  | nil => rfl
  | cons g r ih =>
    cases r with
    | nil => rfl
    | cons g' r => simp only [List.cons_append, txF] at ih ⊢; rw [ih]; simp
theorem txC_len (c : Int × List (Int × Int)) (h : okC c) : (txC c).length ≤ 26 := by
  have := txF_le c.2 h.2.2.1; simp [txC]; omega
theorem txS_len (cs : List (Int × List (Int × Int))) (h : ∀ c ∈ cs, okC c) : (txS cs).length ≤ 26 * cs.length := by
  induction cs with
  | nil => simp [txS]
  | cons c r ih =>
    have h1 := txC_len c (h c (by simp))
    have h2 := ih (fun c hc => h c (by simp [hc]))
    simp only [txS, List.flatMap_cons, List.length_append, List.length_cons] at h2 ⊢
    omega

theorem idxF_none' {fs : List (Int × Int)} {x : Int} (h : ∀ f ∈ fs, f.1 ≠ x) : ¬ 0 ≤ idxF fs x := by
  have : fs.findIdx? (fun p => p.1 == x) = none := by
    rw [List.findIdx?_eq_none_iff]; intro p hp; simpa using h p hp
  simp [idxF, this]

theorem field_run (s : ByteArray) (fs0 : List (Int × Int)) (a : Nat) (tw : Int) (f : Int × Int) (r : List Int) (hf : 97 ≤ f.1 ∧ f.1 ≤ 122 ∧ isKindB f.2 = true) (hn : ∀ g ∈ fs0, g.1 ≠ f.1) (hA : At s a ([f.1, 58, f.2] ++ r)) :
    rdField s fs0 a tw = ⟨true, a + 3, tw, f.1, f.2⟩ := by
  have b0 : nextB s a = f.1 := hA.get 0 f.1 rfl
  have b1 : nextB s (a + 1) = 58 := hA.get 1 58 rfl
  have b2 : nextB s (a + 2) = f.2 := hA.get 2 f.2 rfl
  simp only [rdField]
  rw [b0, b1, b2, if_neg (by omega), if_pos rfl, if_pos hf.2.2, if_neg (idxF_none' hn)]

theorem loop_run (s : ByteArray) : ∀ fs fs0 a tw, fs ≠ [] → fs0.length + fs.length ≤ 6 → okF fs → ((fs0 ++ fs).map (·.1)).Nodup → At s a (txF fs ++ [125]) →
    rdLoop s (6 - fs0.length) fs0 a tw = ⟨true, a + (txF fs).length + 1, tw, fs0 ++ fs⟩ := by
  intro fs
  induction fs with
  | nil => intro fs0 a tw h; exact absurd rfl h
  | cons f r ih =>
    intro fs0 a tw _ hl hok hnd hA
    have hf := hok f (by simp)
    have hn : ∀ g ∈ fs0, g.1 ≠ f.1 := by
      intro g hg e
      rw [List.map_append, List.nodup_append] at hnd
      exact hnd.2.2 g.1 (List.mem_map_of_mem hg) f.1 (by simp) e
    have e : 6 - fs0.length = (6 - (fs0.length + 1)) + 1 := by simp at hl; omega
    cases r with
    | nil =>
      have F := field_run s fs0 a tw f [125] hf hn (by simpa [txF] using hA)
      have b3 : nextB s (a + 3) = 125 := hA.get 3 125 rfl
      rw [e, rdLoop, F]
      simp only []
      rw [if_neg (by simp), if_pos b3]
      rfl
    | cons g r =>
      have F := field_run s fs0 a tw f ([44] ++ txF (g :: r) ++ [125]) hf hn (by simpa [txF] using hA)
      have b3 : nextB s (a + 3) = 44 := hA.get 3 44 rfl
      have hA' : At s (a + 4) (txF (g :: r) ++ [125]) := by
        have : At s a ([f.1, 58, f.2, 44] ++ (txF (g :: r) ++ [125])) := by simpa [txF] using hA
        exact this.right
      have := ih (fs0 ++ [f]) (a + 4) tw (by simp) (by simp at hl ⊢; omega) (fun x hx => hok x (by simp at hx ⊢; exact .inr hx)) (by simpa using hnd) hA'
      rw [e, rdLoop, F]
      simp only []
      rw [if_neg (by simp), if_neg (by omega), if_neg (by rw [b3]; simp at hl; simp; omega)]
      simp only [List.length_append, List.length_cons, List.length_nil] at this
      rw [show a + 3 + 1 = a + 4 from rfl, this]
      simp [txF]; omega

theorem fields_run (s : ByteArray) (fs : List (Int × Int)) (a : Nat) (tw : Int) (hl : fs.length ≤ 6) (hok : okF fs) (hnd : (fs.map (·.1)).Nodup) (hA : At s a (txF fs ++ [125])) :
    rdFields s a tw = ⟨true, a + (txF fs).length + 1, tw, fs⟩ := by
  simp only [rdFields]
  cases fs with
  | nil =>
    have b0 : nextB s a = 125 := hA.get 0 125 rfl
    rw [if_pos b0]; rfl
  | cons f r =>
    have hf := hok f (by simp)
    have b0 : nextB s a = f.1 := hA.get 0 f.1 (by cases r <;> rfl)
    rw [if_neg (by omega)]
    have := loop_run s (f :: r) [] a tw (by simp) (by simpa using hl) hok (by simpa using hnd) hA
    simpa using this

theorem class_run (s : ByteArray) (ls : List Int) (k : Nat) (tw : Int) (c : Int × List (Int × Int)) (r : List Int) (hc : okC c) (hA : At s k (txC c ++ r)) :
    rdClass s ls k tw = ⟨true, k + (txC c).length, if ls.any (fun p => p == c.1) = true then noteI tw k else tw, c.1, c.2⟩ := by
  have b0 : nextB s k = c.1 := hA.get 0 c.1 rfl
  have b1 : nextB s (k + 1) = 123 := hA.get 1 123 rfl
  obtain ⟨h1, h2, h3, h4, h5⟩ := hc
  have hA' : At s (k + 2) (txF c.2 ++ [125]) := by
    have : At s k ([c.1, 123] ++ ((txF c.2 ++ [125]) ++ r)) := by simpa [txC] using hA
    exact this.right.left
  have F := fun tw => fields_run s c.2 (k + 2) tw h3 h5 h4 hA'
  simp only [rdClass]
  rw [b0, b1, if_neg (by omega), if_pos rfl, F]
  simp only []
  rw [if_pos trivial]
  simp [txC]; omega

/-- The loop over classes comes through a text of them. -/
theorem rc_run (s : ByteArray) : ∀ cs cs0 k tw r, cs0.length + cs.length ≤ 6 → (∀ c ∈ cs, okC c) → ((cs0 ++ cs).map (·.1)).Nodup → At s k (txS cs ++ r) → k + (txS cs).length + r.length = s.size → (r ≠ [] ∨ cs ≠ []) →
    rcLoop s (6 - cs0.length) cs0 k tw = if r = [] then ⟨true, s.size, tw, cs0 ++ cs⟩ else rcLoop s (6 - (cs0 ++ cs).length) (cs0 ++ cs) (k + (txS cs).length) tw := by
  intro cs
  induction cs with
  | nil =>
    intro cs0 k tw r _ _ _ _ _ hr
    rw [if_neg (by simpa using hr)]
    simp [txS]
  | cons c t ih =>
    intro cs0 k tw r hl hok hnd hA hsz _
    have hc := hok c (by simp)
    have C := class_run s (cs0.map (·.1)) k tw c (txS t ++ r) hc (by simpa [txS] using hA)
    have hany : ¬ ((cs0.map (·.1)).any (fun p => p == c.1) = true) := by
      simp only [List.any_eq_true]
      rintro ⟨x, hx, e⟩
      rw [List.map_append, List.nodup_append] at hnd
      exact hnd.2.2 x hx c.1 (by simp) (by simpa using e)
    rw [if_neg hany] at C
    have e : 6 - cs0.length = (6 - (cs0.length + 1)) + 1 := by simp at hl; omega
    have hA' : At s (k + (txC c).length) (txS t ++ r) := by
      have : At s k (txC c ++ (txS t ++ r)) := by simpa [txS] using hA
      exact this.right
    have hlen : (txS (c :: t)).length = (txC c).length + (txS t).length := by simp [txS]
    rw [e, rcLoop, C]
    simp only []
    rw [if_neg (by simp)]
    by_cases hend : t = [] ∧ r = []
    · obtain ⟨rfl, rfl⟩ := hend
      have hk : k + (txC c).length = s.size := by simp [txS] at hsz; omega
      rw [if_pos hk, if_pos rfl, hk]
    · have hk : ¬ k + (txC c).length = s.size := by
        intro h
        rw [hlen] at hsz
        refine hend ⟨?_, List.length_eq_zero_iff.1 (by omega)⟩
        cases t with
        | nil => rfl
        | cons d t => simp [txS, txC] at hsz h; omega
      rw [if_neg hk]
      have := ih (cs0 ++ [(c.1, c.2)]) (k + (txC c).length) tw r (by simp at hl ⊢; omega) (fun x hx => hok x (by simp [hx])) (by simpa using hnd) hA' (by rw [hlen] at hsz; omega) (by
        rcases Classical.em (r = []) with h | h
        · exact .inr (fun h' => hend ⟨h', h⟩)
        · exact .inl h)
      simp only [List.length_append, List.length_cons, List.length_nil] at this
      rw [this, hlen]
      simp only [List.append_assoc, List.cons_append, List.nil_append, Nat.add_assoc, List.length_append, List.length_cons]
      rw [show cs0.length + (0 + (1 + t.length)) = cs0.length + (t.length + 1) by omega]

theorem readR_run (s : ByteArray) (cs : List (Int × List (Int × Int))) (h : Sch cs) (e : bytesOf s = txS cs) : readR s = ⟨true, s.size, -1, cs⟩ ∧ s.size ≤ 156 := by
  have hsz : s.size = (txS cs).length := by rw [← bytesOf_len, e]
  have := txS_len cs h.ok
  have hh := h.hi
  refine ⟨?_, by omega⟩
  have R := rc_run s cs [] 0 (-1) [] (by simpa using h.hi) h.ok (by simpa using h.nd) (by simpa using At.all e) (by simp; omega) (.inr (by intro h'; have := h.lo; rw [h'] at this; simp at this))
  rw [if_pos rfl] at R
  simpa [readR] using R

theorem written_ok (s : ByteArray) (cs : List (Int × List (Int × Int))) (h : Sch cs) (e : bytesOf s = txS cs) : readE s = 0 ∧ readP s = 0 ∧ readC s = cs := by
  obtain ⟨R, hs⟩ := readR_run s cs h e
  have h200 : ¬ 200 < s.size := by omega
  simp [readE, readP, readC, h200, R]

theorem written_brace (s u : ByteArray) (cs : List (Int × List (Int × Int))) (h : Sch cs) (e : bytesOf s = txS cs) (hu : bytesOf u = txS cs ++ [125]) : readE u = 2 ∧ readP u = s.size := by
  have hsz : s.size = (txS cs).length := by rw [← bytesOf_len, e]
  have hus : u.size = s.size + 1 := by rw [← bytesOf_len, hu, List.length_append, ← hsz]; rfl
  have hs := (readR_run s cs h e).2
  have hA := At.all hu
  have R := rc_run u cs [] 0 (-1) [125] (by simpa using h.hi) h.ok (by simpa using h.nd) hA (by simp; omega) (.inl (by simp))
  rw [if_neg (by simp)] at R
  simp only [List.length_nil, Nat.sub_zero, List.nil_append, Nat.zero_add] at R
  have b : nextB u (txS cs).length = 125 := by have := hA.right.get 0 125 rfl; simpa using this
  have R2 : readR u = ⟨false, s.size, -1, []⟩ := by
    simp only [readR]
    rw [R, hsz]
    cases hn : 6 - cs.length with
    | zero => rfl
    | succ n =>
      have C : rdClass u (cs.map (·.1)) (txS cs).length (-1) = ⟨false, (txS cs).length, -1, 0, []⟩ := by
        simp only [rdClass]; rw [if_pos (by omega)]
      rw [rcLoop, C]; rfl
  have h200 : ¬ 200 < u.size := by omega
  simp [readE, readP, h200, R2]

theorem written_twice (s u : ByteArray) (cs : List (Int × List (Int × Int))) (h : Sch cs) (e : bytesOf s = txS cs) (hu : bytesOf u = txS cs ++ [(cs[0]?.getD (0, [])).1, 123, 125]) :
    readE u = (if cs.length = 6 then 2 else 3) ∧ readP u = s.size := by
  have hsz : s.size = (txS cs).length := by rw [← bytesOf_len, e]
  have hus : u.size = s.size + 3 := by rw [← bytesOf_len, hu, List.length_append, ← hsz]; rfl
  have hs := (readR_run s cs h e).2
  have hA := At.all hu
  have R := rc_run u cs [] 0 (-1) [(cs[0]?.getD (0, [])).1, 123, 125] (by simpa using h.hi) h.ok (by simpa using h.nd) hA (by simp; omega) (.inl (by simp))
  rw [if_neg (by simp)] at R
  simp only [List.length_nil, Nat.sub_zero, List.nil_append, Nat.zero_add] at R
  have hlo := h.lo
  have hhi := h.hi
  have h0 : cs[0]? = some (cs[0]'(by omega)) := List.getElem?_eq_getElem _
  have hmem : cs[0]'(by omega) ∈ cs := List.getElem_mem _
  have hok := h.ok _ hmem
  rw [h0, Option.getD_some] at hA
  by_cases h6 : cs.length = 6
  · have R2 : readR u = ⟨false, s.size, -1, []⟩ := by
      simp only [readR]
      rw [R, hsz, h6]; rfl
    have h200 : ¬ 200 < u.size := by omega
    simp [readE, readP, h200, R2, h6]
  · have hAr : At u (txS cs).length (txC ((cs[0]'(by omega)).1, []) ++ []) := by
      have := hA.right; simpa [txC, txF] using this
    have hc0 : okC ((cs[0]'(by omega)).1, []) := ⟨hok.1, hok.2.1, by simp, by simp, by intro f hf; simp at hf⟩
    have C := class_run u (cs.map (·.1)) (txS cs).length (-1) ((cs[0]'(by omega)).1, []) [] hc0 hAr
    have hany : (cs.map (·.1)).any (fun p => p == ((cs[0]'(by omega)).1, ([] : List (Int × Int))).1) = true := by
      simp only [List.any_eq_true]
      exact ⟨_, List.mem_map_of_mem hmem, by simp⟩
    rw [if_pos hany] at C
    have R2 : ∃ l, readR u = ⟨true, u.size, (s.size : Int), l⟩ := by
      obtain ⟨n, hn⟩ : ∃ n, 6 - cs.length = n + 1 := ⟨6 - cs.length - 1, by omega⟩
      refine ⟨cs ++ [((cs[0]'(by omega)).1, [])], ?_⟩
      simp only [readR]
      rw [R, hn, rcLoop, C]
      simp only []
      rw [if_neg (by simp), if_pos (by simp [txC, txF]; omega)]
      simp [txC, txF, noteI]
      omega
    obtain ⟨l, R2⟩ := R2
    have h200 : ¬ 200 < u.size := by omega
    have : ¬ ((s.size : Int) = -1) := by omega
    simp [readE, readP, h200, R2, h6, this]
end Go.Proofs.Ythckelcjncnalab
