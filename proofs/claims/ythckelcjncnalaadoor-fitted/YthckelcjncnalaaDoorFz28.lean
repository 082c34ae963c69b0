import Derived.Test.YthckelcjncnalaaDoorFz27
namespace Go.Proofs.YthckelcjncnalaaDoor
open Go.RowKit

theorem gfLoop_ok (t : ByteArray) (p : Int) (hp : 0 ≤ p) : ∀ n i fr l l', (l.length ≤ 6 ∧ ∀ f ∈ l, 0 ≤ f.p) → gfLoop t p n i fr l = some l' → l'.length ≤ 6 ∧ ∀ f ∈ l', 0 ≤ f.p := by
  intro n
  induction n with
  | zero => intro i fr l l' h e; simp [gfLoop] at e; subst e; exact h
  | succ n ih =>
    intro i fr l l' h e
    rw [gfLoop] at e
    split at e
    · exact ih _ _ _ _ h e
    · split at e
      · cases e
      · rename_i _ h6
        refine ih _ _ _ _ ⟨by simp; omega, fun f hf => ?_⟩ e
        rcases List.mem_append.1 hf with hf | hf
        · exact h.2 f hf
        · simp at hf; subst hf; show 0 ≤ p + (fr : Int); omega
theorem gfFields_ok (t : ByteArray) (p : Int) (hp : 0 ≤ p) (l : List GF) (e : gfFields t p = some l) : l.length ≤ 6 ∧ ∀ f ∈ l, 0 ≤ f.p := by
  simp only [gfFields] at e
  split at e
  · simp at e; subst e; simp
  · exact gfLoop_ok t p hp _ _ _ _ _ (by simp) e
theorem gfClass_ok (t : ByteArray) (p : Int) (hp : 0 ≤ p) (r : Int × List GF) (e : gfClass t p = some r) : r.2.length ≤ 6 ∧ ∀ f ∈ r.2, 0 ≤ f.p := by
  simp only [gfClass] at e
  split at e
  · obtain ⟨l, hl, rfl⟩ := Option.map_eq_some_iff.1 e
    exact gfFields_ok _ _ (by omega) _ hl
  · cases e

/-- What All gives is no more than may be. -/
def Fine (cs : List GC) : Prop := cs.length ≤ 6 ∧ ∀ c ∈ cs, c.l.length ≤ 6 ∧ ∀ f ∈ c.l, 0 ≤ f.p
theorem gaLoop_ok (s : ByteArray) : ∀ n i fr l r, Fine l → gaLoop s n i fr l = some r → Fine r.1 := by
  intro n
  induction n with
  | zero => intro i fr l r h e; simp [gaLoop] at e; subst e; exact h
  | succ n ih =>
    intro i fr l r h e
    rw [gaLoop] at e
    split at e
    · split at e
      · cases e
      · rename_i r' hr'
        split at e
        · cases e
        · refine ih _ _ _ _ ⟨by have := h.1; simp; omega, fun c hc => ?_⟩ e
          rcases List.mem_append.1 hc with hc | hc
          · exact h.2 c hc
          · simp at hc; subst hc; exact gfClass_ok _ _ (by omega) _ hr'
    · exact ih _ _ _ _ h e
theorem gaAll_ok (s : ByteArray) (cs : List GC) (e : gaAll s = some cs) : Fine cs ∧ cs ≠ [] := by
  cases h : gaLoop s s.size 0 0 [] with
  | none => rw [gaAll_none h] at e; cases e
  | some r =>
    rw [gaAll_some (l := r.1) (fr := r.2) h] at e
    split at e
    · rename_i hc
      simp at e; subst e
      exact ⟨gaLoop_ok s _ _ _ _ _ ⟨by simp, by simp⟩ h, fun e => by rw [e] at hc; simp at hc⟩
    · cases e

/-- The places at which a letter stands that has stood there before. -/
def Rep (cs : List GC) (p : Int) : Prop :=
  VCs (fun i => (cs[i]?.getD noGC).n) (fun i => ((cs[i]?.getD noGC).p : Int)) (fun i => (cs[i]?.getD noGC).l.length) (fun i j => ((cs[i]?.getD noGC).l[j]?.getD noGF).n) (fun i j => ((cs[i]?.getD noGC).l[j]?.getD noGF).p) cs.length p

theorem twice_any (cs : List GC) (vs : List GV) (base : Nat) (v : Value) (w : World) (h : RCls w base v vs cs) (hF : Fine cs) (hne : cs ≠ []) :
    Calls Tryd.prog 12 #[v, .slice none 0 0] w fun e w' => ∃ b, e = .returned (.int .i64 b) ∧ Least (Rep cs) b ∧ Below w.heap.size w w' := by
  obtain ⟨g, cap, rfl, hg, _, hc⟩ := h.cells hne
  have hl := h.len
  have hget : ∀ i, i < cs.length → ∃ x c, vs[i]? = some x ∧ cs[i]? = some c := fun i hi => ⟨vs[i]'(by omega), cs[i], List.getElem?_eq_getElem _, List.getElem?_eq_getElem _⟩
  have hRV : ∀ i, i < cs.length → ∃ x c, vs[i]? = some x ∧ cs[i]? = some c ∧ x.n = c.n ∧ x.p = c.p ∧ RV w base x.v.val c.l := by
    intro i hi
    obtain ⟨x, c, h1, h2⟩ := hget i hi
    exact ⟨x, c, h1, h2, h.fld i x c h1 h2⟩
  have hmem : ∀ i : Nat, (cs[i]?.getD noGC).l.length ≤ 6 ∧ ∀ f ∈ (cs[i]?.getD noGC).l, 0 ≤ f.p := by
    intro i
    cases hi : cs[i]? with
    | none => simp [noGC]
    | some c => exact hF.2 c (List.mem_of_getElem? hi)
  refine twice_row g cap cs.length _ _ (fun i => (vs[i]?.getD noGV).v.a) (fun i => match (vs[i]?.getD noGV).v.a with | some a => a.block | none => 0) _ (fun i => (vs[i]?.getD noGV).v.c) _ _ w hg (by have := hF.1; omega) (fun i => by have := (hmem i).1; omega) (fun i => by omega) (fun i j => ?_) (fun i hi => ?_) (fun i j hi hj => ?_)
  · cases hj : (cs[i]?.getD noGC).l[j]? with
    | none => simp [noGF]
    | some f => exact (hmem i).2 f (List.mem_of_getElem? hj)
  · obtain ⟨x, c, h1, h2, h3, h4, h5⟩ := hRV i hi
    have := hc i hi
    rw [h1] at this ⊢
    obtain ⟨ra, rc, rv, _⟩ := h5.cells
    have e : x.v.n = c.l.length := by
      have : (Value.slice x.v.a x.v.n x.v.c) = .slice ra c.l.length rc := rv
      injection this
    rw [h2]
    obtain ⟨c0, c1, c2, c3, c4⟩ := this
    simp only [Option.getD_some] at c0 c1 c2 c3 c4 ⊢
    rw [h3] at c0; rw [h4] at c2; rw [e] at c4
    exact ⟨c0, c1, c2, c3, c4⟩
  · obtain ⟨x, c, h1, h2, h3, h4, h5⟩ := hRV i hi
    rw [h2] at hj ⊢
    rw [h1]
    simp only [Option.getD_some] at hj ⊢
    obtain ⟨ra, rc, rv, _, r⟩ := h5.cells
    obtain ⟨g', rfl, hg', hcell⟩ := r (by omega)
    have e : x.v.a = some ⟨g', 0, none⟩ := by
      have : (Value.slice x.v.a x.v.n x.v.c) = .slice (some ⟨g', 0, none⟩) c.l.length rc := rv
      injection this
    rw [e]
    have := hcell j hj
    exact ⟨rfl, hg', ⟨this.c0, this.c2⟩⟩

/-- What Schema answers. -/
def SchemaR (s : ByteArray) (E P : Int) : Prop :=
  (200 < s.size ∧ E = 1 ∧ P = 0) ∨ (¬ 200 < s.size ∧ gaAll s = none ∧ E = 2 ∧ P = (wrongN s s.size 0 : Nat)) ∨
  (¬ 200 < s.size ∧ ∃ cs b, gaAll s = some cs ∧ Least (Rep cs) b ∧ ((0 ≤ b ∧ E = 3 ∧ P = b) ∨ (b < 0 ∧ E = 0 ∧ P = 0)))
def SPost (s : ByteArray) (w : World) (e : Ending) (w' : World) : Prop := ∃ (a : Option Addr) (n c : Nat) (E P : Int),
  e = .returned (.tuple #[.slice a n c, .int .i64 E, .int .i64 P]) ∧ SchemaR s E P ∧ (E = 0 → ∃ cs vs, gaAll s = some cs ∧ RCls w' w.heap.size (.slice a n c) vs cs) ∧ Below w.heap.size w w'

theorem all_some {u : ByteArray} {w : World} {cs : List GC} (hm : u.size ≤ 800) (hy : gaAll u = some cs) :
    Calls Tryd.prog 10 #[.string u, .bool false] w fun e w' => ∃ a n c vs, e = .returned (.tuple #[.slice a n c, .bool true]) ∧ RCls w' w.heap.size (.slice a n c) vs cs ∧ Below w.heap.size w w' := by
  refine (all_any u w hm).mono fun _ _ ⟨a, n, c, h1, h2, h3⟩ => ?_
  obtain ⟨vs, hv⟩ := h2 cs hy
  exact ⟨a, n, c, vs, by rw [h1, hy]; rfl, hv, h3⟩

set_option maxHeartbeats 400000 in
set_option maxRecDepth 20000 in
theorem schema_any (s : ByteArray) (w : World) (hm : s.size ≤ 9223372036854775807) (hE : Ends w) :
    Calls Tryd.prog 6 #[.string s] w (SPost s w) := by
  have HE : Hid (Ends w) := hE
  clear hE
  by_cases h : 200 < s.size
  · go_enter Tryd.func6, Tryd.ntmps6
    go_wp2
    go_ret3
    exact ⟨_, _, _, _, _, rfl, .inl ⟨h, rfl, rfl⟩, (fun h => by cases h), Below.refl _ _⟩
  cases ha : gaAll s with
  | none =>
    have H : Hid (gaAll s = none) := ha
    have hle : s.size ≤ 200 := by omega
    clear ha h
    go_enter Tryd.func6, Tryd.ntmps6
    go_wp2_with (first | (go_at_call 10; refine (all_rs (by omega) false (by rw [H.out]; rfl)).mono ?_; rintro e w1 ⟨aa, an, ac, rfl, hb1⟩) | (go_at_call 11; refine (wrong_any s _ (by omega) (HE.out.below hb1)).mono ?_; rintro e w2 ⟨rfl, hb2⟩))
    go_ret3
    exact ⟨_, _, _, _, _, rfl, .inr (.inl ⟨by omega, H.out, rfl, rfl⟩), (fun h => by cases h), hb1.trans (hb2.mono hb1.size)⟩
  | some cs =>
    have H : Hid (gaAll s = some cs) := ha
    have hle : s.size ≤ 200 := by omega
    have HO := gaAll_ok s cs ha
    have HF : Hid (Fine cs) := HO.1
    have HN : Hid (cs ≠ []) := HO.2
    clear ha h HO
    go_enter Tryd.func6, Tryd.ntmps6
    go_wp2_with (first | (go_at_call 10; refine (all_some (by omega) H.out).mono ?_; rintro e w1 ⟨aa, an, ac, vs, rfl, V1, hb1⟩) | (go_at_call 12; refine (twice_any cs vs _ _ _ V1 HF.out HN.out).mono ?_; rintro e w2 ⟨b, rfl, hL, hb2⟩))
    · have h0 : 0 ≤ b := by assumption
      go_ret3
      exact ⟨_, _, _, _, _, rfl, .inr (.inr ⟨by omega, cs, b, H.out, hL, .inl ⟨h0, rfl, rfl⟩⟩), (fun h => by cases h), hb1.trans (hb2.mono hb1.size)⟩
    · have h0 : b < 0 := by omega
      go_ret3
      exact ⟨_, _, _, _, _, rfl, .inr (.inr ⟨by omega, cs, b, H.out, hL, .inr ⟨h0, rfl, rfl⟩⟩), fun _ => ⟨cs, vs, H.out, V1.below hb2⟩, hb1.trans (hb2.mono hb1.size)⟩
end Go.Proofs.YthckelcjncnalaaDoor
