import Derived.Test.YtbgilndohccicabMz28
import Derived.Test.YtbgilndohccicabMz22
import Derived.Test.YtbgilndohccicabMz41
import Derived.Test.YtbgilndohccicabMz38
namespace Go.Proofs.Ytbgilndohccicab
open Go.RowKit

/-- Sums over the letters of A, and what they mean. -/
inductive FacA (A : Int → Prop) (num : Int → Int) (S : List Int → Int → Prop) : List Int → Int → Prop
  | num (n : Nat) (h : n < 1000000000) : FacA A num S (dgL n) n
  | lt (c : Int) (h : 97 ≤ c ∧ c ≤ 122) (hc : A c) : FacA A num S [c] (num c)
  | par {s : List Int} {n : Int} (h : S s n) : FacA A num S (40 :: (s ++ [41])) n
def SumA (A : Int → Prop) (num : Int → Int) : Nat → (List Int → Int → Prop)
  | 0 => fun _ _ => False
  | d + 1 => Smm (Prd (FacA A num (SumA A num d)))
def okA (A : Int → Prop) (t : GT) : Prop := isOpB t.w = true ∨ t.w = 48 ∨ A t.w
def RdA (A : Int → Prop) (T : ByteArray) (num : Int → Int) (stop : Int → Prop) (f : Nat → List GT → SumR) (s : List Int) (n : Int) : Prop :=
  ∀ k, At T k s → k + s.length ≤ T.size → stop (nextB T (k + s.length)) → ∃ ps, (∀ ts, f k ts = ⟨true, k + s.length, ts ++ ps⟩) ∧ (∀ l, ev num ps l = l ++ [n]) ∧ (∀ t ∈ ps, okA A t) ∧ 0 < ps.length
theorem letter_op {c : Int} (h : 97 ≤ c ∧ c ≤ 122) : isOpB c = false ∧ c ≠ 48 := by
  refine ⟨?_, by omega⟩
  unfold isOpB
  have a1 : (c == 43) = false := by simp; omega
  have a2 : (c == 45) = false := by simp; omega
  have a3 : (c == 42) = false := by simp; omega
  rw [a1, a2, a3]; rfl
theorem fac_ra {T : ByteArray} {num : Int → Int} {A : Int → Prop} {S : List Int → Int → Prop} {sm : Option (Nat → List GT → SumR)} (hS : ∀ s n, S s n → ∃ f, sm = some f ∧ RdA A T num sumStop f s n) {s : List Int} {n : Int} (h : FacA A num S s n) : RdA A T num facStop (facR T sm) s n := by
  intro k hA hk hst
  cases h with
  | num n h =>
    have hd := dgL_head hA
    have hg := gNum_all T n h k hA hst
    refine ⟨[⟨48, n, k⟩], fun ts => ?_, fun l => ?_, fun t ht => ?_, by simp⟩
    · unfold facR; rw [if_pos hd, hg]
    · rfl
    · simp at ht; subst ht; exact .inr (.inl rfl)
  | lt c h hc =>
    have e := hA.head
    refine ⟨[⟨c, 0, k⟩], fun ts => ?_, fun l => ?_, fun t ht => ?_, by simp⟩
    · unfold facR; rw [if_neg (by omega), if_pos (by omega), e]; rfl
    · show ev num [⟨c, 0, k⟩] l = _
      simp [ev, ev1, letter_op h]
    · simp at ht; subst ht; exact .inr (.inr hc)
  | @par s n h =>
    obtain ⟨f, rfl, hf⟩ := hS s n h
    have e := hA.head
    have hA2 := hA.tail
    have e2 := hA2.right.head
    simp only [List.length_cons, List.length_append, List.length_nil] at hk hst
    obtain ⟨ps, h1, h2, h3, h4⟩ := hf (k + 1) hA2.left (by omega) (by rw [e2]; exact ⟨⟨by unfold facStop; omega, rfl⟩, rfl⟩)
    refine ⟨ps, fun ts => ?_, h2, h3, h4⟩
    unfold facR
    rw [if_neg (by omega), if_neg (by omega), if_neg (by omega)]
    simp only [h1]
    rw [if_pos ⟨trivial, e2⟩]
    simp only [List.length_cons, List.length_append, List.length_nil]
    congr 1
    omega
theorem prd_sa {A : Int → Prop} {T : ByteArray} {num : Int → Int} {f : Nat → List GT → SumR} {F : List Int → Int → Prop} (hF : ∀ s n, F s n → RdA A T num facStop f s n) {s : List Int} {n : Int} (h : Prd F s n) : ∀ k, At T k s → k + s.length ≤ T.size → facStop (nextB T (k + s.length)) →
    ∃ ps j, j ≤ s.length ∧ (∀ ts m, opLoop T isMul f (m + j) (f k ts) = opLoop T isMul f m ⟨true, k + s.length, ts ++ ps⟩) ∧ (∀ l, ev num ps l = l ++ [n]) ∧ (∀ t ∈ ps, okA A t) ∧ 0 < ps.length := by
  induction h with
  | one h =>
    intro k hA hk hst
    obtain ⟨ps, h1, h2, h3, h4⟩ := hF _ _ h k hA hk hst
    exact ⟨ps, 0, Nat.zero_le _, fun ts m => by rw [h1]; rfl, h2, h3, h4⟩
  | @more s t n m h g ih =>
    intro k hA hk hst
    have e := hA.right.head
    have hA2 := hA.right.tail
    simp only [List.length_cons, List.length_append] at hk hst
    obtain ⟨ps1, j1, g1, g2, g3, g4, g5⟩ := ih k hA.left (by omega) (by rw [e]; unfold facStop; omega)
    obtain ⟨ps2, p1, p2, p3, p4⟩ := hF t m g (k + s.length + 1) hA2 (by omega) (by rw [show k + s.length + 1 + t.length = k + (s.length + (t.length + 1)) by omega]; exact hst)
    refine ⟨ps1 ++ ps2 ++ [⟨42, 0, ((k + s.length : Nat) : Int)⟩], j1 + 1, by simp; omega, fun ts q => ?_, fun l => ?_, fun x hx => ?_, by simp; omega⟩
    · rw [show q + (j1 + 1) = q + 1 + j1 by omega, g2, opLoop_step T isMul f _ ⟨rfl, by simp only [e]; rfl⟩]
      congr 1
      unfold opStep
      simp only [p1, e]
      simp only [List.length_cons, List.length_append, List.append_assoc]
      congr 1
      omega
    · rw [ev_app, ev_app, g3, p2, ev_sign num 42 _ rfl]; rfl
    · rcases List.mem_append.1 hx with hx | hx
      · rcases List.mem_append.1 hx with hx | hx
        · exact g4 x hx
        · exact p3 x hx
      · simp at hx; subst hx; exact .inl rfl
theorem prd_ra {A : Int → Prop} {T : ByteArray} {num : Int → Int} {sm : Option (Nat → List GT → SumR)} {F : List Int → Int → Prop} (hF : ∀ s n, F s n → RdA A T num facStop (facR T sm) s n) {s : List Int} {n : Int} (h : Prd F s n) : RdA A T num prdStop (prodR T sm) s n := by
  intro k hA hk hst
  obtain ⟨ps, j, hj, h1, h2, h3, h4⟩ := prd_sa hF h k hA hk hst.1
  refine ⟨ps, fun ts => ?_, h2, h3, h4⟩
  unfold prodR
  have e := h1 ts (T.size + 1 - j)
  rw [show T.size + 1 - j + j = T.size + 1 by omega] at e
  rw [e, opLoop_stop]
  simp only [hst.2]
  simp
theorem smm_sa {A : Int → Prop} {T : ByteArray} {num : Int → Int} {f : Nat → List GT → SumR} {P : List Int → Int → Prop} (hP : ∀ s n, P s n → RdA A T num prdStop f s n) {s : List Int} {n : Int} (h : Smm P s n) : ∀ k, At T k s → k + s.length ≤ T.size → prdStop (nextB T (k + s.length)) →
    ∃ ps j, j ≤ s.length ∧ (∀ ts m, opLoop T isAdd f (m + j) (f k ts) = opLoop T isAdd f m ⟨true, k + s.length, ts ++ ps⟩) ∧ (∀ l, ev num ps l = l ++ [n]) ∧ (∀ t ∈ ps, okA A t) ∧ 0 < ps.length := by
  have step : ∀ (c : Int) (hc : isAdd c = true) (s t : List Int) (n m : Int) (g : P t m) (ih : ∀ k, At T k s → k + s.length ≤ T.size → prdStop (nextB T (k + s.length)) →
    ∃ ps j, j ≤ s.length ∧ (∀ ts m, opLoop T isAdd f (m + j) (f k ts) = opLoop T isAdd f m ⟨true, k + s.length, ts ++ ps⟩) ∧ (∀ l, ev num ps l = l ++ [n]) ∧ (∀ t ∈ ps, okA A t) ∧ 0 < ps.length) (k : Nat) (hA : At T k (s ++ c :: t)) (hk : k + (s ++ c :: t).length ≤ T.size) (hst : prdStop (nextB T (k + (s ++ c :: t).length))),
    ∃ ps j, j ≤ (s ++ c :: t).length ∧ (∀ ts m, opLoop T isAdd f (m + j) (f k ts) = opLoop T isAdd f m ⟨true, k + (s ++ c :: t).length, ts ++ ps⟩) ∧ (∀ l, ev num ps l = l ++ [joinI n c m]) ∧ (∀ t ∈ ps, okA A t) ∧ 0 < ps.length := by
    intro c hc s t n m g ih k hA hk hst
    have hc' : c = 43 ∨ c = 45 := by unfold isAdd at hc; simpa using hc
    have hsg : isOpB c = true := by rcases hc' with rfl | rfl <;> rfl
    have e := hA.right.head
    have hA2 := hA.right.tail
    simp only [List.length_cons, List.length_append] at hk hst
    obtain ⟨ps1, j1, g1, g2, g3, g4, g5⟩ := ih k hA.left (by omega) (by rw [e]; refine ⟨by unfold facStop; omega, ?_⟩; rcases hc' with rfl | rfl <;> rfl)
    obtain ⟨ps2, p1, p2, p3, p4⟩ := hP t m g (k + s.length + 1) hA2 (by omega) (by rw [show k + s.length + 1 + t.length = k + (s.length + (t.length + 1)) by omega]; exact hst)
    refine ⟨ps1 ++ ps2 ++ [⟨c, 0, ((k + s.length : Nat) : Int)⟩], j1 + 1, by simp; omega, fun ts q => ?_, fun l => ?_, fun x hx => ?_, by simp; omega⟩
    · rw [show q + (j1 + 1) = q + 1 + j1 by omega, g2, opLoop_step T isAdd f _ ⟨rfl, by simp only [e]; exact hc⟩]
      congr 1
      unfold opStep
      simp only [p1, e]
      simp only [List.length_cons, List.length_append, List.append_assoc]
      congr 1
      omega
    · rw [ev_app, ev_app, g3, p2, ev_sign num c _ hsg]
    · rcases List.mem_append.1 hx with hx | hx
      · rcases List.mem_append.1 hx with hx | hx
        · exact g4 x hx
        · exact p3 x hx
      · simp at hx; subst hx; exact .inl hsg
  induction h with
  | one h =>
    intro k hA hk hst
    obtain ⟨ps, h1, h2, h3, h4⟩ := hP _ _ h k hA hk hst
    exact ⟨ps, 0, Nat.zero_le _, fun ts m => by rw [h1]; rfl, h2, h3, h4⟩
  | @add s t n m h g ih => exact fun k hA hk hst => step 43 rfl s t n m g ih k hA hk hst
  | @sub s t n m h g ih => exact fun k hA hk hst => step 45 rfl s t n m g ih k hA hk hst
theorem sum_ra {T : ByteArray} {num : Int → Int} {A : Int → Prop} : ∀ d L, d ≤ L + 1 → ∀ s n, SumA A num d s n → RdA A T num sumStop (sumRL T L) s n := by
  intro d
  induction d with
  | zero => intro L _ s n h; exact h.elim
  | succ d ih =>
    intro L hL s n h
    have hF : ∀ s n, FacA A num (SumA A num d) s n → RdA A T num facStop (facR T (lvl T L)) s n := fun s n h => by
      refine fac_ra (fun s n hs => ?_) h
      cases L with
      | zero =>
        have : d = 0 := by omega
        subst this; exact hs.elim
      | succ L => exact ⟨sumRL T L, rfl, ih L (by omega) s n hs⟩
    have hP : ∀ s n, Prd (FacA A num (SumA A num d)) s n → RdA A T num prdStop (prodR T (lvl T L)) s n := fun s n h => prd_ra hF h
    intro k hA hk hst
    obtain ⟨ps, j, hj, h1, h2, h3, h4⟩ := smm_sa hP h k hA hk hst.1
    refine ⟨ps, fun ts => ?_, h2, h3, h4⟩
    rw [sumRL_lvl]
    unfold sumR0
    have e := h1 ts (T.size + 1 - j)
    rw [show T.size + 1 - j + j = T.size + 1 by omega] at e
    rw [e, opLoop_stop]
    simp only [hst.2]
    simp
end Go.Proofs.Ytbgilndohccicab
namespace Go.Proofs.Ytbgilndohccicab
open Go.RowKit

/-- The schema and the update that the sums are written into. -/
def rF : List (Int × Int) := [(120, 108), (121, 119)]
def rC : Sch := [(80, rF)]
def rTail : List Int := [44, 98, 58, 108, 44, 120, 58, 98, 44, 121, 58, 119, 61, 120, 33, 125]
def rTxt (s : List Int) : List Int := [80, 123, 97, 58, 104, 61] ++ (s ++ rTail)
def nF : List (Int × Int) := [(97, 104), (98, 108), (120, 98), (121, 119)]
def rM (p1 p2 : List GT) : PM := ⟨80, nF, 80, [⟨p1.map (ptOf rF), false⟩, ⟨[], false⟩, ⟨[⟨120, 0, 0⟩], false⟩, ⟨p2.map (ptOf rF), true⟩]⟩
theorem At.get {s : ByteArray} {k : Nat} {t : List Int} (h : At s k t) (j : Nat) (x : Int) (hx : t[j]? = some x) : nextB s (k + j) = x := by
  rw [h j (List.getElem?_eq_some_iff.1 hx).1, hx]; rfl
theorem rule_sum {T : ByteArray} {num : Int → Int} {v w : Int} (hx : num 120 = v) (hy : num 121 = w) {d : Nat} (hd : d ≤ 7) {s : List Int} {n : Int} (h : SumS v w d s n) {k : Nat} {c : Int} (hA : At T k (61 :: (s ++ [c]))) (hk : k + 1 + s.length ≤ T.size) (hc : sumStop c) :
    ∃ ps, upRule T k = ⟨true, if c = 33 then k + 1 + s.length + 1 else k + 1 + s.length, ps, ((k + 1 : Nat) : Int), c == 33⟩ ∧ (∀ l, ev num ps l = l ++ [n]) ∧ (∀ t ∈ ps, okT t) ∧ 0 < ps.length := by
  have e1 := hA.head
  have e2 := hA.tail.right.head
  obtain ⟨ps, h1, h2, h3, h4⟩ := sum_rd hx hy d 6 hd s n h (k + 1) hA.tail.left hk (by rw [e2]; exact hc)
  refine ⟨ps, ?_, h2, h3, h4⟩
  unfold upRule
  rw [if_pos e1, h1 []]
  simp only [List.nil_append, e2, if_true]
theorem rule_none {T : ByteArray} {k : Nat} {c : Int} (h : nextB T k = c) (hc : c ≠ 61) : upRule T k = ⟨true, k, [], 0, false⟩ := by
  unfold upRule; rw [if_neg (by rw [h]; exact hc)]
theorem field_at {T : ByteArray} {k : Nat} {l kd : Int} (e0 : nextB T k = l) (e1 : nextB T (k + 1) = 58) (e2 : nextB T (k + 1 + 1) = kd) (hl : 97 ≤ l ∧ l ≤ 122) (hk : isKindB kd = true) {a : Nat} {ts : List GT} {sp : Int} {ex : Bool} (hR : upRule T (k + 1 + 1 + 1) = ⟨true, a, ts, sp, ex⟩) : gdField upRule T k = ⟨true, a, ⟨l, k, kd, ts, sp, ex⟩⟩ := by
  unfold gdField
  rw [e0, e1, e2, hR, hk, if_neg (by simp [hl.1, hl.2]), if_neg (by decide), if_neg (by decide), if_neg (by simp)]
theorem loop_more {T : ByteArray} {n : Nat} {fs : List GFd} {k a : Nat} {f : GFd} (hF : gdField upRule T k = ⟨true, a, f⟩) (hl : fs.length ≠ 5) (hc : nextB T a = 44) : gdLoop upRule T (n + 1) fs k = gdLoop upRule T n (fs ++ [f]) (a + 1) := by
  rw [gdLoop, hF]
  simp only []
  rw [if_neg (by decide), if_neg (by rw [hc]; decide), if_neg (by rw [hc]; simp [hl])]
theorem loop_last {T : ByteArray} {n : Nat} {fs : List GFd} {k a : Nat} {f : GFd} (hF : gdField upRule T k = ⟨true, a, f⟩) (hc : nextB T a = 125) : gdLoop upRule T (n + 1) fs k = ⟨true, a + 1, fs ++ [f]⟩ := by
  rw [gdLoop, hF]
  simp only []
  rw [if_neg (by decide), if_pos hc]
theorem fNum_ok : ∀ ps : List GT, (∀ t ∈ ps, okT t) → fNum rF ps = (0, 0) := by
  intro ps
  induction ps with
  | nil => intro _; rfl
  | cons t r ih =>
    intro h
    have ih := ih fun x hx => h x (List.mem_cons_of_mem _ hx)
    rw [fNum, ih]
    rcases h t List.mem_cons_self with h1 | h1 | h1 | h1
    · have : isLw t.w = false := by
        unfold isOpB at h1
        simp at h1
        rcases h1 with (h1 | h1) | h1 <;> rw [h1] <;> rfl
      rw [this]; rfl
    · rw [h1]; rfl
    · rw [h1]; rfl
    · rw [h1]; rfl
/-- What the text is read as. -/
theorem up_run {T : ByteArray} {num : Int → Int} {v w : Int} (hx : num 120 = v) (hy : num 121 = w) {d : Nat} (hd : d ≤ 7) {s : List Int} {n : Int} (h : SumS v w d s n) (hT : bytesOf T = rTxt s) (hz : T.size ≤ 200) :
    ∃ p1 p2, uE rC T = 0 ∧ uP rC T = 0 ∧ uM rC T = [rM p1 p2] ∧ (∀ l, ev num p1 l = l ++ [n]) ∧ (∀ l, ev num p2 l = l ++ [v]) ∧ p1.length ≤ 200 ∧ p2.length ≤ 200 := by
  have hA : At T 0 (rTxt s) := At.all hT
  have hsz : T.size = 22 + s.length := by rw [← bytesOf_len, hT]; simp [rTxt, rTail]; omega
  have g0 := hA.left
  have g1 := hA.right
  have g2 := g1.right
  rw [show ([80, 123, 97, 58, 104, 61] : List Int).length = 6 from rfl, Nat.zero_add] at g1 g2
  have q := fun j x (hj : rTail[j]? = some x) => g2.get j x hj
  have b := fun j x (hj : ([80, 123, 97, 58, 104, 61] : List Int)[j]? = some x) => (show nextB T j = x by have := g0.get j x hj; rwa [Nat.zero_add] at this)
  obtain ⟨L, hL⟩ : ∃ L, L = s.length := ⟨_, rfl⟩
  rw [← hL] at hsz q g2
  have A1 : At T 5 (61 :: (s ++ [44])) := by
    intro j hj
    rcases Nat.lt_or_ge j 1 with h0 | h0
    · have : j = 0 := by omega
      subst this; exact b 5 61 rfl
    · obtain ⟨i, rfl⟩ : ∃ i, j = i + 1 := ⟨j - 1, by omega⟩
      simp only [List.length_cons, List.length_append, List.length_nil] at hj
      have := g1 i (by simp [rTail]; omega)
      rw [show 5 + (i + 1) = 6 + i by omega, this, List.getElem?_cons_succ]
      rcases Nat.lt_or_ge i s.length with h1 | h1
      · rw [List.getElem?_append_left h1, List.getElem?_append_left h1]
      · have : i = s.length := by omega
        subst this
        rw [List.getElem?_append_right (Nat.le_refl _), List.getElem?_append_right (Nat.le_refl _), Nat.sub_self]; rfl
  have A2 : At T (6 + L + 12) (61 :: ([120] ++ [33])) := by
    intro j hj
    have : j = 0 ∨ j = 1 ∨ j = 2 := by simp at hj; omega
    rcases this with rfl | rfl | rfl
    · exact q 12 61 rfl
    · exact q 13 120 rfl
    · exact q 14 33 rfl
  obtain ⟨p1, r1, v1, o1, l1⟩ := rule_sum hx hy hd h A1 (by omega) ⟨⟨by unfold facStop; omega, rfl⟩, rfl⟩
  obtain ⟨p2, r2, v2, o2, l2⟩ := rule_sum hx hy (d := 1) (by omega) (Smm.one (Prd.one (Fac.x (S := SumS v w 0)))) A2 (by simp; omega) ⟨⟨by unfold facStop; omega, rfl⟩, rfl⟩
  rw [if_neg (by decide), ← hL] at r1
  rw [if_pos rfl] at r2
  have F1 := field_at (b 2 97 rfl) (b 3 58 rfl) (b 4 104 rfl) ⟨by decide, by decide⟩ rfl r1
  have F2 := field_at (T := T) (k := 6 + L + 1) (q 1 98 rfl) (q 2 58 rfl) (q 3 108 rfl) ⟨by decide, by decide⟩ rfl (rule_none (q 4 44 rfl) (by decide))
  have F3 := field_at (T := T) (k := 6 + L + 5) (q 5 120 rfl) (q 6 58 rfl) (q 7 98 rfl) ⟨by decide, by decide⟩ rfl (rule_none (q 8 44 rfl) (by decide))
  have F4 := field_at (T := T) (k := 6 + L + 9) (q 9 121 rfl) (q 10 58 rfl) (q 11 119 rfl) ⟨by decide, by decide⟩ rfl r2
  obtain ⟨fs, hfs⟩ : ∃ fs, fs = ([] ++ [(⟨97, (2 : Nat), 104, p1, ((5 + 1 : Nat) : Int), false⟩ : GFd)] ++ [⟨98, ((6 + L + 1 : Nat) : Int), 108, [], 0, false⟩] ++ [⟨120, ((6 + L + 5 : Nat) : Int), 98, [], 0, false⟩] ++ [⟨121, ((6 + L + 9 : Nat) : Int), 119, p2, ((6 + L + 12 + 1 : Nat) : Int), true⟩] : List GFd) := ⟨_, rfl⟩
  have hG : gdLoop upRule T 6 [] 2 = ⟨true, T.size, fs⟩ := by
    rw [loop_more F1 (by decide) (by have := q 0 44 rfl; rw [show 5 + 1 + L = 6 + L + 0 by omega]; exact this), show 5 + 1 + L + 1 = 6 + L + 1 by omega,
      loop_more F2 (by simp) (q 4 44 rfl), loop_more (k := 6 + L + 1 + 1 + 1 + 1 + 1) F3 (by simp) (q 8 44 rfl),
      loop_last (k := 6 + L + 5 + 1 + 1 + 1 + 1) F4 (by have := q 15 125 rfl; exact this), hfs]
    congr 1
    simp; omega
  have hGF : gdFields upRule T 2 = ⟨true, T.size, fs⟩ := by unfold gdFields; rw [if_neg (by rw [b 2 97 rfl]; decide)]; exact hG
  have hFr : upFrom T 1 = ⟨true, 1, 0, 0⟩ := by unfold upFrom; rw [if_neg (by rw [b 1 123 rfl]; decide)]
  have hC : gdClass upRule upFrom T 0 = ⟨true, T.size, ⟨80, (0 : Nat), 0, 0, fs⟩⟩ := by
    unfold gdClass
    simp only [Nat.zero_add, hFr, b 0 80 rfl, b 1 123 rfl, hGF]
    rw [if_neg (by decide), if_neg (by decide), if_neg (by decide), if_neg (by decide)]
  have hU : uR T = ⟨true, T.size, [⟨80, (0 : Nat), 0, 0, fs⟩]⟩ := by
    unfold uR
    rw [gcLoop, hC]
    simp only []
    rw [if_neg (by decide), if_pos trivial]; rfl
  have hB := uR_bound T
  rw [hU] at hB
  have e1 : gdE (uR T) T = 0 := by unfold gdE; rw [if_neg (by omega), hU]; rfl
  have e2 : fTw (vsO rC) (uR T).cs = -1 := by rw [hU, hfs]; rfl
  have e3 : gFault (vsO rC) rC (uR T).cs = (0, 0) := by
    rw [hU]
    show (if _ then _ else if (gFlds rF fs).1 ≠ 0 then gFlds rF fs else (0, 0)) = _
    have : gFlds rF fs = (0, 0) := by
      rw [hfs]
      simp only [List.nil_append, List.cons_append, gFlds, fFld, fNum_ok p1 o1, fNum_ok p2 o2]
      rfl
    rw [this]; rfl
  have m1 : p1.length ≤ 200 := Nat.le_trans ((hB.2 _ List.mem_cons_self).2 ⟨97, (2 : Nat), 104, p1, ((5 + 1 : Nat) : Int), false⟩ (by rw [hfs]; simp)) hz
  have m2 : p2.length ≤ 200 := Nat.le_trans ((hB.2 _ List.mem_cons_self).2 ⟨121, ((6 + L + 9 : Nat) : Int), 119, p2, ((6 + L + 12 + 1 : Nat) : Int), true⟩ (by rw [hfs]; simp)) hz
  have e0 : uE rC T = 0 := by unfold uE; rw [if_neg (by rw [e1]; decide), if_neg (by rw [e2]; decide), e3]
  refine ⟨p1, p2, e0, ?_, ?_, v1, v2, m1, m2⟩
  · unfold uP; rw [if_neg (by rw [e1]; decide), if_neg (by rw [e2]; decide), e3]; rfl
  · unfold uM
    rw [if_pos e0, hU]
    show [mkOf (vsO rC) rC _] = _
    congr 1
    unfold mkOf rM
    rw [hfs]
    have c1 : prOf rF ⟨97, (2 : Nat), 104, p1, ((5 + 1 : Nat) : Int), false⟩ = ⟨p1.map (ptOf rF), false⟩ := by unfold prOf; rw [if_neg (by simp only []; omega)]
    have c2 : prOf rF ⟨121, ((6 + L + 9 : Nat) : Int), 119, p2, ((6 + L + 12 + 1 : Nat) : Int), true⟩ = ⟨p2.map (ptOf rF), true⟩ := by unfold prOf; rw [if_neg (by simp only []; omega)]
    have hf : fof rC (srcI (vsO rC) 80 0) = rF := rfl
    simp only [hf, List.nil_append, List.cons_append, List.map_cons, List.map_nil, c1, c2]
    rfl
end Go.Proofs.Ytbgilndohccicab
namespace Go.Proofs.Ytbgilndohccicab
open Go.RowKit

theorem rule_sumA {A : Int → Prop} {T : ByteArray} {num : Int → Int} {d : Nat} (hd : d ≤ 7) {s : List Int} {n : Int} (h : SumA A num d s n) {k : Nat} {c : Int} {t : List Int} (hA : At T k (61 :: (s ++ c :: t))) (hk : k + 1 + s.length ≤ T.size) (hc : sumStop c) :
    ∃ ps, upRule T k = ⟨true, if c = 33 then k + 1 + s.length + 1 else k + 1 + s.length, ps, ((k + 1 : Nat) : Int), c == 33⟩ ∧ (∀ t ∈ ps, okA A t) ∧ 0 < ps.length := by
  have e1 := hA.head
  have e2 := hA.tail.right.head
  obtain ⟨ps, h1, h2, h3, h4⟩ := sum_ra d 6 hd s n h (k + 1) hA.tail.left hk (by rw [e2]; exact hc)
  refine ⟨ps, ?_, h3, h4⟩
  unfold upRule
  rw [if_pos e1, h1 []]
  simp only [List.nil_append, e2, if_true]
/-- A letter alone, or 0 alone. -/
theorem rule_one {T : ByteArray} {k : Nat} {x c : Int} {t : List Int} (hA : At T k (61 :: x :: c :: t)) (hx : (97 ≤ x ∧ x ≤ 122) ∨ x = 48) (hc : sumStop c) (h33 : c ≠ 33) : upRule T k = ⟨true, k + 2, [⟨x, 0, ((k + 1 : Nat) : Int)⟩], ((k + 1 : Nat) : Int), false⟩ := by
  have e1 := hA.head
  have e2 := hA.tail.head
  have e3 := hA.tail.tail.head
  have hf : ∀ sm, facR T sm (k + 1) [] = ⟨true, k + 2, [⟨x, 0, ((k + 1 : Nat) : Int)⟩]⟩ := by
    intro sm
    unfold facR
    rcases hx with hx | hx
    · rw [if_neg (by omega), if_pos (by omega), e2]; rfl
    · subst hx
      rw [if_pos (by omega)]
      have : gNum T 9 (k + 1) 0 = (0, k + 1 + 1) := by rw [gNum, if_pos (by omega), if_pos (by omega)]
      rw [this]; rfl
  have hp : ∀ sm, prodR T sm (k + 1) [] = ⟨true, k + 2, [⟨x, 0, ((k + 1 : Nat) : Int)⟩]⟩ := by
    intro sm
    unfold prodR
    rw [hf, opLoop_stop]
    simp only [e3]
    rw [hc.1.2]; simp
  have hs : sumRL T 6 (k + 1) [] = ⟨true, k + 2, [⟨x, 0, ((k + 1 : Nat) : Int)⟩]⟩ := by
    rw [sumRL_lvl]
    unfold sumR0
    rw [hp, opLoop_stop]
    simp only [e3]
    rw [hc.2]; simp
  unfold upRule
  rw [if_pos e1, hs]
  simp only [e3, if_true]
  rw [if_neg h33]
  congr 1
  simp [h33]
theorem At.sub {T : ByteArray} {k : Nat} {a b : List Int} (h : At T k (a ++ b)) (j : Nat) (x : Int) (hx : a[j]? = some x) : nextB T (k + j) = x := h.left.get j x hx
theorem cls_at {T : ByteArray} {k : Nat} {L fl fp : Int} {a e : Nat} {fs : List GFd} (h0 : nextB T k = L) (hL : 65 ≤ L ∧ L ≤ 90) (hF : upFrom T (k + 1) = ⟨true, a, fl, fp⟩) (h1 : nextB T a = 123) (hS : gdFields upRule T (a + 1) = ⟨true, e, fs⟩) : gdClass upRule upFrom T k = ⟨true, e, ⟨L, k, fl, fp, fs⟩⟩ := by
  unfold gdClass
  rw [h0, hF]
  simp only [h1, hS]
  rw [if_neg (by simp [hL.1, hL.2]), if_neg (by decide), if_neg (by decide), if_neg (by decide)]
theorem from_none {T : ByteArray} {k : Nat} {c : Int} (h : nextB T k = c) (hc : c ≠ 60) : upFrom T k = ⟨true, k, 0, 0⟩ := by
  unfold upFrom; rw [if_neg (by rw [h]; exact hc)]
theorem from_some {T : ByteArray} {k : Nat} {L : Int} (h : nextB T k = 60) (h1 : nextB T (k + 1) = L) (hL : 65 ≤ L ∧ L ≤ 90) : upFrom T k = ⟨true, k + 2, L, ((k + 1 : Nat) : Int)⟩ := by
  unfold upFrom; rw [if_pos h, h1, if_pos hL]
theorem fields_at {T : ByteArray} {k e : Nat} {c : Int} {fs : List GFd} (h : nextB T k = c) (hc : c ≠ 125) (hG : gdLoop upRule T 6 [] k = ⟨true, e, fs⟩) : gdFields upRule T k = ⟨true, e, fs⟩ := by
  unfold gdFields; rw [if_neg (by rw [h]; exact hc)]; exact hG
/-- Two classes. -/
theorem two_classes {T : ByteArray} {e : Nat} {c d : GCd} (h1 : gdClass upRule upFrom T 0 = ⟨true, e, c⟩) (he : e ≠ T.size) (h2 : gdClass upRule upFrom T e = ⟨true, T.size, d⟩) : uR T = ⟨true, T.size, [c, d]⟩ := by
  unfold uR
  rw [gcLoop, h1]
  simp only []
  rw [if_neg (by decide), if_neg he, gcLoop, h2]
  simp only []
  rw [if_neg (by decide), if_pos trivial]; rfl
theorem okA_num {fs : List (Int × Int)} {A : Int → Prop} (hA : ∀ c, A c → isLw c = true ∧ (kdF fs c).2 = true ∧ (kdF fs c).1 ≠ 114) : ∀ ps : List GT, (∀ t ∈ ps, okA A t) → fNum fs ps = (0, 0) := by
  intro ps
  induction ps with
  | nil => intro _; rfl
  | cons t r ih =>
    intro h
    have ih := ih fun x hx => h x (List.mem_cons_of_mem _ hx)
    rw [fNum, ih]
    rcases h t List.mem_cons_self with h1 | h1 | h1
    · have : isLw t.w = false := by
        unfold isOpB at h1
        simp at h1
        rcases h1 with (h1 | h1) | h1 <;> rw [h1] <;> rfl
      rw [this]; rfl
    · rw [h1]; rfl
    · obtain ⟨a1, a2, a3⟩ := hA _ h1
      rw [if_pos a1, if_neg (by rw [a2]; decide), if_neg a3]
end Go.Proofs.Ytbgilndohccicab
