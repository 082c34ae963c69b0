import Derived.Test.YthckelcjncnalaaDoorFz08
import Derived.Test.YthckelcjncnalaaDoorFz22
import Derived.Test.YthckelcjncnalaaDoorFz09
namespace Go.Proofs.YthckelcjncnalaaDoor
open Go.RowKit

/-- How far a sum goes from the place i on. -/
def dS (s : ByteArray) : Nat → Nat → Nat × Nat × Nat → Nat × (Nat × Nat × Nat)
  | 0, i, q => (i, q)
  | n + 1, i, q => match stp 6 q (nextB s i) with
    | none => (i, q)
    | some q' => dS s n (i + 1) q'
def ds (s : ByteArray) (i : Nat) (q : Nat × Nat × Nat) : Nat × (Nat × Nat × Nat) := dS s (s.size - i) i q
theorem stp_byte {M : Nat} {q q' : Nat × Nat × Nat} {x : Int} (h : stp M q x = some q') : (40 ≤ x ∧ x ≤ 43) ∨ x = 45 ∨ (48 ≤ x ∧ x ≤ 57) ∨ (97 ≤ x ∧ x ≤ 122) := by
  unfold stp at h
  split at h
  · split at h
    · omega
    · split at h
      · omega
      · split at h
        · omega
        · split at h
          · omega
          · cases h
  · split at h
    · omega
    · split at h
      · omega
      · split at h
        · omega
        · cases h
theorem ds_end {s : ByteArray} {i : Nat} {q : Nat × Nat × Nat} (h : ¬ i < s.size) : ds s i q = (i, q) := by
  have : s.size - i = 0 := by omega
  simp [ds, this, dS]
theorem ds_stop {s : ByteArray} {i : Nat} {q : Nat × Nat × Nat} (h : stp 6 q (nextB s i) = none) : ds s i q = (i, q) := by
  by_cases hi : i < s.size
  · have : s.size - i = (s.size - (i + 1)) + 1 := by omega
    simp [ds, this, dS, h]
  · exact ds_end hi
theorem ds_step {s : ByteArray} {i : Nat} {q q' : Nat × Nat × Nat} (h : stp 6 q (nextB s i) = some q') : ds s i q = ds s (i + 1) q' := by
  have hi : i < s.size := nextB_pos (by have := stp_byte h; omega)
  have : s.size - i = (s.size - (i + 1)) + 1 := by omega
  simp [ds, this, dS, h]
/-- The letters of a piece of the text, and their places. -/
def ltN (s : ByteArray) : Nat → Nat → List (Int × Int)
  | 0, _ => []
  | n + 1, i => if isLw (nextB s i) = true then (nextB s i, (i : Int)) :: ltN s n (i + 1) else ltN s n (i + 1)
def ltr (s : ByteArray) (a b : Nat) : List (Int × Int) := ltN s (b - a) a
theorem ltN_app (s : ByteArray) : ∀ n m i, ltN s (n + m) i = ltN s n i ++ ltN s m (i + n) := by
  intro n
  induction n with
  | zero => intro m i; simp [ltN]
  | succ n ih =>
    intro m i
    rw [show n + 1 + m = (n + m) + 1 by omega, ltN, ltN, ih m (i + 1), show i + 1 + n = i + (n + 1) by omega]
    split <;> rfl
theorem ltr_app (s : ByteArray) {a b c : Nat} (h1 : a ≤ b) (h2 : b ≤ c) : ltr s a c = ltr s a b ++ ltr s b c := by
  unfold ltr
  rw [show c - a = (b - a) + (c - b) by omega, ltN_app, show a + (b - a) = b by omega]
theorem ltr_self (s : ByteArray) (a : Nat) : ltr s a a = [] := by unfold ltr; rw [Nat.sub_self]; rfl
theorem ltr_no (s : ByteArray) (a : Nat) (h : isLw (nextB s a) = false) : ltr s a (a + 1) = [] := by
  unfold ltr; rw [show a + 1 - a = 1 by omega, ltN, h]; rfl
theorem ltr_yes (s : ByteArray) (a : Nat) (h : isLw (nextB s a) = true) : ltr s a (a + 1) = [(nextB s a, (a : Int))] := by
  unfold ltr; rw [show a + 1 - a = 1 by omega, ltN, if_pos h]; rfl
def tlw (ts : List GT) : List (Int × Int) := (ts.filter (fun t => isLw t.w)).map (fun t => (t.w, t.p))
theorem tlw_app (a b : List GT) : tlw (a ++ b) = tlw a ++ tlw b := by simp [tlw]
theorem isLw_no {x : Int} (h : x < 97 ∨ 122 < x) : isLw x = false := by
  unfold isLw
  rcases h with h | h
  · rw [decide_eq_false (show ¬ 97 ≤ x by omega)]; rfl
  · rw [decide_eq_false (show ¬ x ≤ 122 by omega)]; simp
theorem isLw_yes {x : Int} (h : 97 ≤ x ∧ x ≤ 122) : isLw x = true := by
  unfold isLw; rw [decide_eq_true h.1, decide_eq_true h.2]; rfl
/-- The term of a factor without brackets; where it ends. -/
def tok (s : ByteArray) (k : Nat) : GT := if 48 ≤ nextB s k ∧ nextB s k ≤ 57 then ⟨48, (gNum s 9 k 0).1, k⟩ else ⟨nextB s k, 0, k⟩
def tokE (s : ByteArray) (k : Nat) : Nat := if 48 ≤ nextB s k ∧ nextB s k ≤ 57 then (gNum s 9 k 0).2 else k + 1
theorem tok_p (s : ByteArray) (k : Nat) : (tok s k).p = k := by unfold tok; split <;> rfl
/-- What a reader of a part of a sum does from k on, at the depth d. -/
structure SumP (s : ByteArray) (d : Nat) (E : Nat → Prop) (k : Nat) (ts : List GT) (r : SumR) : Prop where
  ge : k ≤ r.at_
  yes : r.ok = true → ∃ m kk, m ≠ 0 ∧ stp 6 (m, d, kk) (nextB s r.at_) = stp 6 (1, d, 0) (nextB s r.at_) ∧ ds s k (0, d, 0) = ds s r.at_ (m, d, kk)
  no : r.ok = false → ∃ q, ds s k (0, d, 0) = (r.at_, q) ∧ (q.1 = 0 ∨ 0 < q.2.1)
  let_ : r.ok = true → tlw r.ts = tlw ts ++ ltr s k r.at_
  fst : r.ok = true → ∃ t more, r.ts = ts ++ t :: more ∧ (nextB s k = 40 → (k : Int) < t.p) ∧ (nextB s k ≠ 40 → t = tok s k ∧ (more = [] → r.at_ = tokE s k))
  stop : r.ok = true → E r.at_
def SumD (s : ByteArray) (d : Nat) (E : Nat → Prop) (f : Nat → List GT → SumR) : Prop := ∀ k ts, SumP s d E k ts (f k ts)
theorem SumP.fail {s : ByteArray} {d : Nat} {E : Nat → Prop} {k e : Nat} {ts us : List GT} {q : Nat × Nat × Nat} (hk : k ≤ e) (h : ds s k (0, d, 0) = (e, q)) (hq : q.1 = 0 ∨ 0 < q.2.1) : SumP s d E k ts ⟨false, e, us⟩ :=
  ⟨hk, (fun h => by cases h), fun _ => ⟨q, h, hq⟩, (fun h => by cases h), (fun h => by cases h), (fun h => by cases h)⟩
theorem SumP.mono {s : ByteArray} {d : Nat} {E E' : Nat → Prop} {k : Nat} {ts : List GT} {r : SumR} (h : SumP s d E k ts r) (hE : ∀ e, E e → E' e) : SumP s d E' k ts r :=
  ⟨h.ge, h.yes, h.no, h.let_, h.fst, fun x => hE _ (h.stop x)⟩
theorem stp_one {m d kk : Nat} {c : Int} (hm : m ≠ 0) (h : ¬ (m = 2 ∧ 48 ≤ c ∧ c ≤ 57 ∧ kk < 9)) : stp 6 (m, d, kk) c = stp 6 (1, d, 0) c := by
  unfold stp
  simp only []
  rw [if_neg hm, if_neg h, if_neg (show ¬ (1 : Nat) = 0 by decide), if_neg (show ¬ ((1 : Nat) = 2 ∧ 48 ≤ c ∧ c ≤ 57 ∧ 0 < 9) from fun h => absurd h.1 (by decide))]
theorem stp_none1 {d : Nat} {c : Int} (h : ¬ isSg c) (h41 : c = 41 → d = 0) : stp 6 (1, d, 0) c = none := by
  unfold isSg at h
  unfold stp
  simp only []
  rw [if_neg (show ¬ (1 : Nat) = 0 by decide), if_neg (show ¬ ((1 : Nat) = 2 ∧ 48 ≤ c ∧ c ≤ 57 ∧ 0 < 9) from fun h => absurd h.1 (by decide)), if_neg h, if_neg (fun h => by have := h41 h.1; omega)]
theorem gnum_ds (s : ByteArray) (d : Nat) : ∀ n k v kk, 0 < v → n + kk = 9 → 1 ≤ kk →
    (∃ k2, ds s k (2, d, kk) = ds s (gNum s n k v).2 (2, d, k2) ∧ stp 6 (2, d, k2) (nextB s (gNum s n k v).2) = stp 6 (1, d, 0) (nextB s (gNum s n k v).2)) ∧ ltr s k (gNum s n k v).2 = [] := by
  intro n
  induction n with
  | zero =>
    intro k v kk hv hn _
    rw [gNum]
    refine ⟨⟨kk, rfl, ?_⟩, ltr_self _ _⟩
    obtain rfl : kk = 9 := by omega
    exact stp_one (by decide) (fun h => by omega)
  | succ n ih =>
    intro k v kk hv hn h1
    rw [gNum]
    by_cases hd : 48 ≤ nextB s k ∧ nextB s k ≤ 57
    · rw [if_pos hd, if_neg (by omega)]
      have hs : stp 6 (2, d, kk) (nextB s k) = some (2, d, kk + 1) := by
        unfold stp; rw [if_neg (by simp), if_pos ⟨rfl, hd.1, hd.2, by simp; omega⟩]
      obtain ⟨⟨k2, e1, e2⟩, e3⟩ := ih (k + 1) (v * 10 + (nextB s k - 48)) (kk + 1) (by omega) (by omega) (by omega)
      refine ⟨⟨k2, by rw [ds_step hs]; exact e1, e2⟩, ?_⟩
      have hg := gNum_grow s n (k + 1) (v * 10 + (nextB s k - 48))
      rw [ltr_app s (b := k + 1) (by omega) hg, ltr_no s k (isLw_no (by omega)), e3]; rfl
    · rw [if_neg hd]
      refine ⟨⟨kk, rfl, ?_⟩, ltr_self _ _⟩
      exact stp_one (by decide) (fun h => hd ⟨h.2.1, h.2.2.1⟩)
theorem num_ds (s : ByteArray) (d k : Nat) (h : 48 ≤ nextB s k ∧ nextB s k ≤ 57) :
    (∃ m k2, m ≠ 0 ∧ stp 6 (m, d, k2) (nextB s (gNum s 9 k 0).2) = stp 6 (1, d, 0) (nextB s (gNum s 9 k 0).2) ∧ ds s k (0, d, 0) = ds s (gNum s 9 k 0).2 (m, d, k2)) ∧ ltr s k (gNum s 9 k 0).2 = [] := by
  rw [gNum, if_pos h]
  by_cases h0 : nextB s k = 48
  · rw [if_pos (by omega)]
    have hs : stp 6 (0, d, 0) (nextB s k) = some (1, d, 0) := by unfold stp; rw [if_pos rfl, if_pos h0]
    exact ⟨⟨1, 0, by decide, rfl, ds_step hs⟩, ltr_no s k (isLw_no (by omega))⟩
  · rw [if_neg (by omega)]
    have hs : stp 6 (0, d, 0) (nextB s k) = some (2, d, 1) := by unfold stp; rw [if_pos rfl, if_neg h0, if_pos ⟨by omega, h.2⟩]
    obtain ⟨⟨k2, e1, e2⟩, e3⟩ := gnum_ds s d 8 (k + 1) (0 * 10 + (nextB s k - 48)) 1 (by omega) rfl (by omega)
    refine ⟨⟨2, k2, by decide, e2, by rw [ds_step hs]; exact e1⟩, ?_⟩
    have hg := gNum_grow s 8 (k + 1) (0 * 10 + (nextB s k - 48))
    rw [ltr_app s (b := k + 1) (by omega) hg, ltr_no s k (isLw_no (by omega)), e3]; rfl
/-- No sign comes. -/
def NoSg (s : ByteArray) (e : Nat) : Prop := ¬ isSg (nextB s e)
theorem fac_sumd (s : ByteArray) (d : Nat) (sm : Option (Nat → List GT → SumR)) (hn : sm = none → ¬ d < 6) (hf : ∀ f, sm = some f → d < 6 ∧ SumD s (d + 1) (NoSg s) f) : SumD s d (fun _ => True) (facR s sm) := by
  intro k ts
  unfold facR
  by_cases h1 : 48 ≤ nextB s k ∧ nextB s k ≤ 57
  · rw [if_pos h1]
    obtain ⟨⟨m, k2, e1, e2, e3⟩, e4⟩ := num_ds s d k h1
    have hg := gNum_first s k h1
    refine ⟨by show k ≤ (gNum s 9 k 0).2; omega, fun _ => ⟨m, k2, e1, e2, e3⟩, (fun h => by cases h), fun _ => ?_, fun _ => ⟨_, [], rfl, fun h => by omega, fun _ => ⟨by unfold tok; rw [if_pos h1], fun _ => by unfold tokE; rw [if_pos h1]⟩⟩, fun _ => trivial⟩
    simp only []
    rw [tlw_app, e4]
    rfl
  rw [if_neg h1]
  by_cases h2 : 97 ≤ nextB s k ∧ nextB s k ≤ 122
  · rw [if_pos h2]
    have hs : stp 6 (0, d, 0) (nextB s k) = some (1, d, 0) := by unfold stp; rw [if_pos rfl, if_neg (by omega), if_neg (by omega), if_pos h2]
    refine ⟨Nat.le_succ _, fun _ => ⟨1, 0, by decide, rfl, ds_step hs⟩, (fun h => by cases h), fun _ => ?_, fun _ => ⟨_, [], rfl, fun h => by omega, fun _ => ⟨by unfold tok; rw [if_neg h1], fun _ => by unfold tokE; rw [if_neg h1]⟩⟩, fun _ => trivial⟩
    simp only []
    rw [tlw_app, ltr_yes s k (isLw_yes h2)]
    simp [tlw, isLw_yes h2]
  rw [if_neg h2]
  by_cases h3 : nextB s k ≠ 40
  · rw [if_pos h3]
    refine SumP.fail (Nat.le_refl _) (ds_stop ?_) (.inl rfl)
    unfold stp; rw [if_pos rfl, if_neg (by omega), if_neg (by omega), if_neg h2, if_neg (fun h => h3 h.1)]
  rw [if_neg h3]
  have h40 : nextB s k = 40 := by omega
  cases sm with
  | none =>
    have hd := hn rfl
    refine SumP.fail (Nat.le_refl _) (ds_stop ?_) (.inl rfl)
    unfold stp; rw [if_pos rfl, if_neg (by omega), if_neg (by omega), if_neg h2, if_neg (fun h => hd h.2)]
  | some f =>
    obtain ⟨hd, F⟩ := hf f rfl
    have F' := F (k + 1) ts
    have hs : stp 6 (0, d, 0) (nextB s k) = some (0, d + 1, 0) := by
      unfold stp; rw [if_pos rfl, if_neg (by omega), if_neg (by omega), if_neg h2, if_pos ⟨h40, hd⟩]
    simp only []
    generalize f (k + 1) ts = r at F' ⊢
    have hge := F'.ge
    by_cases h4 : r.ok = true ∧ nextB s r.at_ = 41
    · rw [if_pos h4]
      obtain ⟨m, kk, hm, hset, e⟩ := F'.yes h4.1
      have hs2 : stp 6 (m, d + 1, kk) (nextB s r.at_) = some (1, d, 0) := by
        rw [hset, h4.2]; unfold stp; rw [if_neg (by simp), if_neg (by simp), if_neg (by decide), if_pos ⟨rfl, by simp⟩]; rfl
      refine ⟨by show k ≤ r.at_ + 1; omega, fun _ => ⟨1, 0, by decide, rfl, by rw [ds_step hs, e, ds_step hs2]⟩, (fun h => by cases h), fun _ => ?_, fun _ => ?_, fun _ => trivial⟩
      · simp only []
        rw [F'.let_ h4.1, ltr_app s (a := k) (b := k + 1) (c := r.at_ + 1) (by omega) (by omega), ltr_app s (a := k + 1) (b := r.at_) (c := r.at_ + 1) (by omega) (by omega), ltr_no s k (isLw_no (by omega)), ltr_no s r.at_ (isLw_no (by omega))]
        simp
      · obtain ⟨t, more, e1, e2, e3⟩ := F'.fst h4.1
        refine ⟨t, more, e1, fun _ => ?_, fun h => absurd h40 h⟩
        by_cases h5 : nextB s (k + 1) = 40
        · have := e2 h5; omega
        · rw [(e3 h5).1, tok_p]; omega
    · rw [if_neg h4]
      cases hok : r.ok with
      | true =>
        obtain ⟨m, kk, hm, hset, e⟩ := F'.yes hok
        have hst := F'.stop hok
        have h41 : nextB s r.at_ ≠ 41 := fun h => h4 ⟨hok, h⟩
        refine SumP.fail (by omega) (q := (m, d + 1, kk)) ?_ (.inr (Nat.succ_pos _))
        rw [ds_step hs, e]
        refine ds_stop ?_
        rw [hset]
        exact stp_none1 hst (fun h => absurd h h41)
      | false =>
        obtain ⟨q, e, hq⟩ := F'.no hok
        exact SumP.fail (by omega) (by rw [ds_step hs, e]) hq
theorem op_sumd (s : ByteArray) (d : Nat) (E : Nat → Prop) (p : Int → Bool) (f : Nat → List GT → SumR) (hp : ∀ c, p c = true → isSg c) (hf : SumD s d E f) :
    ∀ n k ts r, s.size + 1 ≤ r.at_ + n → SumP s d E k ts r → SumP s d (fun e => E e ∧ p (nextB s e) = false) k ts (opLoop s p f n r) := by
  intro n
  induction n with
  | zero =>
    intro k ts r hr H
    refine ⟨H.ge, H.yes, H.no, H.let_, H.fst, fun hok => ⟨H.stop hok, ?_⟩⟩
    cases hc : p (nextB s r.at_) with
    | false => exact hc
    | true =>
      have := hp _ hc
      rw [nextB_out (by omega)] at this
      unfold isSg at this; omega
  | succ n ih =>
    intro k ts r hr H
    by_cases h : r.ok = true ∧ p (nextB s r.at_) = true
    · rw [opLoop_step _ _ _ _ h]
      obtain ⟨m, kk, hm, hset, e⟩ := H.yes h.1
      have hsg := hp _ h.2
      have hs : stp 6 (m, d, kk) (nextB s r.at_) = some (0, d, 0) := by rw [hset, stp_sg hsg]; rfl
      have hnl : isLw (nextB s r.at_) = false := isLw_no (by unfold isSg at hsg; omega)
      have F := hf (r.at_ + 1) r.ts
      have hge := H.ge
      have hge2 := F.ge
      refine ih k ts _ (by simp only [opStep]; omega) ?_
      unfold opStep
      generalize f (r.at_ + 1) r.ts = x at F hge2 ⊢
      refine ⟨by show k ≤ x.at_; omega, fun hok => ?_, fun hok => ?_, fun hok => ?_, fun hok => ?_, fun hok => F.stop hok⟩
      · obtain ⟨m', kk', h1, h2, h3⟩ := F.yes hok
        exact ⟨m', kk', h1, h2, by rw [e, ds_step hs, h3]⟩
      · obtain ⟨q, h1, h2⟩ := F.no hok
        exact ⟨q, by rw [e, ds_step hs, h1], h2⟩
      · simp only []
        rw [tlw_app, F.let_ hok, H.let_ h.1, ltr_app s (a := k) (b := r.at_) (c := x.at_) (by omega) (by omega), ltr_app s (a := r.at_) (b := r.at_ + 1) (by omega) (by omega), ltr_no s r.at_ hnl]
        simp [tlw, hnl]
      · obtain ⟨t, more, e1, e2, e3⟩ := H.fst h.1
        obtain ⟨t2, more2, f1, _, _⟩ := F.fst hok
        exact ⟨t, more ++ t2 :: (more2 ++ [⟨nextB s r.at_, 0, r.at_⟩]), by simp [f1, e1], e2, fun hh => ⟨(e3 hh).1, fun hc => by simp at hc⟩⟩
    · rw [opLoop_stop _ _ _ _ h]
      refine ⟨H.ge, H.yes, H.no, H.let_, H.fst, fun hok => ⟨H.stop hok, ?_⟩⟩
      cases hc : p (nextB s r.at_) with
      | false => rfl
      | true => exact absurd ⟨hok, hc⟩ h
theorem sum0_sumd (s : ByteArray) (d : Nat) (sm : Option (Nat → List GT → SumR)) (hn : sm = none → ¬ d < 6) (hf : ∀ f, sm = some f → d < 6 ∧ SumD s (d + 1) (NoSg s) f) : SumD s d (NoSg s) (sumR0 s sm) := by
  have h1 := fac_sumd s d sm hn hf
  have h2 : SumD s d (fun e => True ∧ isMul (nextB s e) = false) (prodR s sm) := fun k ts =>
    op_sumd s d _ isMul _ (fun c h => by simp [isMul] at h; exact .inr (.inr h)) h1 (s.size + 1) k ts _ (by omega) (h1 k ts)
  intro k ts
  refine (op_sumd s d _ isAdd _ (fun c h => by simp [isAdd] at h; rcases h with h | h; exact .inl h; exact .inr (.inl h)) h2 (s.size + 1) k ts _ (by omega) (h2 k ts)).mono ?_
  rintro e ⟨⟨_, a⟩, b⟩ hc
  simp [isMul] at a
  simp [isAdd] at b
  rcases hc with h | h | h
  · exact b.1 h
  · exact b.2 h
  · exact a h
theorem sumRL_sumd (s : ByteArray) : ∀ n, n ≤ 6 → SumD s (6 - n) (NoSg s) (sumRL s n) := by
  intro n
  induction n with
  | zero => intro _; exact sum0_sumd s 6 none (fun _ => by omega) (fun f h => by cases h)
  | succ n ih =>
    intro hn
    exact sum0_sumd s _ (some (sumRL s n)) (fun h => by cases h) (fun f h => by cases h; exact ⟨by omega, by rw [show 6 - (n + 1) + 1 = 6 - n by omega]; exact ih (by omega)⟩)
theorem sum_yes {s : ByteArray} {k : Nat} (h : (sumRL s 6 k []).ok = true) : ∃ m kk, m ≠ 0 ∧ ds s k (0, 0, 0) = ((sumRL s 6 k []).at_, (m, 0, kk)) := by
  have F := sumRL_sumd s 6 (Nat.le_refl _) k []
  obtain ⟨m, kk, hm, hset, e⟩ := F.yes h
  have hst := F.stop h
  refine ⟨m, kk, hm, ?_⟩
  rw [show ((0, 0, 0) : Nat × Nat × Nat) = (0, 6 - 6, 0) from rfl, e]
  refine ds_stop ?_
  rw [hset]
  exact stp_none1 hst (fun _ => rfl)
theorem sum_no {s : ByteArray} {k : Nat} (h : (sumRL s 6 k []).ok = false) : ∃ q, ds s k (0, 0, 0) = ((sumRL s 6 k []).at_, q) ∧ (q.1 = 0 ∨ 0 < q.2.1) := (sumRL_sumd s 6 (Nat.le_refl _) k []).no h
theorem sum_ge (s : ByteArray) (k : Nat) : k ≤ (sumRL s 6 k []).at_ := (sumRL_sumd s 6 (Nat.le_refl _) k []).ge
theorem sum_let {s : ByteArray} {k : Nat} (h : (sumRL s 6 k []).ok = true) : tlw (sumRL s 6 k []).ts = ltr s k (sumRL s 6 k []).at_ := by
  have := (sumRL_sumd s 6 (Nat.le_refl _) k []).let_ h
  rw [this]; rfl
theorem sum_fst {s : ByteArray} {k : Nat} (h : (sumRL s 6 k []).ok = true) : ∃ t more, (sumRL s 6 k []).ts = t :: more ∧ (nextB s k = 40 → (k : Int) < t.p) ∧ (nextB s k ≠ 40 → t = tok s k ∧ (more = [] → (sumRL s 6 k []).at_ = tokE s k)) := by
  obtain ⟨t, more, e1, e2, e3⟩ := (sumRL_sumd s 6 (Nat.le_refl _) k []).fst h
  exact ⟨t, more, e1, e2, e3⟩
theorem bl_cons {s : ByteArray} {i e : Nat} (h : i < e) (he : e ≤ s.size) : bl (s.extract i e) = nextB s i :: bl (s.extract (i + 1) e) := by
  rw [bl_extract, bl_extract, bl_drop (by omega), show e - i = (e - (i + 1)) + 1 by omega, List.take_succ_cons]
theorem bl_nil (s : ByteArray) (i : Nat) : bl (s.extract i i) = [] := by rw [bl_extract, Nat.sub_self]; rfl
theorem rn_ds (s : ByteArray) : ∀ n i e q q', i + n = e → e ≤ s.size → rn 6 q (bl (s.extract i e)) = some q' → ds s i q = ds s e q' := by
  intro n
  induction n with
  | zero =>
    intro i e q q' hn he h
    obtain rfl : i = e := by omega
    rw [bl_nil, rn] at h
    injection h with h; rw [h]
  | succ n ih =>
    intro i e q q' hn he h
    rw [bl_cons (by omega) he, rn] at h
    cases hq : stp 6 q (nextB s i) with
    | none => rw [hq] at h; cases h
    | some q1 =>
      rw [hq] at h
      rw [ds_step hq]
      exact ih (i + 1) e q1 q' (by omega) he h
theorem ds_rn (s : ByteArray) : ∀ n i q, i + n = s.size → i ≤ (ds s i q).1 ∧ (ds s i q).1 ≤ s.size ∧ rn 6 q (bl (s.extract i (ds s i q).1)) = some (ds s i q).2 := by
  intro n
  induction n with
  | zero =>
    intro i q hn
    rw [ds_end (by omega)]
    exact ⟨Nat.le_refl _, by show i ≤ _; omega, by rw [bl_nil]; rfl⟩
  | succ n ih =>
    intro i q hn
    cases hq : stp 6 q (nextB s i) with
    | none => rw [ds_stop hq]; exact ⟨Nat.le_refl _, by show i ≤ _; omega, by rw [bl_nil]; rfl⟩
    | some q1 =>
      rw [ds_step hq]
      obtain ⟨h1, h2, h3⟩ := ih (i + 1) q1 (by omega)
      refine ⟨by omega, h2, ?_⟩
      rw [bl_cons (by omega) h2, rn, hq]
      exact h3
end Go.Proofs.YthckelcjncnalaaDoor
