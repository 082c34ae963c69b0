import Derived.Test.YthckelcjncnalaaDoorFz44
import Derived.Test.YthckelcjncnalaaDoorFz35
import Derived.Test.YthckelcjncnalaaDoorFz37
import Derived.Test.YthckelcjncnalaaDoorFz01
namespace Go.Proofs.YthckelcjncnalaaDoor
open Go.RowKit

/-- Letters that stand once more: of fields, of classes; sources that do. -/
def WF (p : Int) : List Int → List GU → Prop
  | _, [] => False
  | ls, g :: r => (g.n ∈ ls ∧ p = g.p) ∨ WF p (ls ++ [g.n]) r
def W1 (p : Int) : List Int → List HC → Prop
  | _, [] => False
  | ls, h :: r => (h.n ∈ ls ∧ p = h.p) ∨ WF p [] h.l ∨ W1 p (ls ++ [h.n]) r
def W2 (os : Sch) (p : Int) : List Int → List HC → Prop
  | _, [] => False
  | ls, h :: r => (srcI (vsO os) h.n h.s ≠ 0 ∧ srcI (vsO os) h.n h.s ∈ ls ∧ p = h.p) ∨ W2 os p (ls ++ [srcI (vsO os) h.n h.s]) r
theorem any_mem (ls : List Int) (x : Int) : ls.any (fun p => p == x) = true ↔ x ∈ ls := by
  rw [List.any_eq_true]
  constructor
  · rintro ⟨y, hy, h⟩; rw [beq_iff_eq] at h; rw [← h]; exact hy
  · intro h; exact ⟨x, h, by simp⟩
theorem fms_pos {s : ByteArray} : ∀ {fs : List GFd} {gs : List GU} {lo hi : Nat}, FMs s lo hi fs gs → okP fs := by
  intro fs
  induction fs with
  | nil => intro gs lo hi _ f hf; simp at hf
  | cons f fs ih => intro gs lo hi h; cases gs with
    | nil => exact h.elim
    | cons g gs =>
      obtain ⟨k, e, h1, h2, h3⟩ := h
      intro f' hf'
      rcases List.mem_cons.1 hf' with rfl | hf'
      · rw [h2.p]; omega
      · exact ih h3 f' hf'
theorem wf_least {s : ByteArray} : ∀ (fs : List GFd) (gs : List GU) (lo hi : Nat) (ls : List Int), FMs s lo hi fs gs → Least (fun p => WF p ls gs) ((twFs ls fs).getD (-1)) ∧ ∀ p, WF p ls gs → (lo : Int) ≤ p ∧ p < hi := by
  intro fs
  induction fs with
  | nil =>
    intro gs lo hi ls h
    cases gs with
    | nil => exact ⟨.inl ⟨rfl, fun p h => h⟩, fun p h => h.elim⟩
    | cons g gs => exact h.elim
  | cons f fs ih =>
    intro gs lo hi ls h
    cases gs with
    | nil => exact h.elim
    | cons g gs =>
      obtain ⟨k, e, h1, h2, h3⟩ := h
      have hle := FMs_le h3
      have hle2 := h2.le
      obtain ⟨I1, I2⟩ := ih gs e hi (ls ++ [f.l]) h3
      have hn := h2.n
      have hgp := h2.gp
      have hp := h2.p
      have hW : ∀ p, WF p ls (g :: gs) ↔ (f.l ∈ ls ∧ p = (k : Int)) ∨ WF p (ls ++ [f.l]) gs := fun p => by rw [WF, hn, hgp]
      refine ⟨?_, fun p hpp => ?_⟩
      · rw [twFs]
        by_cases hc : ls.any (fun p => p == f.l) = true
        · rw [if_pos hc]
          refine .inr ⟨by rw [hp]; simp, (hW _).2 (.inl ⟨(any_mem _ _).1 hc, by rw [hp]; rfl⟩), fun p hpp => ?_⟩
          rcases (hW p).1 hpp with ⟨_, rfl⟩ | h
          · rw [hp]; exact Int.le_refl _
          · have := (I2 p h).1; rw [hp]; simp only [Option.getD_some]; omega
        · rw [if_neg hc]
          refine I1.congr fun p => ?_
          rw [hW]
          exact ⟨.inr, fun h => h.elim (fun h => absurd ((any_mem _ _).2 h.1) hc) id⟩
      · rcases (hW p).1 hpp with ⟨_, rfl⟩ | h
        · omega
        · have := I2 p h; omega
theorem w1_least {s : ByteArray} : ∀ (cs : List GCd) (hs : List HC) (lo hi : Nat) (ls : List Int), CMs s lo hi cs hs → Least (fun p => W1 p ls hs) ((twCs ls cs).getD (-1)) ∧ ∀ p, W1 p ls hs → (lo : Int) ≤ p := by
  intro cs
  induction cs with
  | nil =>
    intro hs lo hi ls h
    cases hs with
    | nil => exact ⟨.inl ⟨rfl, fun p h => h⟩, fun p h => h.elim⟩
    | cons g gs => exact h.elim
  | cons c cs ih =>
    intro hs lo hi ls h
    cases hs with
    | nil => exact h.elim
    | cons g gs =>
      obtain ⟨k, e, h1, h2, h3⟩ := h
      have hle2 := h2.le
      obtain ⟨I1, I2⟩ := ih gs (e + 1) hi (ls ++ [c.l]) h3
      obtain ⟨F1, F2⟩ := wf_least c.fs g.l (k + 2) e [] h2.fs
      have hn := h2.n
      have hgp := h2.hp
      have hp := h2.p
      have hW : ∀ p, W1 p ls (g :: gs) ↔ (c.l ∈ ls ∧ p = (k : Int)) ∨ WF p [] g.l ∨ W1 p (ls ++ [c.l]) gs := fun p => by rw [W1, hn, hgp]
      refine ⟨?_, fun p hpp => ?_⟩
      · rw [twCs]
        by_cases hc : ls.any (fun p => p == c.l) = true
        · rw [if_pos hc]
          refine .inr ⟨by rw [hp]; simp, (hW _).2 (.inl ⟨(any_mem _ _).1 hc, by rw [hp]; rfl⟩), fun p hpp => ?_⟩
          simp only [Option.getD_some]
          rcases (hW p).1 hpp with ⟨_, rfl⟩ | h | h
          · omega
          · have := (F2 p h).1; omega
          · have := I2 p h; omega
        · rw [if_neg hc]
          cases hf : twFs [] c.fs with
          | some q =>
            rw [hf] at F1
            simp only [Option.getD_some] at F1 ⊢
            rcases F1 with ⟨f1, f2⟩ | ⟨f1, f2, f3⟩
            · exfalso
              have hpos := twFs_pos hf (fms_pos h2.fs)
              omega
            · refine .inr ⟨f1, (hW q).2 (.inr (.inl f2)), fun p hpp => ?_⟩
              have hq := (F2 q f2).2
              rcases (hW p).1 hpp with ⟨h, _⟩ | h | h
              · exact absurd ((any_mem _ _).2 h) hc
              · exact f3 p h
              · have := I2 p h; omega
          | none =>
            rw [hf] at F1
            simp only [Option.getD_none] at F1 ⊢
            have fno : ∀ p, ¬ WF p [] g.l := by
              rcases F1 with ⟨_, f2⟩ | ⟨f1, _⟩
              · exact f2
              · omega
            refine I1.congr fun p => ?_
            rw [hW]
            exact ⟨fun h => .inr (.inr h), fun h => h.elim (fun h => absurd ((any_mem _ _).2 h.1) hc) fun h => h.elim (fun h => absurd h (fno p)) id⟩
      · rcases (hW p).1 hpp with ⟨_, rfl⟩ | h | h
        · omega
        · have := (F2 p h).1; omega
        · have := I2 p h; omega
theorem w2_least {s : ByteArray} (os : Sch) : ∀ (cs : List GCd) (hs : List HC) (lo hi : Nat) (ls : List Int), CMs s lo hi cs hs → Least (fun p => W2 os p ls hs) (stw (vsO os) ls cs) ∧ ∀ p, W2 os p ls hs → (lo : Int) ≤ p := by
  intro cs
  induction cs with
  | nil =>
    intro hs lo hi ls h
    cases hs with
    | nil => exact ⟨.inl ⟨rfl, fun p h => h⟩, fun p h => h.elim⟩
    | cons g gs => exact h.elim
  | cons c cs ih =>
    intro hs lo hi ls h
    cases hs with
    | nil => exact h.elim
    | cons g gs =>
      obtain ⟨k, e, h1, h2, h3⟩ := h
      have hle2 := h2.le
      obtain ⟨I1, I2⟩ := ih gs (e + 1) hi (ls ++ [srcI (vsO os) c.l c.fl]) h3
      have hp := h2.p
      have hW : ∀ p, W2 os p ls (g :: gs) ↔ (srcI (vsO os) c.l c.fl ≠ 0 ∧ srcI (vsO os) c.l c.fl ∈ ls ∧ p = (k : Int)) ∨ W2 os p (ls ++ [srcI (vsO os) c.l c.fl]) gs := fun p => by rw [W2, h2.n, h2.s_, h2.hp]
      refine ⟨?_, fun p hpp => ?_⟩
      · rw [stw]
        by_cases hc : srcI (vsO os) c.l c.fl ≠ 0 ∧ ls.any (fun p => p == srcI (vsO os) c.l c.fl) = true
        · rw [if_pos hc]
          refine .inr ⟨by rw [hp]; simp, (hW _).2 (.inl ⟨hc.1, (any_mem _ _).1 hc.2, hp⟩), fun p hpp => ?_⟩
          rcases (hW p).1 hpp with ⟨_, _, rfl⟩ | h
          · rw [hp]; exact Int.le_refl _
          · have := I2 p h; rw [hp]; omega
        · rw [if_neg hc]
          refine I1.congr fun p => ?_
          rw [hW]
          exact ⟨.inr, fun h => h.elim (fun h => absurd ⟨h.1, (any_mem _ _).2 h.2.1⟩ hc) id⟩
      · rcases (hW p).1 hpp with ⟨_, _, rfl⟩ | h
        · omega
        · have := I2 p h; omega
theorem both_least {V1 V2 : Int → Prop} {a b : Int} (h1 : Least V1 a) (h2 : Least V2 b) : Least (fun p => V1 p ∨ V2 p) (if a = -1 ∨ (b ≠ -1 ∧ b < a) then b else a) := by
  rcases h1 with ⟨a1, a2⟩ | ⟨a1, a2, a3⟩
  · rw [if_pos (.inl a1)]
    exact h2.congr fun p => ⟨.inr, fun h => h.elim (fun h => absurd h (a2 p)) id⟩
  · rcases h2 with ⟨b1, b2⟩ | ⟨b1, b2, b3⟩
    · rw [if_neg (by rintro (h | ⟨h, _⟩); omega; exact h b1)]
      exact .inr ⟨a1, .inl a2, fun p h => h.elim (a3 p) fun h => absurd h (b2 p)⟩
    · by_cases hc : b < a
      · rw [if_pos (.inr ⟨by omega, hc⟩)]
        exact .inr ⟨b1, .inr b2, fun p h => h.elim (fun h => by have := a3 p h; omega) (b3 p)⟩
      · rw [if_neg (by rintro (h | ⟨_, h⟩); omega; exact hc h)]
        exact .inr ⟨a1, .inl a2, fun p h => h.elim (a3 p) fun h => by have := b3 p h; omega⟩
/-- By places in the list. -/
theorem wf_iff (p : Int) : ∀ (gs : List GU) (ls : List Int), WF p ls gs ↔ ∃ i, i < gs.length ∧ ((gs[i]?.getD noGU).n ∈ ls ∨ ∃ k, k < i ∧ (gs[i]?.getD noGU).n = (gs[k]?.getD noGU).n) ∧ p = (gs[i]?.getD noGU).p := by
  intro gs
  induction gs with
  | nil => intro ls; exact ⟨fun h => h.elim, fun ⟨i, hi, _⟩ => by simp at hi⟩
  | cons g gs ih =>
    intro ls
    rw [WF, ih]
    constructor
    · rintro (⟨h1, h2⟩ | ⟨i, hi, h1, h2⟩)
      · exact ⟨0, by simp, .inl h1, h2⟩
      · refine ⟨i + 1, by simp; omega, ?_, by simpa using h2⟩
        simp only [List.getElem?_cons_succ]
        rcases h1 with h1 | ⟨k, hk, h1⟩
        · rcases List.mem_append.1 h1 with h1 | h1
          · exact .inl h1
          · simp at h1; exact .inr ⟨0, by omega, by simpa using h1⟩
        · exact .inr ⟨k + 1, by omega, by simpa using h1⟩
    · rintro ⟨i, hi, h1, h2⟩
      cases i with
      | zero =>
        left
        rcases h1 with h1 | ⟨k, hk, _⟩
        · exact ⟨h1, h2⟩
        · omega
      | succ i =>
        right
        simp only [List.getElem?_cons_succ] at h1 h2
        refine ⟨i, by simpa using hi, ?_, h2⟩
        rcases h1 with h1 | ⟨k, hk, h1⟩
        · exact .inl (List.mem_append_left _ h1)
        · cases k with
          | zero => left; rw [h1]; simp
          | succ k => exact .inr ⟨k, by omega, by simpa using h1⟩
theorem w_iff (os : Sch) (p : Int) : ∀ (hs : List HC) (ls ms : List Int), (W1 p ls hs ∨ W2 os p ms hs) ↔ ∃ i, i < hs.length ∧
    ((((hs[i]?.getD noHC).n ∈ ls ∨ (srcI (vsO os) (hs[i]?.getD noHC).n (hs[i]?.getD noHC).s ≠ 0 ∧ srcI (vsO os) (hs[i]?.getD noHC).n (hs[i]?.getD noHC).s ∈ ms) ∨
      ∃ k, k < i ∧ ((hs[i]?.getD noHC).n = (hs[k]?.getD noHC).n ∨ (srcI (vsO os) (hs[i]?.getD noHC).n (hs[i]?.getD noHC).s ≠ 0 ∧ srcI (vsO os) (hs[i]?.getD noHC).n (hs[i]?.getD noHC).s = srcI (vsO os) (hs[k]?.getD noHC).n (hs[k]?.getD noHC).s))) ∧ p = ((hs[i]?.getD noHC).p : Int)) ∨ WF p [] (hs[i]?.getD noHC).l) := by
  intro hs
  induction hs with
  | nil => intro ls ms; exact ⟨fun h => h.elim (fun h => h.elim) fun h => h.elim, fun ⟨i, hi, _⟩ => by simp at hi⟩
  | cons h hs ih =>
    intro ls ms
    have I := ih (ls ++ [h.n]) (ms ++ [srcI (vsO os) h.n h.s])
    rw [W1, W2]
    constructor
    · intro hh
      have hr : ((h.n ∈ ls ∨ (srcI (vsO os) h.n h.s ≠ 0 ∧ srcI (vsO os) h.n h.s ∈ ms)) ∧ p = (h.p : Int)) ∨ WF p [] h.l ∨ (W1 p (ls ++ [h.n]) hs ∨ W2 os p (ms ++ [srcI (vsO os) h.n h.s]) hs) := by
        rcases hh with (⟨a, b⟩ | a | a) | ⟨a, b, c⟩ | a
        · exact .inl ⟨.inl a, b⟩
        · exact .inr (.inl a)
        · exact .inr (.inr (.inl a))
        · exact .inl ⟨.inr ⟨a, b⟩, c⟩
        · exact .inr (.inr (.inr a))
      rcases hr with ⟨a, b⟩ | a | a
      · refine ⟨0, by simp, .inl ⟨?_, b⟩⟩
        rcases a with a | a
        · exact .inl a
        · exact .inr (.inl a)
      · exact ⟨0, by simp, .inr a⟩
      · obtain ⟨i, hi, h1⟩ := I.1 a
        refine ⟨i + 1, by simp; omega, ?_⟩
        simp only [List.getElem?_cons_succ]
        rcases h1 with ⟨h1, h2⟩ | h1
        · left
          refine ⟨?_, h2⟩
          rcases h1 with h1 | ⟨h1, h3⟩ | ⟨k, hk, h1⟩
          · rcases List.mem_append.1 h1 with h1 | h1
            · exact .inl h1
            · simp at h1; exact .inr (.inr ⟨0, by omega, .inl (by simpa using h1)⟩)
          · rcases List.mem_append.1 h3 with h3 | h3
            · exact .inr (.inl ⟨h1, h3⟩)
            · simp at h3; exact .inr (.inr ⟨0, by omega, .inr ⟨h1, by simpa using h3⟩⟩)
          · exact .inr (.inr ⟨k + 1, by omega, by simpa using h1⟩)
        · exact .inr h1
    · rintro ⟨i, hi, h1⟩
      cases i with
      | zero =>
        rcases h1 with ⟨h1, h2⟩ | h1
        · rcases h1 with h1 | h1 | ⟨k, hk, _⟩
          · exact .inl (.inl ⟨h1, h2⟩)
          · exact .inr (.inl ⟨h1.1, h1.2, h2⟩)
          · omega
        · exact .inl (.inr (.inl h1))
      | succ i =>
        simp only [List.getElem?_cons_succ] at h1
        have : W1 p (ls ++ [h.n]) hs ∨ W2 os p (ms ++ [srcI (vsO os) h.n h.s]) hs := by
          refine I.2 ⟨i, by simpa using hi, ?_⟩
          rcases h1 with ⟨h1, h2⟩ | h1
          · left
            refine ⟨?_, h2⟩
            rcases h1 with h1 | ⟨h1, h3⟩ | ⟨k, hk, h1⟩
            · exact .inl (List.mem_append_left _ h1)
            · exact .inr (.inl ⟨h1, List.mem_append_left _ h3⟩)
            · cases k with
              | zero =>
                rcases h1 with h1 | ⟨h1, h3⟩
                · left; rw [h1]; simp
                · right; left; refine ⟨h1, ?_⟩; rw [h3]; simp
              | succ k => exact .inr (.inr ⟨k, by omega, by simpa using h1⟩)
          · exact .inr h1
        rcases this with h | h
        · exact .inl (.inr (.inr h))
        · exact .inr (.inr h)
theorem urep_w (os : Sch) (hs : List HC) (p : Int) : URepN (nO os) os.length hs p ↔ W1 p [] hs ∨ W2 os p [] hs := by
  rw [w_iff]
  unfold URepN VDs
  have hm : ∀ x s, madeI (nO os) os.length x s = srcI (vsO os) x s := fun x s => madeI_src os x s
  simp only [hm]
  constructor
  · rintro ⟨i, hi, h⟩
    refine ⟨i, hi, ?_⟩
    rcases h with ⟨k, hk, h1, h2⟩ | h
    · exact .inl ⟨.inr (.inr ⟨k, hk, h1⟩), h2⟩
    · right
      rw [wf_iff]
      obtain ⟨j, hj, k, hk, h1, h2⟩ := h
      exact ⟨j, hj, .inr ⟨k, hk, h1⟩, h2⟩
  · rintro ⟨i, hi, h⟩
    refine ⟨i, hi, ?_⟩
    rcases h with ⟨h1, h2⟩ | h
    · rcases h1 with h1 | ⟨_, h1⟩ | ⟨k, hk, h1⟩
      · simp at h1
      · simp at h1
      · exact .inl ⟨k, hk, h1, h2⟩
    · right
      rw [wf_iff] at h
      obtain ⟨j, hj, h1, h2⟩ := h
      rcases h1 with h1 | ⟨k, hk, h1⟩
      · simp at h1
      · exact ⟨j, hj, k, hk, h1, h2⟩
theorem twice_agree {s : ByteArray} (os : Sch) {cs : List GCd} {hs : List HC} {hi : Nat} (C : CMs s 0 hi cs hs) : Least (URepN (nO os) os.length hs) (fTw (vsO os) cs) := by
  have h1 := (w1_least cs hs 0 hi [] C).1
  have h2 := (w2_least os cs hs 0 hi [] C).1
  exact (both_least h1 h2).congr fun p => (urep_w os hs p).symm
/-- The reference's answer to an update is the program's. -/
theorem uagree {os : Sch} (hU : Uq os) {s : ByteArray} {E P : Int} (h : UpRef os s E P) : E = uE os s ∧ P = uP os s := by
  unfold uE uP
  rcases h with ⟨h, rfl, rfl⟩ | ⟨h, h'⟩
  · have e1 : gdE (uR s) s = 1 := by unfold gdE; rw [if_pos h]
    have e2 : gdP (uR s) s = 0 := by unfold gdP; rw [if_pos h]
    rw [e1, e2, if_pos (by decide), if_pos (by decide)]; exact ⟨rfl, rfl⟩
  · have hn : ¬ 200 < s.size := by omega
    rcases h' with ⟨hs, rfl, rfl⟩ | ⟨hs, hsome, h'⟩
    · rcases uread_meet s with ⟨h1, _⟩ | ⟨_, _, h2, _⟩
      · have e1 : gdE (uR s) s = 2 := by unfold gdE; rw [if_neg hn, if_pos h1]
        have e2 : gdP (uR s) s = ((uR s).at_ : Int) := by unfold gdP; rw [if_neg hn, if_pos h1]
        rw [e1, e2, if_pos (by decide), if_pos (by decide), (uread_accepts s).2 h1, uwrong_is s s.size 0 (by omega) (Nat.zero_le _)]
        exact ⟨rfl, rfl⟩
      · rw [hs] at h2; cases h2
    · rcases uread_meet s with ⟨_, h2⟩ | ⟨hs', h1, h2, C⟩
      · rw [hsome] at h2; cases h2
      · rw [hsome] at h2
        injection h2 with h2
        subst h2
        have e1 : gdE (uR s) s = 0 := by unfold gdE; rw [if_neg hn, if_neg (by rw [h1]; decide)]
        have T := twice_agree os C
        have n0 : ¬ ((0 : Int) ≠ 0) := by decide
        rw [e1, if_neg n0, if_neg n0]
        rcases h' with ⟨h0, rfl, hL⟩ | ⟨hL, hF⟩
        · have e := least_unique T hL
          have t1 : fTw (vsO os) (uR s).cs ≠ -1 := by rw [e]; omega
          rw [if_pos t1, if_pos t1, e]; exact ⟨rfl, rfl⟩
        · have e := least_unique T hL
          have t1 : ¬ fTw (vsO os) (uR s).cs ≠ -1 := by rw [e]; decide
          rw [if_neg t1, if_neg t1]
          exact first_agree hU.kp C hF
end Go.Proofs.YthckelcjncnalaaDoor
namespace Go.Proofs.YthckelcjncnalaaDoor
open Go.RowKit

theorem RVcellsK {w : World} {base : Nat} {v : Value} {l : List GF} (h : RV w base v l) :
    ∃ a cap, v = .slice a l.length cap ∧ (0 < l.length → ∃ g, a = some ⟨g, 0, none⟩ ∧ base ≤ g ∧ g < w.heap.size ∧ ∀ i, i < l.length → RowK w g i (l[i]?.getD noGF).n (l[i]?.getD noGF).k) := by
  rcases h.2 with ⟨rfl, hn⟩ | ⟨g, cap, cur, rfl, hbg, hg, h1, h2, _⟩
  · exact ⟨none, 0, by rw [hn], fun h => by omega⟩
  · refine ⟨_, cap, rfl, fun _ => ⟨g, rfl, hbg, (Array.getElem?_eq_some_iff.1 hg).1, fun i hi => ?_⟩⟩
    have c := World.ownsRow.cells h (g := g) rfl
    have e : ∀ o u, o < 7 → (GF.cells (l[i]?.getD noGF))[o]? = some u → w.cell? ⟨g, i * 7 + o, none⟩ = some u := by
      intro o u ho hu
      rw [← add_off]
      refine c _ _ ?_
      rw [← hu]
      exact flat_get GF.cells 7 (fun _ => rfl) l noGF i o hi ho
    exact ⟨e 0 _ (by omega) rfl, e 1 _ (by omega) rfl⟩
/-- Where a schema's classes lie. -/
def kxOf (vs : List GV) (g cap : Nat) : KX := ⟨g, cap, fun i => (vs[i]?.getD noGV).v.a, fun i => match (vs[i]?.getD noGV).v.a with | some a => a.block | none => 0, fun i => (vs[i]?.getD noGV).v.c⟩
theorem cat_gcl (cs : List GC) (i : Nat) (hi : i < cs.length) : cat (cs.map gcl) i = gcl (cs[i]?.getD noGC) := by
  unfold cat; rw [List.getElem?_map, List.getElem?_eq_getElem hi]; rfl
theorem gk_get (l : List GF) (j : Nat) (hj : j < l.length) : (l.map gk)[j]?.getD (0, 0) = ((l[j]?.getD noGF).n, (l[j]?.getD noGF).k) := by
  rw [List.getElem?_map, List.getElem?_eq_getElem hj]; rfl
theorem RCls.kc {w : World} {base : Nat} {v : Value} {vs : List GV} {cs : List GC} (h : RCls w base v vs cs) (hne : cs ≠ []) :
    ∃ g cap, v = .slice (some ⟨g, 0, none⟩) cs.length cap ∧ KC w (kxOf vs g cap) (cs.map gcl) ∧ (∀ b, (kxOf vs g cap).has (cs.map gcl) b → base ≤ b) := by
  obtain ⟨g, cap, e, hg, _, hc⟩ := h.cells hne
  have hl := h.len
  have hbg : base ≤ g := (World.ownsRow.lt h.row g (by rw [e]; rfl)).1
  have hRV : ∀ i, i < cs.length → ∃ x c, vs[i]? = some x ∧ cs[i]? = some c ∧ x.n = c.n ∧ RV w base x.v.val c.l := by
    intro i hi
    have h1 : vs[i]? = some (vs[i]'(by omega)) := List.getElem?_eq_getElem _
    have h2 : cs[i]? = some (cs[i]'hi) := List.getElem?_eq_getElem _
    obtain ⟨a, _, c⟩ := h.fld i _ _ h1 h2
    exact ⟨_, _, h1, h2, a, c⟩
  have hfld : ∀ i j, i < cs.length → j < (cs[i]?.getD noGC).l.length → (kxOf vs g cap).FA i = some ⟨(kxOf vs g cap).FG i, 0, none⟩ ∧ base ≤ (kxOf vs g cap).FG i ∧ (kxOf vs g cap).FG i < w.heap.size ∧ RowK w ((kxOf vs g cap).FG i) j ((cs[i]?.getD noGC).l[j]?.getD noGF).n ((cs[i]?.getD noGC).l[j]?.getD noGF).k := by
    intro i j hi hj
    obtain ⟨x, c, h1, h2, h3, h5⟩ := hRV i hi
    rw [h2] at hj ⊢
    simp only [kxOf, h1, Option.getD_some] at hj ⊢
    obtain ⟨ra, rc, rv, r⟩ := RVcellsK h5
    obtain ⟨g', rfl, hbg', hg', hcell⟩ := r (by omega)
    have e : x.v.a = some ⟨g', 0, none⟩ := by
      have : (Value.slice x.v.a x.v.n x.v.c) = .slice (some ⟨g', 0, none⟩) c.l.length rc := rv
      injection this
    rw [e]
    exact ⟨rfl, hbg', hg', hcell j hj⟩
  have hclen : ∀ i, i < cs.length → (cat (cs.map gcl) i).2.length = (cs[i]?.getD noGC).l.length := fun i hi => by rw [cat_gcl cs i hi]; simp [gcl]
  refine ⟨g, cap, e, ⟨hg, fun i hi => ?_, fun i j hi hj => ?_⟩, ?_⟩
  · rw [List.length_map] at hi
    obtain ⟨x, c, h1, h2, h3, h5⟩ := hRV i hi
    have := hc i hi
    rw [h1] at this
    obtain ⟨ra, rc, rv, _⟩ := RVcellsK h5
    have e : x.v.n = c.l.length := by
      have : (Value.slice x.v.a x.v.n x.v.c) = .slice ra c.l.length rc := rv
      injection this
    rw [hclen i hi, cat_gcl cs i hi, h2]
    obtain ⟨c0, c1, c2, c3, c4⟩ := this
    simp only [Option.getD_some, gcl, kxOf, h1] at c0 c4 ⊢
    rw [h3] at c0; rw [e] at c4
    exact ⟨c0, c4⟩
  · rw [List.length_map] at hi
    rw [hclen i hi] at hj
    obtain ⟨a1, _, a3, a4⟩ := hfld i j hi hj
    refine ⟨a1, a3, ?_⟩
    rw [cat_gcl cs i hi]
    show RowK w _ j (((cs[i]?.getD noGC).l.map gk)[j]?.getD (0, 0)).1 (((cs[i]?.getD noGC).l.map gk)[j]?.getD (0, 0)).2
    rw [gk_get _ j hj]
    exact a4
  · rintro b (rfl | ⟨i, hi, h0, rfl⟩)
    · exact hbg
    · rw [List.length_map] at hi
      rw [hclen i hi] at h0
      exact (hfld i 0 hi h0).2.1
end Go.Proofs.YthckelcjncnalaaDoor
namespace Go.Proofs.YthckelcjncnalaaDoor

/-- A field that was read. -/
def okF (f : Int × Int) : Prop := 97 ≤ f.1 ∧ f.1 ≤ 122 ∧ isKindB f.2 = true
theorem rdField_fine (s : ByteArray) (fs : List (Int × Int)) (k : Nat) (tw : Int) (h : (rdField s fs k tw).ok ≠ false) : okF ((rdField s fs k tw).l, (rdField s fs k tw).kd) := by
  unfold rdField at h ⊢
  split at h
  · simp at h
  · rename_i h1
    rw [if_neg h1]
    split at h
    · rename_i h2
      rw [if_pos h2]
      split at h
      · rename_i h3
        rw [if_pos h3]
        exact ⟨by simp only []; omega, by simp only []; omega, h3⟩
      · simp at h
    · simp at h
theorem rdLoop_fine (s : ByteArray) : ∀ n fs k tw, fs.length + n ≤ 6 → (∀ f ∈ fs, okF f) → (rdLoop s n fs k tw).fs.length ≤ 6 ∧ ∀ f ∈ (rdLoop s n fs k tw).fs, okF f := by
  intro n
  induction n with
  | zero => intro fs k tw _ _; simp [rdLoop]
  | succ n ih =>
    intro fs k tw hl hf
    rw [rdLoop]
    split
    · simp
    · rename_i h1
      have hfine := rdField_fine s fs k tw h1
      have hall : ∀ f ∈ fs ++ [((rdField s fs k tw).l, (rdField s fs k tw).kd)], okF f := by
        intro f hm
        rcases List.mem_append.1 hm with hm | hm
        · exact hf f hm
        · simp only [List.mem_singleton] at hm; rw [hm]; exact hfine
      split
      · exact ⟨by simp; omega, hall⟩
      · split
        · simp
        · exact ih _ _ _ (by simp; omega) hall
theorem rdFields_fine (s : ByteArray) (k : Nat) (tw : Int) : (rdFields s k tw).fs.length ≤ 6 ∧ ∀ f ∈ (rdFields s k tw).fs, okF f := by
  unfold rdFields
  split
  · simp
  · exact rdLoop_fine s 6 [] k tw (by simp) (by simp)
def okC (c : Int × List (Int × Int)) : Prop := c.2.length ≤ 6 ∧ ∀ f ∈ c.2, okF f
theorem rdClass_fine (s : ByteArray) (ls : List Int) (k : Nat) (tw : Int) : okC ((rdClass s ls k tw).l, (rdClass s ls k tw).fs) := by
  unfold rdClass
  split
  · exact ⟨by simp, by simp⟩
  · split
    · generalize (if (ls.any fun p => p == nextB s k) = true then noteI tw k else tw) = t
      split
      · exact rdFields_fine s _ _
      · exact ⟨by simp, by simp⟩
    · exact ⟨by simp, by simp⟩
theorem rcLoop_fine (s : ByteArray) : ∀ n cs k tw, cs.length + n ≤ 6 → (∀ c ∈ cs, okC c) → (rcLoop s n cs k tw).cs.length ≤ 6 ∧ ∀ c ∈ (rcLoop s n cs k tw).cs, okC c := by
  intro n
  induction n with
  | zero => intro cs k tw _ _; simp [rcLoop]
  | succ n ih =>
    intro cs k tw hl hf
    rw [rcLoop]
    split
    · simp
    · have hfine := rdClass_fine s (cs.map (·.1)) k tw
      have hall : ∀ c ∈ cs ++ [((rdClass s (cs.map (·.1)) k tw).l, (rdClass s (cs.map (·.1)) k tw).fs)], okC c := by
        intro f hm
        rcases List.mem_append.1 hm with hm | hm
        · exact hf f hm
        · simp only [List.mem_singleton] at hm; rw [hm]; exact hfine
      split
      · exact ⟨by simp; omega, hall⟩
      · exact ih _ _ _ (by simp; omega) hall
theorem readC_fine (s : ByteArray) : (readC s).length ≤ 6 ∧ ∀ c ∈ readC s, okC c := by
  have h : (readR s).cs.length ≤ 6 ∧ ∀ c ∈ (readR s).cs, okC c := rcLoop_fine s 6 [] 0 (-1) (by simp) (by simp)
  unfold readC
  split
  · simp
  · split
    · simp
    · split
      · exact h
      · simp
end Go.Proofs.YthckelcjncnalaaDoor
