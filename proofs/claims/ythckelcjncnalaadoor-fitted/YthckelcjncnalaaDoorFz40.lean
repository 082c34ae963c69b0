import Derived.Test.YthckelcjncnalaaDoorFz39
import Derived.Test.YthckelcjncnalaaDoorFz36
namespace Go.Proofs.YthckelcjncnalaaDoor
open Go.RowKit

theorem ha_accepts (s : ByteArray) : (haAll s).isSome = true ↔ uaccepts s := by
  rw [← (uread_accepts s).1]
  rcases uread_meet s with ⟨h1, h2⟩ | ⟨cs, h1, h2, _⟩ <;> rw [h1, h2] <;> simp
theorem udN_agree (p s : ByteArray) (hag : ∀ j, j < p.size → nextB p j = nextB s j) : ∀ n i q, i + n = p.size →
    ((ud p i q).1 < p.size → ud s i q = ud p i q) ∧ (¬ (ud p i q).1 < p.size → ud s i q = ud s p.size (ud p i q).2 ∧ (ud p i q).1 = p.size) := by
  intro n
  induction n with
  | zero =>
    intro i q hi
    have : i = p.size := by omega
    subst this
    rw [ud_end (s := p) (by omega)]
    exact ⟨fun h => by simp at h, fun _ => ⟨rfl, rfl⟩⟩
  | succ n ih =>
    intro i q hi
    have hlt : i < p.size := by omega
    cases hg : q.go (nextB p i) with
    | none =>
      rw [ud_stop hg, ud_stop (s := s) (by rw [← hag i hlt]; exact hg)]
      exact ⟨fun _ => rfl, fun h => absurd hlt h⟩
    | some q' =>
      rw [ud_step hg, ud_step (s := s) (by rw [← hag i hlt]; exact hg)]
      exact ih (i + 1) q' (by omega)
theorem ud_agree (p s : ByteArray) (hag : ∀ j, j < p.size → nextB p j = nextB s j) (q : USt) :
    ((ud p 0 q).1 < p.size → ud s 0 q = ud p 0 q) ∧ (¬ (ud p 0 q).1 < p.size → ud s 0 q = ud s p.size (ud p 0 q).2 ∧ (ud p 0 q).1 = p.size) :=
  udN_agree p s hag p.size 0 q (by omega)
theorem udN_ge (s : ByteArray) : ∀ n i q, i + n = s.size → i ≤ (ud s i q).1 ∧ (ud s i q).1 ≤ s.size := by
  intro n
  induction n with
  | zero => intro i q hi; rw [ud_end (by omega)]; exact ⟨Nat.le_refl _, by simp; omega⟩
  | succ n ih =>
    intro i q hi
    cases hg : q.go (nextB s i) with
    | none => rw [ud_stop hg]; exact ⟨Nat.le_refl _, by simp; omega⟩
    | some q' =>
      rw [ud_step hg]
      have := ih (i + 1) q' (by omega)
      omega
theorem ud_ge (s : ByteArray) (i : Nat) (q : USt) (hi : i ≤ s.size) : i ≤ (ud s i q).1 ∧ (ud s i q).1 ≤ s.size := udN_ge s (s.size - i) i q (by omega)
theorem uahead_of_accepts {p e : ByteArray} (h : uaccepts (p ++ e)) : (ud p 0 (U 0 0 0)).1 = p.size := by
  have hs : (p ++ e).size = p.size + e.size := ByteArray.size_append
  have A := ud_agree p (p ++ e) (fun j hj => (nextB_app_left p e j hj).symm) (U 0 0 0)
  by_cases hlt : (ud p 0 (U 0 0 0)).1 < p.size
  · have := A.1 hlt
    have h1 := h.1
    rw [this] at h1; omega
  · exact (A.2 hlt).2
theorem ugoes_on {p : ByteArray} (q : USt) (e : ByteArray) (h : ud p 0 (U 0 0 0) = (p.size, q)) : ud (p ++ e) 0 (U 0 0 0) = ud (p ++ e) p.size q := by
  have hs : (p ++ e).size = p.size + e.size := ByteArray.size_append
  have A := ud_agree p (p ++ e) (fun j hj => (nextB_app_left p e j hj).symm) (U 0 0 0)
  have := A.2 (by rw [h]; simp)
  rw [h] at this
  exact this.1
theorem uapp_step' {p e : ByteArray} (i : Nat) {q q' : USt} (h : q.go (nextB e i) = some q') : ud (p ++ e) (p.size + i) q = ud (p ++ e) (p.size + (i + 1)) q' :=
  ud_step (by rw [nextB_app_right]; exact h)
/-- In a sum it is never deeper than six. -/
def Dp (u : USt) : Prop := u.k = 7 → u.q.2.1 ≤ 6
theorem ufin_dp {c f : Nat} {x : Int} {u : USt} (h : ufin c f x = some u) : Dp u := by
  unfold ufin at h
  split at h
  · injection h with h; subst h; intro h'; cases h'
  · split at h
    · injection h with h; subst h; intro h'; cases h'
    · cases h
theorem stp_dp {q q' : Nat × Nat × Nat} {x : Int} (h : stp 6 q x = some q') (hq : q.2.1 ≤ 6) : q'.2.1 ≤ 6 := by
  unfold stp at h
  split at h
  · split at h
    · cases h; exact hq
    · split at h
      · cases h; exact hq
      · split at h
        · cases h; exact hq
        · split at h
          · rename_i h5; cases h; show q.2.1 + 1 ≤ 6; omega
          · cases h
  · split at h
    · cases h; exact hq
    · split at h
      · cases h; exact hq
      · split at h
        · cases h; show q.2.1 - 1 ≤ 6; omega
        · cases h
theorem go_dp {u u' : USt} {x : Int} (h : u.go x = some u') (hu : Dp u) : Dp u' := by
  obtain ⟨k, c, f, q⟩ := u
  have z : ∀ {a b d : Nat} {w : USt}, some (U a b d) = some w → Dp w := by
    intro a b d w h'
    injection h' with h'; subst h'; intro _; exact Nat.zero_le _
  match k, h, hu with
  | 0, h, _ => simp only [USt.go] at h; split at h; exact z h; cases h
  | 1, h, _ => simp only [USt.go] at h; split at h; exact z h; split at h; exact z h; cases h
  | 2, h, _ => simp only [USt.go] at h; split at h; exact z h; split at h; exact z h; cases h
  | 3, h, _ => simp only [USt.go] at h; split at h; exact z h; cases h
  | 4, h, _ => simp only [USt.go] at h; split at h; exact z h; cases h
  | 5, h, _ => simp only [USt.go] at h; split at h; exact z h; exact ufin_dp h
  | 6, h, _ => simp only [USt.go] at h; split at h; exact z h; cases h
  | 7, h, hu =>
    simp only [USt.go] at h
    split at h
    · rename_i hs
      injection h with h; subst h
      exact fun _ => stp_dp hs (hu rfl)
    · split at h
      · split at h
        · exact z h
        · exact ufin_dp h
      · cases h
  | 8, h, _ => simp only [USt.go] at h; exact ufin_dp h
  | 9, h, _ => simp only [USt.go] at h; split at h; exact z h; cases h
  | n + 10, h, _ => simp only [USt.go] at h; split at h; exact z h; cases h
theorem ud_dp (s : ByteArray) : ∀ n i u, i + n = s.size → Dp u → Dp (ud s i u).2 := by
  intro n
  induction n with
  | zero => intro i u hi h; rw [ud_end (by omega)]; exact h
  | succ n ih =>
    intro i u hi h
    cases hg : u.go (nextB s i) with
    | none => rw [ud_stop hg]; exact h
    | some u' => rw [ud_step hg]; exact ih (i + 1) u' (by omega) (go_dp hg h)
theorem close_ud : ∀ (d : Nat) (p : ByteArray) (c f m kk : Nat), m ≠ 0 → ud (p ++ closeS d) p.size ⟨7, c, f, (m, d, kk)⟩ = ((p ++ closeS d).size, U 0 (c + 1) 0) := by
  intro d
  induction d with
  | zero =>
    intro p c f m kk hm
    have e0 : nextB (p ++ closeS 0) p.size = 125 := nextB_app_right p (closeS 0) 0
    have hn : stp 6 (m, 0, kk) 125 = none := by
      cases h : stp 6 (m, 0, kk) 125 with
      | none => rfl
      | some q => have := stp_byte h; omega
    have hs : (p ++ closeS 0).size = p.size + 1 := ByteArray.size_append
    rw [ud_step (q' := U 0 (c + 1) 0) (by rw [e0, gu7, hn]; simp only []; rw [if_pos ⟨hm, trivial⟩, if_neg (by decide), ufin, if_pos rfl]), ud_end (by omega), hs]
  | succ d ih =>
    intro p c f m kk hm
    have ea : p ++ closeS (d + 1) = (p ++ ⟨#[41]⟩) ++ closeS d := by rw [closeS, ByteArray.append_assoc]
    have e0 : nextB (p ++ closeS (d + 1)) p.size = 41 := by
      have : nextB (p ++ closeS (d + 1)) (p.size + 0) = nextB (closeS (d + 1)) 0 := nextB_app_right p _ 0
      have t2 : nextB (p ++ closeS (d + 1)) p.size = nextB (closeS (d + 1)) 0 := this
      rw [t2, closeS, nextB_app_left _ _ 0 (by decide)]; rfl
    have hn : stp 6 (m, d + 1, kk) 41 = some (1, d, 0) := by
      rw [stp_one hm (by omega)]; unfold stp; simp
    rw [ud_step (q' := ⟨7, c, f, (1, d, 0)⟩) (by rw [e0, gu7, hn]), ea]
    have hs : (p ++ (⟨#[41]⟩ : ByteArray)).size = p.size + 1 := ByteArray.size_append
    rw [← hs]
    exact ih (p ++ ⟨#[41]⟩) c f 1 0 (by decide)
theorem ubegins_of_ahead {p : ByteArray} (h : (ud p 0 (U 0 0 0)).1 = p.size) : ubeginsB p = true := by
  obtain ⟨q, hq⟩ : ∃ q, ud p 0 (U 0 0 0) = (p.size, q) := ⟨(ud p 0 (U 0 0 0)).2, by rw [← h]⟩
  have hdp : Dp q := by
    have := ud_dp p p.size 0 (U 0 0 0) (by omega) (fun h' => by cases h')
    rw [hq] at this; exact this
  have fin : ∀ (j c : Nat), j < 7 → ud (p ++ E j) 0 (U 0 0 0) = ud (p ++ E j) (p.size + (E j).size) (U 0 (c + 1) 0) → ubeginsB p = true := by
    intro j c hj e
    have hs : (p ++ E j).size = p.size + (E j).size := ByteArray.size_append
    rw [ud_end (s := p ++ E j) (i := p.size + (E j).size) (q := U 0 (c + 1) 0) (by omega)] at e
    exact ubegins_1 ⟨j, hj, (ha_accepts _).2 ⟨by rw [e, hs], by rw [e]; rfl⟩⟩
  have fend : ∀ (c f k : Nat) (q : Nat × Nat × Nat), ud p 0 (U 0 0 0) = (p.size, ⟨k, c, f, q⟩) → (USt.mk k c f q).go 125 = some (U 0 (c + 1) 0) → ubeginsB p = true := by
    intro c f k q hq hg
    refine fin 6 c (by omega) ?_
    rw [ugoes_on _ _ hq, show p.size = p.size + 0 from rfl, uapp_step' 0 (q' := U 0 (c + 1) 0) hg]
    rfl
  obtain ⟨k, c, f, qq⟩ := q
  match k, c, hq, hdp with
  | 0, 0, hq, _ =>
    refine fin 1 0 (by omega) ?_
    rw [ugoes_on _ _ hq, show p.size = p.size + 0 from rfl, uapp_step' 0 (q' := U 1 0 0) rfl, uapp_step' 1 (q' := U 2 0 0) rfl, uapp_step' 2 (q' := U 0 1 0) rfl]
    rfl
  | 0, c + 1, hq, _ =>
    have e := ugoes_on _ (E 0) hq
    have hs : (p ++ E 0).size = p.size + (E 0).size := ByteArray.size_append
    have h0 : (E 0).size = 0 := rfl
    rw [ud_end (s := p ++ E 0) (i := p.size) (by omega)] at e
    exact ubegins_1 ⟨0, by omega, (ha_accepts _).2 ⟨by rw [e, hs, h0]; rfl, by rw [e]; simp [USt.acc]⟩⟩
  | 1, c, hq, _ =>
    refine fin 2 c (by omega) ?_
    rw [ugoes_on _ _ hq, show p.size = p.size + 0 from rfl, uapp_step' 0 (q' := U 2 c 0) rfl, uapp_step' 1 (q' := U 0 (c + 1) 0) rfl]
    rfl
  | 2, c, hq, _ => exact fend c f 2 qq hq rfl
  | 3, c, hq, _ =>
    refine fin 4 c (by omega) ?_
    rw [ugoes_on _ _ hq, show p.size = p.size + 0 from rfl, uapp_step' 0 (q' := U 4 c f) rfl, uapp_step' 1 (q' := U 5 c (f + 1)) rfl, uapp_step' 2 (q' := U 0 (c + 1) 0) rfl]
    rfl
  | 4, c, hq, _ =>
    refine fin 5 c (by omega) ?_
    rw [ugoes_on _ _ hq, show p.size = p.size + 0 from rfl, uapp_step' 0 (q' := U 5 c (f + 1)) rfl, uapp_step' 1 (q' := U 0 (c + 1) 0) rfl]
    rfl
  | 5, c, hq, _ => exact fend c f 5 qq hq rfl
  | 6, c, hq, _ =>
    refine fin 3 c (by omega) ?_
    rw [ugoes_on _ _ hq, show p.size = p.size + 0 from rfl, uapp_step' 0 (q' := U 3 c f) rfl, uapp_step' 1 (q' := U 4 c f) rfl, uapp_step' 2 (q' := U 5 c (f + 1)) rfl, uapp_step' 3 (q' := U 0 (c + 1) 0) rfl]
    rfl
  | 7, c, hq, hdp =>
    obtain ⟨m, d, kk⟩ := qq
    have hd : d ≤ 6 := hdp rfl
    by_cases hm : m = 0
    · subst hm
      have e1 := ugoes_on _ (⟨#[49]⟩ ++ closeS d) hq
      have h49 : nextB (p ++ (⟨#[49]⟩ ++ closeS d)) p.size = 49 := by
        have : nextB (p ++ (⟨#[49]⟩ ++ closeS d)) (p.size + 0) = nextB ((⟨#[49]⟩ : ByteArray) ++ closeS d) 0 := nextB_app_right p _ 0
        have t2 : nextB (p ++ (⟨#[49]⟩ ++ closeS d)) p.size = nextB ((⟨#[49]⟩ : ByteArray) ++ closeS d) 0 := this
        rw [t2, nextB_app_left _ _ 0 (by decide)]; rfl
      rw [ud_step (i := p.size) (q := ⟨7, c, f, (0, d, kk)⟩) (q' := ⟨7, c, f, (2, d, 1)⟩) (by rw [h49, gu7]; rfl), ← ByteArray.append_assoc] at e1
      have hs : (p ++ (⟨#[49]⟩ : ByteArray)).size = p.size + 1 := ByteArray.size_append
      rw [← hs, close_ud d (p ++ ⟨#[49]⟩) c f 2 1 (by decide)] at e1
      exact ubegins_2 ⟨d, by omega, .inr ((ha_accepts _).2 ⟨by rw [e1], by rw [e1]; rfl⟩)⟩
    · have e1 := ugoes_on _ (closeS d) hq
      rw [close_ud d p c f m kk hm] at e1
      exact ubegins_2 ⟨d, by omega, .inl ((ha_accepts _).2 ⟨by rw [e1], by rw [e1]; rfl⟩)⟩
  | 8, c, hq, _ => exact fend c f 8 qq hq rfl
  | 9, c, hq, _ =>
    refine fin 1 c (by omega) ?_
    rw [ugoes_on _ _ hq, show p.size = p.size + 0 from rfl, uapp_step' 0 (q' := U 10 c 0) rfl, uapp_step' 1 (q' := U 2 c 0) rfl, uapp_step' 2 (q' := U 0 (c + 1) 0) rfl]
    rfl
  | n + 10, c, hq, _ =>
    refine fin 2 c (by omega) ?_
    rw [ugoes_on _ _ hq, show p.size = p.size + 0 from rfl, uapp_step' 0 (q' := U 2 c 0) rfl, uapp_step' 1 (q' := U 0 (c + 1) 0) rfl]
    rfl
theorem ubegins_iff (p : ByteArray) : ubeginsB p = true ↔ (ud p 0 (U 0 0 0)).1 = p.size := by
  constructor
  · intro h
    have h' : ubegin1 p ∨ ubegin2 p := by
      by_cases h1 : ubegin1 p
      · exact .inl h1
      · by_cases h2 : ubegin2 p
        · exact .inr h2
        · rw [ubegins_no h1 h2] at h; cases h
    rcases h' with ⟨j, _, h⟩ | ⟨j, _, h | h⟩
    · exact uahead_of_accepts ((ha_accepts _).1 h)
    · exact uahead_of_accepts ((ha_accepts _).1 h)
    · rw [ByteArray.append_assoc] at h
      exact uahead_of_accepts ((ha_accepts _).1 h)
  · exact ubegins_of_ahead
theorem uahead_goes (s : ByteArray) (i : Nat) (hi : i ≤ s.size) : (ud (s.extract 0 i) 0 (U 0 0 0)).1 = (s.extract 0 i).size ↔ i ≤ (ud s 0 (U 0 0 0)).1 := by
  have hsz : (s.extract 0 i).size = i := by rw [ext_size hi]; omega
  have A := ud_agree (s.extract 0 i) s (fun j hj => by rw [nextB_extract s 0 i j hi, if_pos (by omega), Nat.zero_add]) (U 0 0 0)
  rw [hsz] at A ⊢
  by_cases h : (ud (s.extract 0 i) 0 (U 0 0 0)).1 < i
  · rw [A.1 h]
    omega
  · have := A.2 h
    have g := ud_ge s i (ud (s.extract 0 i) 0 (U 0 0 0)).2 hi
    rw [this.1]
    omega
theorem uwrong_is (s : ByteArray) : ∀ n i, i + n = s.size → i ≤ (ud s 0 (U 0 0 0)).1 → uwrongN s n i = (ud s 0 (U 0 0 0)).1 := by
  intro n
  induction n with
  | zero =>
    intro i hi h
    have := (ud_ge s 0 (U 0 0 0) (Nat.zero_le _)).2
    rw [uwrongN]; omega
  | succ n ih =>
    intro i hi h
    rw [uwrongN]
    have P := uahead_goes s (i + 1) (by omega)
    rw [← ubegins_iff] at P
    by_cases hb : ubeginsB (s.extract 0 (i + 1)) = true
    · rw [if_pos hb]
      exact ih (i + 1) (by omega) (P.1 hb)
    · rw [if_neg hb]
      have : ¬ i + 1 ≤ (ud s 0 (U 0 0 0)).1 := fun h' => hb (P.2 h')
      omega
end Go.Proofs.YthckelcjncnalaaDoor
namespace Go.Proofs.YthckelcjncnalaaDoor
open Go.RowKit

/-- The kind that the byte of a sum has. -/
def jKd (fs : List (Int × Int)) (b : Int) : Int := if isLw b = true then (kdF fs b).1 else 0
/-- What judge finds in a field at a place. -/
def jF1 (fs : List (Int × Int)) (at_ : Int) (f : GU) : Int :=
  if f.sm = false ∨ at_ < f.sa ∨ f.sa + f.su.size ≤ at_ then 0
  else if isLw (nextB f.su (at_ - f.sa).toNat) = true ∧ jKd fs (nextB f.su (at_ - f.sa).toNat) = 0 then 5
  else if f.k ≠ 114 ∧ jKd fs (nextB f.su (at_ - f.sa).toNat) = 114 then 6
  else if f.k = 114 ∧ at_ = f.sa ∧ (f.bg = true ∨ (f.su ≠ ⟨#[48]⟩ ∧ (f.su.size ≠ 1 ∨ jKd fs (nextB f.su (at_ - f.sa).toNat) ≠ 114))) then 6
  else 0
def jFs (fs : List (Int × Int)) (at_ : Int) : List GU → Int
  | [] => 0
  | f :: r => if jF1 fs at_ f ≠ 0 then jF1 fs at_ f else jFs fs at_ r
def jC (os : Sch) (c : HC) (at_ : Int) : Int :=
  if c.s ≠ 0 ∧ c.sa = at_ then (if hasC (vsO os) c.s = true then 0 else 4) else jFs (fof os (srcI (vsO os) c.n c.s)) at_ c.l
theorem UCell.below {w w' : World} {g j : Nat} {x : GU} {B : Nat} (h : UCell w g j x) (hb : Below B w w') (hg : g < B) : UCell w' g j x :=
  ⟨(hb.cell (p := ⟨g, _, none⟩) hg).trans h.c0, (hb.cell (p := ⟨g, _, none⟩) hg).trans h.c1, (hb.cell (p := ⟨g, _, none⟩) hg).trans h.c2, (hb.cell (p := ⟨g, _, none⟩) hg).trans h.c3, (hb.cell (p := ⟨g, _, none⟩) hg).trans h.c4, (hb.cell (p := ⟨g, _, none⟩) hg).trans h.c5, (hb.cell (p := ⟨g, _, none⟩) hg).trans h.c6⟩
theorem UV.cellsX {w : World} {base : Nat} {a : Option Addr} {n k : Nat} {l : List GU} (h : UV w base (.slice a n k) l) : n = l.length ∧ ∀ i, i < n → ∃ g, a = some ⟨g, 0, none⟩ ∧ g < w.heap.size ∧ UCell w g i (l[i]?.getD noGU) := by
  obtain ⟨a', cap, e, _, r⟩ := h.cells
  cases e
  exact ⟨rfl, fun i hi => by
    obtain ⟨g, e1, e2, e3⟩ := r (by omega)
    exact ⟨g, e1, e2, e3 i hi⟩⟩
/-- What judge says of a byte of a sum; or what comes behind. -/
def jsel (lw : Bool) (kd fk at_ sa : Int) (bg : Bool) (su : ByteArray) (rest : Int) : Int :=
  if (if lw = true ∧ kd = 0 then 5 else if fk ≠ 114 ∧ kd = 114 then 6 else if fk = 114 ∧ at_ = sa ∧ (bg = true ∨ (su ≠ ⟨#[48]⟩ ∧ (su.size ≠ 1 ∨ kd ≠ 114))) then 6 else 0 : Int) ≠ 0
  then (if lw = true ∧ kd = 0 then 5 else if fk ≠ 114 ∧ kd = 114 then 6 else if fk = 114 ∧ at_ = sa ∧ (bg = true ∨ (su ≠ ⟨#[48]⟩ ∧ (su.size ≠ 1 ∨ kd ≠ 114))) then 6 else 0) else rest
theorem su48 {su : ByteArray} : su.toList = [48] ↔ su = ⟨#[48]⟩ := by
  rw [ByteArray.toList_eq]
  constructor
  · intro h
    cases su with | mk d => congr; exact Array.toList_inj.1 h
  · rintro rfl; rfl
theorem jsel5 {kd fk at_ sa : Int} {bg : Bool} {su : ByteArray} {rest : Int} (h : kd = 0) : jsel true kd fk at_ sa bg su rest = 5 := by
  unfold jsel; rw [if_pos (show true = true ∧ kd = 0 from ⟨rfl, h⟩), if_pos (by decide)]
theorem jsel6 {lw : Bool} {kd fk at_ sa : Int} {bg : Bool} {su : ByteArray} {rest : Int} (h : (fk ≠ 114 ∧ kd = 114) ∨ (fk = 114 ∧ at_ = sa ∧ (bg = true ∨ (su ≠ ⟨#[48]⟩ ∧ (su.size ≠ 1 ∨ kd ≠ 114))))) (hl : lw = false ∨ kd ≠ 0) : jsel lw kd fk at_ sa bg su rest = 6 := by
  have h0 : ¬ (lw = true ∧ kd = 0) := by rintro ⟨a, b⟩; rcases hl with h | h; rw [h] at a; cases a; exact h b
  unfold jsel
  rw [if_neg h0]
  rcases h with h | h
  · rw [if_pos h, if_pos (by decide)]
  · rw [if_neg (show ¬ (fk ≠ 114 ∧ kd = 114) from fun h' => h'.1 h.1), if_pos h, if_pos (by decide)]
theorem jsel0 {lw : Bool} {kd fk at_ sa : Int} {bg : Bool} {su : ByteArray} {rest : Int} (hl : lw = false ∨ kd ≠ 0) (h1 : ¬ (fk ≠ 114 ∧ kd = 114)) (h2 : ¬ (fk = 114 ∧ at_ = sa ∧ (bg = true ∨ (su ≠ ⟨#[48]⟩ ∧ (su.size ≠ 1 ∨ kd ≠ 114))))) : jsel lw kd fk at_ sa bg su rest = rest := by
  have h0 : ¬ (lw = true ∧ kd = 0) := by rintro ⟨a, b⟩; rcases hl with h | h; rw [h] at a; cases a; exact h b
  unfold jsel
  rw [if_neg h0, if_neg h1, if_neg h2, if_neg (by simp)]
end Go.Proofs.YthckelcjncnalaaDoor
