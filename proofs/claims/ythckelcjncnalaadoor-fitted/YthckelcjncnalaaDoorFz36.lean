import Derived.Test.YthckelcjncnalaaDoorFz35
import Derived.Test.YthckelcjncnalaaDoorFz24
import Derived.Test.YthckelcjncnalaaDoorFz29
namespace Go.Proofs.YthckelcjncnalaaDoor
open Go.RowKit

/-- What kindOf answers. -/
def KI (m : Nat) (N : Nat → Int) (FL : Nat → Nat) (FN FK : Nat → Nat → Int) (c x : Int) (r : Int) : Prop :=
  (r = 0 ∧ ∀ i k, i < m → k < FL i → ¬ (N i = c ∧ FN i k = x)) ∨ ∃ i k, i < m ∧ k < FL i ∧ (N i = c ∧ FN i k = x) ∧ r = FK i k

set_option maxRecDepth 100000 in
set_option maxHeartbeats 2000000 in
theorem kindOf_row (g cap m : Nat) (N : Nat → Int) (FA : Nat → Option Addr) (FG FL FC : Nat → Nat) (FN FK : Nat → Nat → Int) (c x : Int) (w : World) (hg : g < w.heap.size) (hm : m ≤ 1000) (hfl : ∀ i, FL i ≤ 1000)
    (hc : ∀ i, i < m → RowC w g i (N i) (FA i) (FL i) (FC i))
    (hf : ∀ i j, i < m → j < FL i → FA i = some ⟨FG i, 0, none⟩ ∧ FG i < w.heap.size ∧ RowK w (FG i) j (FN i j) (FK i j)) :
    Calls Tryd.prog 37 #[.slice (some ⟨g, 0, none⟩) m cap, .int .u8 c, .int .u8 x] w fun e w' => ∃ r, e = .returned (.int .u8 r) ∧ KI m N FL FN FK c x r ∧ Below w.heap.size w w' := by
  have HC : Hid (∀ i, i < m → RowC w g i (N i) (FA i) (FL i) (FC i)) := hc
  have HF : Hid (∀ i j, i < m → j < FL i → FA i = some ⟨FG i, 0, none⟩ ∧ FG i < w.heap.size ∧ RowK w (FG i) j (FN i j) (FK i j)) := hf
  have HFL : Hid (∀ i, FL i ≤ 1000) := hfl
  clear hc hf hfl
  go_enter Tryd.func37, Tryd.ntmps37
  go_wp2
  go_loopw [7] (fun iv wr => ∃ i : Nat, i ≤ m ∧ iv = .int .i64 i ∧ Hid (∀ i' k', i' < i → k' < FL i' → ¬ (N i' = c ∧ FN i' k' = x)) ∧ Below w.heap.size w wr) (fun iv _ => m - (intOf iv).toNat)
  case atStart => exact ⟨0, by omega, rfl, fun i' k' h => by omega, Below.refl _ _⟩
  case round =>
    obtain ⟨i, hi, rfl, HJ, hb⟩ := hrel
    by_cases hlt : i < m
    · have hfl := HFL.out i
      have HJ0 : Hid (∀ i' k', i' < i → k' < FL i' → ¬ (N i' = c ∧ FN i' k' = x)) := HJ
      go_wp2
      go_loopw [8] (fun kv wr => ∃ k : Nat, k ≤ FL i ∧ kv = .int .i64 k ∧ Hid (∀ k', k' < k → ¬ (N i = c ∧ FN i k' = x)) ∧ Below w.heap.size w wr) (fun kv _ => FL i - (intOf kv).toNat)
      case atStart => exact ⟨0, by omega, rfl, fun k' h => by omega, hb⟩
      case round =>
        clear hb HJ
        obtain ⟨k, hk, rfl, HK, hb⟩ := hrel
        by_cases hkl : k < FL i
        · obtain ⟨i0, i4⟩ := (HC.out i hlt).below hb hg
          obtain ⟨fa, fg, fr⟩ := HF.out i k hlt hkl
          obtain ⟨k0, k1⟩ := fr.below hb fg
          rw [fa] at i4
          clear fa fr
          by_cases hn : N i = c
          · have hn' : (N i == c) = true := by simpa using hn
            by_cases hx : FN i k = x
            · have hx' : (FN i k == x) = true := by simpa using hx
              have HK2 : Hid (KI m N FL FN FK c x (FK i k)) := .inr ⟨i, k, hlt, hkl, ⟨hn, hx⟩, rfl⟩
              clear hn hx
              go_wp2
              go_ret
              exact ⟨_, rfl, HK2.out, hb⟩
            · have hx' : (FN i k == x) = false := by simpa using hx
              have HK2 : Hid (∀ k', k' < k + 1 → ¬ (N i = c ∧ FN i k' = x)) := fun k' h => by
                rcases Nat.lt_succ_iff_lt_or_eq.1 h with h | rfl
                · exact HK.out k' h
                · exact fun h => hx h.2
              clear hn hx
              go_wp2
              go_roundw
              case rel => exact ⟨k + 1, by omega, by go_num, HK2, hb⟩
              case measure => simp [intOf]; omega
          · have hn' : (N i == c) = false := by simpa using hn
            have HK2 : Hid (∀ k', k' < k + 1 → ¬ (N i = c ∧ FN i k' = x)) := fun k' h h2 => hn h2.1
            clear hn
            go_wp2
            go_roundw
            case rel => exact ⟨k + 1, by omega, by go_num, HK2, hb⟩
            case measure => simp [intOf]; omega
        · obtain ⟨i0, i4⟩ := (HC.out i hlt).below hb hg
          have HJ2 : Hid (∀ i' k', i' < i + 1 → k' < FL i' → ¬ (N i' = c ∧ FN i' k' = x)) := fun i' k' h h2 => by
            rcases Nat.lt_succ_iff_lt_or_eq.1 h with h | rfl
            · exact HJ0.out i' k' h h2
            · exact HK.out k' (by omega)
          have hge : FL i ≤ k := by omega
          clear hkl
          go_wp2
          go_roundw
          case rel => exact ⟨i + 1, by omega, by go_num, HJ2, hb⟩
          case measure => simp [intOf]; omega
    · have hge : m ≤ i := by omega
      clear hlt
      go_wp2
      go_ret
      exact ⟨0, rfl, .inl ⟨rfl, fun i' k' h1 h2 => HJ.out i' k' (by omega) h2⟩, hb⟩

/-- An old schema: its letters are apart, its kinds are some. -/
structure Uq (os : Sch) : Prop where
  c : ∀ i j, i < os.length → j < os.length → (cat os i).1 = (cat os j).1 → i = j
  f : ∀ i j k, i < os.length → j < (cat os i).2.length → k < (cat os i).2.length → ((cat os i).2[j]?.getD (0, 0)).1 = ((cat os i).2[k]?.getD (0, 0)).1 → j = k
  p : ∀ i j, i < os.length → j < (cat os i).2.length → 0 < ((cat os i).2[j]?.getD (0, 0)).2
  l : ∀ i j, i < os.length → j < (cat os i).2.length → isLw ((cat os i).2[j]?.getD (0, 0)).1 = true
  s : os.length ≤ 6
  t : ∀ i : Nat, (cat os i).2.length ≤ 6
theorem KI_kd {os : Sch} (h : Uq os) {c x r : Int} (hk : KI os.length (fun i => (cat os i).1) (fun i => (cat os i).2.length) (fun i j => ((cat os i).2[j]?.getD (0, 0)).1) (fun i j => ((cat os i).2[j]?.getD (0, 0)).2) c x r) : r = (kdF (fof os c) x).1 := by
  rcases hk with ⟨rfl, hn⟩ | ⟨i, k, hi, hk, ⟨h1, h2⟩, rfl⟩
  · have e : idxF (fof os c) x = -1 := by
      by_cases hex : ∃ i, i < os.length ∧ (cat os i).1 = c
      · obtain ⟨i, hi, hc⟩ := hex
        have hf := (fof_hit hi hc (fun j hj h' => by have := h.c j i (by omega) hi (h'.trans hc.symm); omega)).1
        rw [hf]
        exact idxF_none _ _ fun j hj hx => hn i j hi hj ⟨hc, hx⟩
      · rw [(fof_no (c := c) fun j hj hc => hex ⟨j, hj, hc⟩).1]
        rfl
    unfold kdF; rw [e]; rfl
  · simp only [] at h1 h2 hk ⊢
    have hf := (fof_hit hi h1 (fun j hj h' => by have := h.c j i (by omega) hi (h'.trans h1.symm); omega)).1
    rw [hf]
    have e : idxF (cat os i).2 x = k := idxF_hit _ _ k hk (fun j hj h' => by have := h.f i j k hi (by omega) hk (h'.trans h2.symm); omega) (by simpa using h2)
    unfold kdF; rw [e, if_neg (by omega), Int.toNat_natCast]
theorem kindOf_kc {x : KX} {os : Sch} {w : World} (K : KC w x os) (h : Uq os) (c n : Int) (y : Int) (hy : (kdF (fof os c) n).1 = y) :
    Calls Tryd.prog 37 #[.slice (some ⟨x.g, 0, none⟩) os.length x.cap, .int .u8 c, .int .u8 n] w fun e w' => e = .returned (.int .u8 y) ∧ Below w.heap.size w w' := by
  refine (kindOf_row x.g x.cap os.length (fun i => (cat os i).1) x.FA x.FG (fun i => (cat os i).2.length) x.FC (fun i j => ((cat os i).2[j]?.getD (0, 0)).1) (fun i j => ((cat os i).2[j]?.getD (0, 0)).2) c n w K.lt (by have := h.s; omega) (fun i => by have := h.t i; omega) K.row K.fld).mono ?_
  rintro e w' ⟨r, rfl, hr, hb⟩
  exact ⟨by rw [KI_kd h hr, hy], hb⟩
theorem KC.oldN {x : KX} {os : Sch} {w : World} (K : KC w x os) (h : os.length ≤ 6) : OldN w x.g os.length (fun i => (cat os i).1) := ⟨K.lt, by omega, fun i hi => (K.row i hi).c0⟩
theorem madeI_src (os : Sch) (x s : Int) : madeI (fun i => (cat os i).1) os.length x s = srcI (vsO os) x s := by
  unfold madeI srcI
  have e : (∃ i, i < os.length ∧ (cat os i).1 = x) ↔ hasC (vsO os) x = true := by
    unfold hasC vsO
    rw [List.any_map, List.any_eq_true]
    constructor
    · rintro ⟨i, hi, h⟩
      exact ⟨os[i], List.getElem_mem hi, by simpa [cat, List.getElem?_eq_getElem hi] using h⟩
    · rintro ⟨p, hp, h⟩
      obtain ⟨i, hi, rfl⟩ := List.getElem_of_mem hp
      exact ⟨i, hi, by simpa [cat, List.getElem?_eq_getElem hi] using h⟩
  simp only [e]
end Go.Proofs.YthckelcjncnalaaDoor
namespace Go.Proofs.YthckelcjncnalaaDoor
open Go.RowKit

/-- A field of an update is no more than may be. -/
def FO (f : GU) : Prop := 0 ≤ f.p ∧ f.p ≤ 1000 ∧ 0 ≤ f.sa ∧ f.sa ≤ 1004 ∧ f.su.size ≤ 400
theorem fieldU_ok (t : ByteArray) (p : Int) (hp : 0 ≤ p) (hp' : p ≤ 1000) (ht : t.size ≤ 400) (g : GU) (e : fieldU t p = some g) : FO g := by
  have h1 : (sumOf t).size ≤ 400 := by unfold sumOf; rw [ByteArray.size_extract]; omega
  have h2 : (cutOf t).size ≤ 400 := by unfold cutOf; rw [ByteArray.size_extract]; omega
  have h0 : (⟨#[]⟩ : ByteArray).size ≤ 400 := by decide
  unfold fieldU at e
  repeat' split at e
  all_goals first
    | (cases e; done)
    | (injection e with e; subst e; simp only [FO]; omega)
theorem ufLoop_ok (t : ByteArray) (p : Int) (hp : 0 ≤ p) (hp' : p ≤ 500) (ht : t.size ≤ 400) : ∀ n i fr l l', (l.length ≤ 6 ∧ ∀ f ∈ l, FO f) → fr ≤ i → i + n = t.size + 1 → ufLoop t p n i fr l = some l' → l'.length ≤ 6 ∧ ∀ f ∈ l', FO f := by
  intro n
  induction n with
  | zero => intro i fr l l' h _ _ e; simp [ufLoop] at e; subst e; exact h
  | succ n ih =>
    intro i fr l l' h hfr hin e
    rw [ufLoop] at e
    split at e
    · exact ih _ _ _ _ h (by omega) (by omega) e
    · split at e
      · cases e
      · rename_i g hg
        split at e
        · cases e
        · rename_i h6
          refine ih _ _ _ _ ⟨by have := h.1; simp; omega, fun f hf => ?_⟩ (by omega) (by omega) e
          rcases List.mem_append.1 hf with hf | hf
          · exact h.2 f hf
          · simp at hf; subst hf
            exact fieldU_ok _ _ (by omega) (by omega) (by rw [ByteArray.size_extract]; omega) _ hg
theorem ufFields_ok (t : ByteArray) (p : Int) (hp : 0 ≤ p) (hp' : p ≤ 500) (ht : t.size ≤ 400) (l : List GU) (e : ufFields t p = some l) : l.length ≤ 6 ∧ ∀ f ∈ l, FO f := by
  simp only [ufFields] at e
  split at e
  · simp at e; subst e; simp
  · exact ufLoop_ok t p hp hp' ht _ _ _ _ _ (by simp) (by omega) (by omega) e
def CO (c : HC) : Prop := (c.l.length ≤ 6 ∧ ∀ f ∈ c.l, FO f) ∧ c.p ≤ 400 ∧ 0 ≤ c.sa ∧ c.sa ≤ 500
theorem ugClass_ok (t : ByteArray) (p : Nat) (hp' : p ≤ 400) (ht : t.size ≤ 400) (r : UR) (e : ugClass t p = some r) : CO ⟨r.n, r.s, p, r.sa, r.l⟩ := by
  unfold ugClass at e
  have hs : ∀ k, (t.extract k t.size).size ≤ 400 := fun k => by rw [ByteArray.size_extract]; omega
  split at e
  · split at e
    · obtain ⟨l, hl, rfl⟩ := Option.map_eq_some_iff.1 e
      exact ⟨ufFields_ok _ _ (by omega) (by omega) (hs _) _ hl, hp', by simp, by simp⟩
    · split at e
      · obtain ⟨l, hl, rfl⟩ := Option.map_eq_some_iff.1 e
        exact ⟨ufFields_ok _ _ (by omega) (by omega) (hs _) _ hl, hp', by simp only []; omega, by simp only []; omega⟩
      · cases e
  · cases e
theorem haLoop_ok (s : ByteArray) (ht : s.size ≤ 400) : ∀ n i fr l r, (l.length ≤ 6 ∧ ∀ c ∈ l, CO c) → fr ≤ i → i + n = s.size → haLoop s n i fr l = some r → r.1.length ≤ 6 ∧ ∀ c ∈ r.1, CO c := by
  intro n
  induction n with
  | zero => intro i fr l r h _ _ e; simp [haLoop] at e; subst e; exact h
  | succ n ih =>
    intro i fr l r h hfr hin e
    rw [haLoop] at e
    split at e
    · split at e
      · cases e
      · rename_i r' hr'
        split at e
        · cases e
        · refine ih _ _ _ _ ⟨by have := h.1; simp; omega, fun c hc => ?_⟩ (by omega) (by omega) e
          rcases List.mem_append.1 hc with hc | hc
          · exact h.2 c hc
          · simp at hc; subst hc; exact ugClass_ok _ fr (by omega) (by rw [ByteArray.size_extract]; omega) _ hr'
    · exact ih _ _ _ _ h (by omega) (by omega) e
theorem haAll_ok (s : ByteArray) (ht : s.size ≤ 400) (cs : List HC) (e : haAll s = some cs) : (cs.length ≤ 6 ∧ ∀ c ∈ cs, CO c) ∧ cs ≠ [] := by
  cases h : haLoop s s.size 0 0 [] with
  | none => rw [haAll_none h] at e; cases e
  | some r =>
    rw [haAll_some (l := r.1) (fr := r.2) h] at e
    split at e
    · rename_i hc
      simp at e; subst e
      exact ⟨haLoop_ok s ht _ _ _ _ _ ⟨by simp, by simp⟩ (by omega) (by omega) h, fun e => by rw [e] at hc; simp at hc⟩
    · cases e
theorem UFine_of {cs : List HC} (h : cs.length ≤ 6 ∧ ∀ c ∈ cs, CO c) : UFine cs := ⟨h.1, fun c hc => ⟨(h.2 c hc).1.1, fun f hf => ((h.2 c hc).1.2 f hf).1⟩⟩
end Go.Proofs.YthckelcjncnalaaDoor
namespace Go.Proofs.YthckelcjncnalaaDoor
open Go.RowKit

def Nf (l : List GF) (j : Nat) : Int := (l[j]?.getD noGF).n
def Pf (l : List GF) (j : Nat) : Int := (l[j]?.getD noGF).p
def DF (l : List GF) (p : Int) : Prop := VXs (Nf l) (Pf l) l.length p
def Nc (cs : List GC) (j : Nat) : Int := (cs[j]?.getD noGC).n
def Pc (cs : List GC) (j : Nat) : Int := ((cs[j]?.getD noGC).p : Int)

theorem VX_congr {N P N' P' : Nat → Int} {i k : Nat} {p : Int} (h : N i = N' i ∧ P i = P' i) (h' : ∀ j, j < k → N j = N' j) : VX N P i k p ↔ VX N' P' i k p := by
  constructor
  · rintro ⟨j, h1, h2, h3⟩; exact ⟨j, h1, by rw [← h.1, ← h' j h1]; exact h2, by rw [← h.2]; exact h3⟩
  · rintro ⟨j, h1, h2, h3⟩; exact ⟨j, h1, by rw [h.1, h' j h1]; exact h2, by rw [h.2]; exact h3⟩
theorem VXs_congr {N P N' P' : Nat → Int} {n : Nat} {p : Int} (h : ∀ j, j < n → N j = N' j ∧ P j = P' j) : VXs N P n p ↔ VXs N' P' n p := by
  constructor
  · rintro ⟨j, h1, h2⟩; exact ⟨j, h1, (VX_congr (h j h1) (fun i hi => (h i (by omega)).1)).1 h2⟩
  · rintro ⟨j, h1, h2⟩; exact ⟨j, h1, (VX_congr (h j h1) (fun i hi => (h i (by omega)).1)).2 h2⟩

theorem get_snoc_lt {α : Type} (l : List α) (x d : α) (j : Nat) (h : j < l.length) : (l ++ [x])[j]?.getD d = l[j]?.getD d := by rw [List.getElem?_append_left h]
theorem get_snoc_len {α : Type} (l : List α) (x d : α) : (l ++ [x])[l.length]?.getD d = x := by simp

theorem DF_nil (p : Int) : ¬ DF [] p := fun ⟨_, h, _⟩ => by simp at h
theorem DF_snoc (l : List GF) (f : GF) (p : Int) : DF (l ++ [f]) p ↔ DF l p ∨ ((∃ g ∈ l, g.n = f.n) ∧ p = f.p) := by
  have e : (l ++ [f]).length = l.length + 1 := by simp
  have c : VXs (Nf (l ++ [f])) (Pf (l ++ [f])) l.length p ↔ DF l p := VXs_congr fun j hj => ⟨by simp only [Nf]; rw [get_snoc_lt _ _ _ _ hj], by simp only [Pf]; rw [get_snoc_lt _ _ _ _ hj]⟩
  unfold DF
  rw [e, VXs_succ, c]
  refine or_congr Iff.rfl ?_
  constructor
  · rintro ⟨k, hk, h1, h2⟩
    simp only [Nf, Pf] at h1 h2
    rw [get_snoc_len] at h1 h2
    rw [get_snoc_lt _ _ _ _ hk] at h1
    exact ⟨⟨l[k], List.getElem_mem hk, by rw [List.getElem?_eq_getElem hk] at h1; exact h1.symm⟩, h2⟩
  · rintro ⟨⟨g, hg, h1⟩, h2⟩
    obtain ⟨k, hk, rfl⟩ := List.getElem_of_mem hg
    refine ⟨k, hk, ?_, ?_⟩
    · simp only [Nf]; rw [get_snoc_len, get_snoc_lt _ _ _ _ hk, List.getElem?_eq_getElem hk]; exact h1.symm
    · simp only [Pf]; rw [get_snoc_len]; exact h2

theorem Rep_nil (p : Int) : ¬ Rep [] p := fun ⟨_, h, _⟩ => by simp at h
theorem Rep_snoc (cs : List GC) (c : GC) (p : Int) : Rep (cs ++ [c]) p ↔ (Rep cs p ∨ ((∃ g ∈ cs, g.n = c.n) ∧ p = c.p)) ∨ DF c.l p := by
  have e : (cs ++ [c]).length = cs.length + 1 := by simp
  unfold Rep
  rw [e, VCs_succ]
  refine or_congr (or_congr ?_ ?_) ?_
  · constructor
    · rintro ⟨i, hi, h⟩
      refine ⟨i, hi, ?_⟩
      rcases h with h | h
      · exact .inl ((VX_congr ⟨by rw [get_snoc_lt _ _ _ _ hi], by rw [get_snoc_lt _ _ _ _ hi]⟩ (fun j hj => by rw [get_snoc_lt _ _ _ _ (by omega)])).1 h)
      · right; simpa only [get_snoc_lt _ _ _ _ hi] using h
    · rintro ⟨i, hi, h⟩
      refine ⟨i, hi, ?_⟩
      rcases h with h | h
      · exact .inl ((VX_congr ⟨by rw [get_snoc_lt _ _ _ _ hi], by rw [get_snoc_lt _ _ _ _ hi]⟩ (fun j hj => by rw [get_snoc_lt _ _ _ _ (by omega)])).2 h)
      · right; simpa only [get_snoc_lt _ _ _ _ hi] using h
  · constructor
    · rintro ⟨k, hk, h1, h2⟩
      simp only [get_snoc_len] at h1 h2
      rw [get_snoc_lt _ _ _ _ hk, List.getElem?_eq_getElem hk] at h1
      exact ⟨⟨cs[k], List.getElem_mem hk, h1.symm⟩, h2⟩
    · rintro ⟨⟨g, hg, h1⟩, h2⟩
      obtain ⟨k, hk, rfl⟩ := List.getElem_of_mem hg
      refine ⟨k, hk, ?_, ?_⟩
      · simp only [get_snoc_len]; rw [get_snoc_lt _ _ _ _ hk, List.getElem?_eq_getElem hk]; exact h1.symm
      · simp only [get_snoc_len]; exact h2
  · simp only [get_snoc_len]; exact Iff.rfl

/-- A place behind all others is noted, or the note stays. -/
theorem Least.note {V : Int → Prop} {tw : Int} {k : Nat} (h : Least V tw) (hb : ∀ p, V p → p < k) : Least (fun p => V p ∨ p = k) (noteI tw k) := by
  simp only [noteI]
  rcases h with ⟨h1, h2⟩ | ⟨h1, h2, h3⟩
  · rw [if_pos h1]
    exact .inr ⟨by omega, .inr rfl, fun p hp => by rcases hp with hp | hp; exact absurd hp (h2 p); omega⟩
  · rw [if_neg (by omega)]
    exact .inr ⟨h1, .inl h2, fun p hp => by rcases hp with hp | hp; exact h3 p hp; have := hb tw h2; omega⟩
theorem Least.noteIf {V : Int → Prop} {tw : Int} {k : Nat} {c : Prop} [Decidable c] (h : Least V tw) (hb : ∀ p, V p → p < k) : Least (fun p => V p ∨ (c ∧ p = k)) (if c then noteI tw k else tw) := by
  by_cases hc : c
  · rw [if_pos hc]; exact (h.note hb).congr fun p => by simp [hc]
  · rw [if_neg hc]; exact h.congr fun p => by simp [hc]

theorem idxF_iff (fs : List (Int × Int)) (x : Int) : 0 ≤ idxF fs x ↔ ∃ f ∈ fs, f.1 = x := by
  simp only [idxF]
  cases h : fs.findIdx? (fun p => p.1 == x) with
  | none =>
    rw [List.findIdx?_eq_none_iff] at h
    constructor
    · intro h'; simp at h'
    · rintro ⟨f, hf, rfl⟩; have := h f hf; simp at this
  | some i =>
    rw [List.findIdx?_eq_some_iff_getElem] at h
    obtain ⟨hi, h1, _⟩ := h
    constructor
    · intro _; exact ⟨fs[i], List.getElem_mem hi, by simpa using h1⟩
    · intro _; simp

theorem gf_jump (t : ByteArray) (p : Int) (fr : Nat) (l : List GF) : ∀ d i, (∀ j, i ≤ j → j < i + d → j < t.size ∧ nextB t j ≠ 44) → gfLoop t p (t.size + 1 - i) i fr l = gfLoop t p (t.size + 1 - (i + d)) (i + d) fr l := by
  intro d
  induction d with
  | zero => intro i _; rfl
  | succ d ih =>
    intro i h
    have h0 := h i (Nat.le_refl _) (by omega)
    have e : t.size + 1 - i = (t.size + 1 - (i + 1)) + 1 := by omega
    rw [e, gfLoop, if_pos h0, ih (i + 1) (fun j h1 h2 => h j (by omega) (by omega))]
    congr 1 <;> omega
theorem gf_at (t : ByteArray) (p : Int) (fr c : Nat) (l : List GF) (hc : c ≤ t.size) (h : c < t.size → nextB t c = 44) :
    gfLoop t p (t.size + 1 - c) c fr l = if fieldB (t.extract fr c) = false ∨ l.length = 6 then none else gfLoop t p (t.size + 1 - (c + 1)) (c + 1) (c + 1) (l ++ [⟨nextB (t.extract fr c) 0, nextB (t.extract fr c) 2, p + fr⟩]) := by
  have e : t.size + 1 - c = (t.size + 1 - (c + 1)) + 1 := by omega
  rw [e, gfLoop, if_neg (fun h' => h'.2 (h h'.1))]
theorem next_comma (t : ByteArray) : ∀ n fr, fr + n = t.size → ∃ c, fr ≤ c ∧ c ≤ t.size ∧ (∀ j, fr ≤ j → j < c → nextB t j ≠ 44) ∧ (c < t.size → nextB t c = 44) := by
  intro n
  induction n with
  | zero => intro fr h; exact ⟨fr, Nat.le_refl _, by omega, fun j h1 h2 => by omega, fun h' => by omega⟩
  | succ n ih =>
    intro fr h
    by_cases h0 : nextB t fr = 44
    · exact ⟨fr, Nat.le_refl _, by omega, fun j h1 h2 => by omega, fun _ => h0⟩
    · obtain ⟨c, h1, h2, h3, h4⟩ := ih (fr + 1) (by omega)
      refine ⟨c, by omega, h2, fun j hj1 hj2 => ?_, h4⟩
      rcases Nat.eq_or_lt_of_le hj1 with rfl | h'
      · exact h0
      · exact h3 j h' hj2
theorem gf_from (t : ByteArray) (p : Int) (fr c : Nat) (l : List GF) (h1 : fr ≤ c) (h2 : c ≤ t.size) (h3 : ∀ j, fr ≤ j → j < c → nextB t j ≠ 44) (h4 : c < t.size → nextB t c = 44) :
    gfLoop t p (t.size + 1 - fr) fr fr l = if fieldB (t.extract fr c) = false ∨ l.length = 6 then none else gfLoop t p (t.size + 1 - (c + 1)) (c + 1) (c + 1) (l ++ [⟨nextB (t.extract fr c) 0, nextB (t.extract fr c) 2, p + fr⟩]) := by
  have := gf_jump t p fr l (c - fr) fr (fun j a b => ⟨by omega, h3 j a (by omega)⟩)
  rw [this, show fr + (c - fr) = c by omega]
  exact gf_at t p fr c l h2 h4

theorem fieldB_iff (t : ByteArray) (fr c : Nat) (hc : c ≤ t.size) : fieldB (t.extract fr c) = true ↔ c = fr + 3 ∧ 97 ≤ nextB t fr ∧ nextB t fr ≤ 122 ∧ nextB t (fr + 1) = 58 ∧ isKindB (nextB t (fr + 2)) = true := by
  have hsz : (t.extract fr c).size = min c t.size - fr := ByteArray.size_extract
  simp only [fieldB, Bool.and_eq_true, decide_eq_true_eq, nextB_extract t fr c _ hc]
  constructor
  · rintro ⟨⟨⟨⟨h1, h2⟩, h3⟩, h4⟩, h5⟩
    have e : c = fr + 3 := by omega
    rw [if_pos (by omega)] at h2 h3 h4 h5
    exact ⟨e, h2, h3, h4, h5⟩
  · rintro ⟨rfl, h2, h3, h4, h5⟩
    rw [if_pos (by omega), if_pos (by omega), if_pos (by omega)]
    exact ⟨⟨⟨⟨by omega, h2⟩, h3⟩, h4⟩, h5⟩

/-- A field's pair as the program has it. -/
def gk (f : GF) : Int × Int := (f.n, f.k)

/-- The two loops over the fields of one class: it closes at m. -/
theorem fields_meet (s t : ByteArray) (a m : Nat) (hm : m < s.size) (hm125 : nextB s m = 125) (hno : ∀ j, a ≤ j → j < m → nextB s j ≠ 125) (ham : a ≤ m) (hts : t.size = m - a) (htn : ∀ j, j < t.size → nextB t j = nextB s (a + j)) (A : Int → Prop) :
    ∀ n fr l tw, l.length + n = 6 → 0 < n → fr ≤ t.size → Least (fun p => A p ∨ DF l p) tw → (∀ p, A p ∨ DF l p → p < (a + fr : Nat)) →
      ((rdLoop s n (l.map gk) (a + fr) tw).ok = false ∧ gfLoop t a (t.size + 1 - fr) fr fr l = none) ∨
      (∃ l', (rdLoop s n (l.map gk) (a + fr) tw).ok = true ∧ gfLoop t a (t.size + 1 - fr) fr fr l = some l' ∧ (rdLoop s n (l.map gk) (a + fr) tw).at_ = m + 1 ∧ (rdLoop s n (l.map gk) (a + fr) tw).fs = l'.map gk ∧
        Least (fun p => A p ∨ DF l' p) (rdLoop s n (l.map gk) (a + fr) tw).tw ∧ (∀ p, A p ∨ DF l' p → p < (m : Nat))) := by
  intro n
  induction n with
  | zero => intro fr l tw _ h; omega
  | succ n ih =>
    intro fr l tw hl _ hfr hL hB
    obtain ⟨c, c1, c2, c3, c4⟩ := next_comma t (t.size - fr) fr (by omega)
    have G := gf_from t a fr c l c1 c2 c3 c4
    have FB := fieldB_iff t fr c c2
    rw [rdLoop]
    by_cases h0 : (rdField s (l.map gk) (a + fr) tw).ok = false
    · rw [if_pos h0]
      refine .inl ⟨rfl, ?_⟩
      suffices hfalse : fieldB (t.extract fr c) = false by rw [G, if_pos (.inl hfalse)]
      cases hf : fieldB (t.extract fr c) with
      | false => rfl
      | true =>
        obtain ⟨rfl, f1, f2, f3, f4⟩ := FB.1 hf
        rw [htn fr (by omega)] at f1 f2
        rw [htn (fr + 1) (by omega)] at f3
        rw [htn (fr + 2) (by omega)] at f4
        rw [field_is s (l.map gk) (a + fr) tw f1 f2 (by rw [← f3]; congr 1) (by rw [← f4]; congr 2)] at h0
        cases h0
    rw [if_neg h0]
    obtain ⟨f1, f2, f3, f4, fe⟩ := field_at s (l.map gk) (a + fr) tw (by simpa using h0)
    rw [fe]
    simp only []
    have k1 : isKindB (nextB s (a + fr + 2)) = true := f4
    have kd := isKindB_pos f4
    have kne : nextB s (a + fr + 2) ≠ 125 ∧ nextB s (a + fr + 2) ≠ 44 := by
      constructor <;> (intro h; rw [h] at k1; simp [isKindB] at k1)
    have hq : a + fr + 3 ≤ m := by
      rcases Nat.lt_or_ge m (a + fr + 3) with h | h
      · have hm' : a + fr ≤ m := by omega
        have : m = a + fr ∨ m = a + fr + 1 ∨ m = a + fr + 2 := by omega
        rcases this with rfl | rfl | rfl
        · omega
        · omega
        · exact absurd hm125 kne.1
      · exact h
    have t0 : nextB t fr = nextB s (a + fr) := htn fr (by omega)
    have t1 : nextB t (fr + 1) = nextB s (a + fr + 1) := htn (fr + 1) (by omega)
    have t2 : nextB t (fr + 2) = nextB s (a + fr + 2) := htn (fr + 2) (by omega)
    have hc3 : fr + 3 ≤ c := by
      rcases Nat.lt_or_ge c (fr + 3) with h | h
      · have hct : c < t.size := by omega
        have := c4 hct
        have h' : c = fr ∨ c = fr + 1 ∨ c = fr + 2 := by omega
        rcases h' with rfl | rfl | rfl
        · omega
        · omega
        · rw [t2] at this; exact absurd this kne.2
      · exact h
    have hstep : Least (fun p => A p ∨ DF (l ++ [⟨nextB s (a + fr), nextB s (a + fr + 2), ((a + fr : Nat) : Int)⟩]) p) (if 0 ≤ idxF (l.map gk) (nextB s (a + fr)) then noteI tw (a + fr) else tw) := by
      refine (hL.noteIf (c := 0 ≤ idxF (l.map gk) (nextB s (a + fr))) hB).congr fun p => ?_
      rw [DF_snoc, idxF_iff]
      simp only [List.mem_map, gk]
      constructor
      · rintro ((h | h) | ⟨⟨_, ⟨g, hg, rfl⟩, h1⟩, h2⟩)
        · exact .inl h
        · exact .inr (.inl h)
        · exact .inr (.inr ⟨⟨g, hg, h1⟩, h2⟩)
      · rintro (h | h | ⟨⟨g, hg, h1⟩, h2⟩)
        · exact .inl (.inl h)
        · exact .inl (.inr h)
        · exact .inr ⟨⟨_, ⟨g, hg, rfl⟩, h1⟩, h2⟩
    have hB' : ∀ p, A p ∨ DF (l ++ [⟨nextB s (a + fr), nextB s (a + fr + 2), ((a + fr : Nat) : Int)⟩]) p → p < (a + fr + 1 : Nat) := by
      intro p hp
      rw [DF_snoc] at hp
      rcases hp with h | h | ⟨_, h⟩
      · have := hB p (.inl h); omega
      · have := hB p (.inr h); omega
      · simp only at h; omega
    have hl6 : ¬ l.length = 6 := by omega
    by_cases h125 : nextB s (a + fr + 3) = 125
    · have hme : a + fr + 3 = m := by
        rcases Nat.lt_or_ge (a + fr + 3) m with h | h
        · exact absurd h125 (hno _ (by omega) h)
        · omega
      have hce : c = fr + 3 := by omega
      subst hce
      have hfb : fieldB (t.extract fr (fr + 3)) = true := FB.2 ⟨rfl, by rw [t0]; exact f1, by rw [t0]; exact f2, by rw [t1]; exact f3, by rw [t2]; exact f4⟩
      rw [if_pos h125]
      refine .inr ⟨l ++ [⟨nextB s (a + fr), nextB s (a + fr + 2), ((a + fr : Nat) : Int)⟩], rfl, ?_, by simp only []; omega, by simp [gk], hstep, fun p hp => by have := hB' p hp; omega⟩
      rw [G, if_neg (by rw [hfb]; simp [hl6])]
      have : t.size + 1 - (fr + 3 + 1) = 0 := by omega
      rw [this, gfLoop, nextB_extract t fr (fr + 3) 0 c2, nextB_extract t fr (fr + 3) 2 c2, if_pos (by omega), if_pos (by omega)]
      simp only [Nat.add_zero, t0, t2]
      simp
    rw [if_neg h125]
    have hmlt : a + fr + 3 < m := by
      rcases Nat.lt_or_ge (a + fr + 3) m with h | h
      · exact h
      · have : a + fr + 3 = m := by omega
        rw [this] at h125; exact absurd hm125 h125
    have t3 : nextB t (fr + 3) = nextB s (a + fr + 3) := htn (fr + 3) (by omega)
    by_cases h44 : nextB s (a + fr + 3) = 44
    · have hce : c = fr + 3 := by
        rcases Nat.lt_or_ge (fr + 3) c with h | h
        · exact absurd (by rw [t3]; exact h44) (c3 (fr + 3) (by omega) h)
        · omega
      subst hce
      have hfb : fieldB (t.extract fr (fr + 3)) = true := FB.2 ⟨rfl, by rw [t0]; exact f1, by rw [t0]; exact f2, by rw [t1]; exact f3, by rw [t2]; exact f4⟩
      rw [if_neg (show ¬ (fieldB (t.extract fr (fr + 3)) = false ∨ l.length = 6) by rw [hfb]; simp [hl6]), nextB_extract t fr (fr + 3) 0 c2, nextB_extract t fr (fr + 3) 2 c2, if_pos (by omega), if_pos (by omega)] at G
      simp only [Nat.add_zero, t0, t2] at G
      rw [G]
      have hcast : (a : Int) + (fr : Int) = ((a + fr : Nat) : Int) := by omega
      rw [hcast]
      by_cases h5 : l.length = 5
      · simp only [List.length_map]
        rw [if_pos (.inl h5)]
        refine .inl ⟨rfl, ?_⟩
        obtain ⟨d, d1, d2, d3, d4⟩ := next_comma t (t.size - (fr + 3 + 1)) (fr + 3 + 1) (by omega)
        rw [gf_from t a (fr + 3 + 1) d _ d1 d2 d3 d4, if_pos (.inr (by simp; omega))]
      · simp only [List.length_map]
        rw [if_neg (by simp [h5, h44])]
        have := ih (fr + 3 + 1) (l ++ [⟨nextB s (a + fr), nextB s (a + fr + 2), ((a + fr : Nat) : Int)⟩]) _ (by simp; omega) (by omega) (by omega) hstep (fun p hp => by have := hB' p hp; omega)
        rw [show a + (fr + 3 + 1) = a + fr + 3 + 1 by omega] at this
        simpa [gk] using this
    · simp only [List.length_map]
      rw [if_pos (.inr h44)]
      refine .inl ⟨rfl, ?_⟩
      suffices hfalse : fieldB (t.extract fr c) = false by rw [G, if_pos (.inl hfalse)]
      cases hf : fieldB (t.extract fr c) with
      | false => rfl
      | true =>
        obtain ⟨hce, _⟩ := FB.1 hf
        subst hce
        have := c4 (by omega)
        rw [t3] at this
        exact absurd this h44
end Go.Proofs.YthckelcjncnalaaDoor
