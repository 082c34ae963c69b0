import Derived.Test.YtbgilndohccicabMz01
namespace Go.Proofs.Ytbgilndohccicab
open Go.RowKit

set_option maxHeartbeats 400000 in
theorem index_nil (L x : Int) (w : World) :
    Calls Try.prog 71 #[.agg #[.int .u8 L, .slice none 0 0], .int .u8 x] w fun e w' => e = .returned (.int .i64 (-1)) ∧ Below w.heap.size w w' := by
  go_enter Try.func71, Try.ntmps71
  go_wp2
  refine wp_loop_rounds 1 ?_; rw [rounds_succ]
  go_wp2
  go_ret
  exact ⟨rfl, (Below.refl _ _).alloc (Nat.le_refl _) _⟩
set_option maxHeartbeats 400000 in
theorem index_row (L x : Int) (g cap : Nat) (fs : List (Int × Int)) (w : World) (hg : g < w.heap.size) (hm : fs.length ≤ 9223372036854775807)
    (hc : ∀ i, i < fs.length → w.cell? ⟨g, i * 2, none⟩ = some (.int .u8 (fs[i]?.getD (0, 0)).1) ∧ w.cell? ⟨g, i * 2 + 1, none⟩ = some (.int .u8 (fs[i]?.getD (0, 0)).2)) :
    Calls Try.prog 71 #[.agg #[.int .u8 L, .slice (some ⟨g, 0, none⟩) fs.length cap], .int .u8 x] w fun e w' => e = .returned (.int .i64 (idxF fs x)) ∧ Below w.heap.size w w' := by
  obtain ⟨n, hn⟩ : ∃ n, n = fs.length := ⟨_, rfl⟩
  rw [← hn] at hm hc ⊢
  have HN : Hid (n = fs.length) := hn
  clear hn
  go_enter Try.func71, Try.ntmps71
  go_wp2
  go_loopw [10] (fun i wr => ∃ k : Nat, k ≤ n ∧ i = .int .i64 k ∧ Hid (∀ j, j < k → ¬ (fs[j]?.getD (0, 0)).1 = x) ∧ Below w.heap.size w wr) (fun i _ => n - (intOf i).toNat)
  case atStart => exact ⟨0, Nat.zero_le _, rfl, fun j hj => by omega, (Below.refl _ _).alloc (Nat.le_refl _) _⟩
  case round =>
    obtain ⟨k, hk, rfl, hno, hb⟩ := hrel
    by_cases hlt : k < n
    · have c0 : wr.cell? ⟨g, k * 2, none⟩ = some (.int .u8 (fs[k]?.getD (0, 0)).1) := (hb.cell (by exact hg)).trans (hc k hlt).1
      have c1 : wr.cell? ⟨g, k * 2 + 1, none⟩ = some (.int .u8 (fs[k]?.getD (0, 0)).2) := (hb.cell (by exact hg)).trans (hc k hlt).2
      go_wp2
      · have h1 : ((fs[k]?.getD (0, 0)).1 == x) = true := by assumption
        go_ret
        exact ⟨ret_int (idxF_hit fs x k (by rw [← HN.out]; exact hlt) hno h1).symm, hb.alloc (Nat.le_trans (Nat.le_refl _) hb.size) _⟩
      · have h1 : ((fs[k]?.getD (0, 0)).1 == x) = false := by assumption
        go_roundw
        case rel => exact ⟨k + 1, by omega, by go_num, no_step hno h1, hb.alloc hb.size _⟩
        case measure => simp [intOf]; omega
    · go_wp2
      go_ret
      exact ⟨ret_int (idxF_none fs x (fun j hj => hno j (by rw [← HN.out] at hj; omega))).symm, hb⟩
theorem index_any (L x : Int) (v : Value) (fs : List (Int × Int)) (w : World) (h : FV w v fs) :
    Calls Try.prog 71 #[.agg #[.int .u8 L, v], .int .u8 x] w fun e w' => e = .returned (.int .i64 (idxF fs x)) ∧ Below w.heap.size w w' := by
  rcases h.shape with ⟨rfl, rfl⟩ | ⟨g, cap, rfl, hg, hm, hc⟩
  · exact index_nil L x w
  · exact index_row L x g cap fs w hg hm hc
set_option maxHeartbeats 400000 in
theorem find_nil (x : Int) (w : World) :
    Calls Try.prog 34 #[.agg #[.slice none 0 0], .int .u8 x] w fun e w' => e = .returned (.tuple #[.agg #[.int .u8 0, .slice none 0 0], .bool false]) ∧ Below w.heap.size w w' := by
  go_enter Try.func34, Try.ntmps34
  go_wp2
  refine wp_loop_rounds 1 ?_; rw [rounds_succ]
  go_wp2
  exact bodyPost_ret (v := .tuple #[.agg #[.int .u8 0, .slice none 0 0], .bool false]) (by simp [results, Try.results34, go_sem]) rfl ⟨rfl, ((Below.refl _ _).alloc (Nat.le_refl _) _).alloc (by simp) _⟩
set_option maxHeartbeats 400000 in
theorem find_row (x : Int) (g cap : Nat) (fs : List (Int × SV)) (w : World) (hg : g < w.heap.size) (hm : fs.length ≤ 9223372036854775807)
    (hc : ∀ i, i < fs.length → w.cell? ⟨g, i * 2, none⟩ = some (.int .u8 (fs[i]?.getD noC).1) ∧ w.cell? ⟨g, i * 2 + 1, none⟩ = some (.slice (fs[i]?.getD noC).2.a (fs[i]?.getD noC).2.n (fs[i]?.getD noC).2.c)) :
    Calls Try.prog 34 #[.agg #[.slice (some ⟨g, 0, none⟩) fs.length cap], .int .u8 x] w fun e w' => e = .returned (.tuple #[clsV (findC fs x), .bool (hasC fs x)]) ∧ Below w.heap.size w w' := by
  obtain ⟨n, hn⟩ : ∃ n, n = fs.length := ⟨_, rfl⟩
  rw [← hn] at hm hc ⊢
  have HN : Hid (n = fs.length) := hn
  clear hn
  go_enter Try.func34, Try.ntmps34
  go_wp2
  go_loopw [11] (fun i wr => ∃ k : Nat, k ≤ n ∧ i = .int .i64 k ∧ Hid (∀ j, j < k → ¬ (fs[j]?.getD noC).1 = x) ∧ Below (w.heap.size + 2) ((w.alloc (.cells #[.slice (some ⟨g, 0, none⟩) n cap] 72)).alloc (.cells #[.int .u8 0, .slice none 0 0] 88)) wr) (fun i _ => n - (intOf i).toNat)
  case atStart => exact ⟨0, Nat.zero_le _, rfl, fun j hj => by omega, Below.refl _ _⟩
  case round =>
    obtain ⟨k, hk, rfl, hno, hb⟩ := hrel
    have r0 : wr.cell? ⟨w.heap.size + 1, 0, none⟩ = some (.int .u8 0) := (hb.cell (by show w.heap.size + 1 < _; omega)).trans (by go_simp)
    have r1 : wr.cell? ⟨w.heap.size + 1, 1, none⟩ = some (.slice none 0 0) := (hb.cell (by show w.heap.size + 1 < _; omega)).trans (by go_simp)
    have rf0 : wr.frozen? ⟨w.heap.size + 1, 0, none⟩ = false := (hb.frozen (by show w.heap.size + 1 < _; omega)).trans (by go_simp)
    have rf1 : wr.frozen? ⟨w.heap.size + 1, 1, none⟩ = false := (hb.frozen (by show w.heap.size + 1 < _; omega)).trans (by go_simp)
    have hsz : w.heap.size + 2 ≤ wr.heap.size := by have := hb.size; simpa using this
    have hsz1 : w.heap.size + 1 < wr.heap.size := by omega
    have hB : Below w.heap.size w wr := (((Below.refl _ _).alloc (Nat.le_refl _) _).alloc (by simp) _).trans (hb.mono (by omega))
    by_cases hlt : k < n
    · have c0 : wr.cell? ⟨g, k * 2, none⟩ = some (.int .u8 (fs[k]?.getD noC).1) := (hb.cell (by show g < _; omega)).trans ((by go_simp : _ = w.cell? ⟨g, k * 2, none⟩).trans (hc k hlt).1)
      have c1 : wr.cell? ⟨g, k * 2 + 1, none⟩ = some (.slice (fs[k]?.getD noC).2.a (fs[k]?.getD noC).2.n (fs[k]?.getD noC).2.c) := (hb.cell (by show g < _; omega)).trans ((by go_simp : _ = w.cell? ⟨g, k * 2 + 1, none⟩).trans (hc k hlt).2)
      go_wp2
      · have h1 : ((fs[k]?.getD noC).1 == x) = true := by assumption
        have hf := findC_hit fs x k (by rw [← HN.out]; exact hlt) hno h1
        refine bodyPost_ret (v := .tuple #[clsV (fs[k]?.getD noC), .bool true]) (by simp [results, Try.results34, go_sem, r0, r1, hsz1, clsV]) rfl ⟨by rw [hf.1, hf.2], ?_⟩
        exact ((hB.setCell (by show _ ≤ w.heap.size + 1; omega) _).setCell (by show _ ≤ w.heap.size + 1; omega) _).alloc (by have := hB.size; simpa using this) _
      · have h1 : ((fs[k]?.getD noC).1 == x) = false := by assumption
        go_roundw
        case rel => exact ⟨k + 1, by omega, by go_num, noC_step hno h1, hb.alloc hsz _⟩
        case measure => simp [intOf]; omega
    · have hf := findC_none fs x (fun j hj => hno j (by rw [← HN.out] at hj; omega))
      go_wp2
      refine bodyPost_ret (v := .tuple #[clsV noC, .bool false]) (by simp [results, Try.results34, go_sem, r0, r1, clsV, noC]) rfl ⟨by rw [hf.1, hf.2], ?_⟩
      exact (hB.setCell (by show _ ≤ w.heap.size + 1; omega) _).setCell (by show _ ≤ w.heap.size + 1; omega) _
theorem find_any (x : Int) (v : Value) (vs : List (Int × SV)) (w : World) (h : CV w v vs) :
    Calls Try.prog 34 #[.agg #[v], .int .u8 x] w fun e w' => e = .returned (.tuple #[clsV (findC vs x), .bool (hasC vs x)]) ∧ Below w.heap.size w w' := by
  rcases h.shape with ⟨rfl, rfl⟩ | ⟨g, cap, rfl, hg, hm, hc⟩
  · exact find_nil x w
  · exact find_row x g cap vs w hg hm hc
theorem find_rs {x : Int} {v : Value} {vs : List (Int × SV)} {w : World} (h : CV w v vs) (y : Bool) (hy : hasC vs x = y) :
    Calls Try.prog 34 #[.agg #[v], .int .u8 x] w fun e w' => e = .returned (.tuple #[.agg #[.int .u8 (findC vs x).1, .slice (findC vs x).2.a (findC vs x).2.n (findC vs x).2.c], .bool y]) ∧ Below w.heap.size w w' := by
  subst hy; exact find_any x v vs w h
end Go.Proofs.Ytbgilndohccicab
namespace Go.Proofs.Ytbgilndohccicab

/-- What can be reached from the roots, along the edges. -/
inductive Rch (rt : Nat → Prop) (ed : Nat → Nat → Prop) : Nat → Prop where
  | root {x : Nat} (h : rt x) : Rch rt ed x
  | step {x y : Nat} (h : Rch rt ed x) (e : ed x y) : Rch rt ed y
theorem Rch.least {rt : Nat → Prop} {ed : Nat → Nat → Prop} {P : Nat → Prop} (h1 : ∀ x, rt x → P x) (h2 : ∀ x y, P x → ed x y → P y) {x : Nat} (h : Rch rt ed x) : P x := by
  induction h with
  | root h => exact h1 _ h
  | step _ e ih => exact h2 _ _ ih e
theorem nodup_le : ∀ (n : Nat) (L : List Nat), L.Nodup → (∀ x ∈ L, x < n) → L.length ≤ n := by
  intro n
  induction n with
  | zero => intro L _ h; cases L with
    | nil => simp
    | cons x L => have := h x (by simp); omega
  | succ n ih =>
    intro L hd h
    by_cases hn : n ∈ L
    · have hd' : (L.erase n).Nodup := hd.erase n
      have := ih (L.erase n) hd' (fun x hx => by
        have h1 := h x (List.mem_of_mem_erase hx)
        have h2 : x ≠ n := fun e => by subst e; exact (List.Nodup.not_mem_erase hd) hx
        omega)
      rw [List.length_erase_of_mem hn] at this
      have : 0 < L.length := List.length_pos_of_mem hn
      omega
    · have := ih L hd (fun x hx => by
        have h1 := h x hx
        have h2 : x ≠ n := fun e => by subst e; exact hn hx
        omega)
      omega
theorem nodup_snoc {L : List Nat} {x : Nat} (h : L.Nodup) (hx : x ∉ L) : (L ++ [x]).Nodup := by
  rw [List.nodup_append]
  refine ⟨h, by simp, fun a ha b hb => ?_⟩
  simp at hb; subst hb
  exact fun e => hx (e ▸ ha)
/-- Two lists of what can be reached, on either side, over a relation that is one to one: the same in sum. -/
theorem sum_meet {M : Nat → Nat → Prop} (fn : ∀ a b b', M a b → M a b' → b = b') (inj : ∀ a a' b, M a b → M a' b → a = a') (f g : Nat → Nat) (hfg : ∀ a b, M a b → f a = g b) :
    ∀ (L1 L2 : List Nat), L1.Nodup → L2.Nodup → (∀ a, a ∈ L1 → ∃ b, b ∈ L2 ∧ M a b) → (∀ b, b ∈ L2 → ∃ a, a ∈ L1 ∧ M a b) → (L1.map f).sum = (L2.map g).sum := by
  intro L1
  induction L1 with
  | nil => intro L2 _ _ _ h; cases L2 with
    | nil => rfl
    | cons b L2 => obtain ⟨a, ha, _⟩ := h b (by simp); simp at ha
  | cons a L1 ih =>
    intro L2 h1 h2 h3 h4
    obtain ⟨b, hb, hab⟩ := h3 a (by simp)
    have hp : L2.Perm (b :: L2.erase b) := List.perm_cons_erase hb
    have hs : (L2.map g).sum = g b + ((L2.erase b).map g).sum := by
      rw [(hp.map g).sum_nat]; simp
    have := ih (L2.erase b) (List.nodup_cons.1 h1).2 (h2.erase b) (fun a' ha' => ?_) (fun b' hb' => ?_)
    · rw [hs, ← this, ← hfg a b hab]; simp
    · obtain ⟨b', hb', hab'⟩ := h3 a' (by simp [ha'])
      refine ⟨b', ?_, hab'⟩
      have hne : b' ≠ b := fun e => by
        subst e
        have := inj _ _ _ hab hab'
        subst this
        exact (List.nodup_cons.1 h1).1 ha'
      exact (List.mem_erase_of_ne hne).2 hb'
    · obtain ⟨a', ha', hab'⟩ := h4 b' (List.mem_of_mem_erase hb')
      have hne : b' ≠ b := fun e => by subst e; exact (List.Nodup.not_mem_erase h2) hb'
      rcases List.mem_cons.1 ha' with rfl | ha'
      · exact absurd (fn _ _ _ hab' hab) hne
      · exact ⟨a', ha', hab'⟩
/-- How many of the first n are marked. -/
def cnt (f : Nat → Bool) (n : Nat) : Nat := ((List.range n).filter f).length
theorem cnt_succ (f : Nat → Bool) (n : Nat) : cnt f (n + 1) = cnt f n + (if f n = true then 1 else 0) := by
  unfold cnt; rw [List.range_succ, List.filter_append, List.length_append]
  cases h : f n <;> simp [h]
theorem cnt_le (f : Nat → Bool) (n : Nat) : cnt f n ≤ n := by
  induction n with
  | zero => simp [cnt]
  | succ n ih => rw [cnt_succ]; split <;> omega
theorem cnt_full (f : Nat → Bool) (n : Nat) (h : n ≤ cnt f n) : ∀ i, i < n → f i = true := by
  induction n with
  | zero => intro i hi; omega
  | succ n ih =>
    rw [cnt_succ] at h
    have := cnt_le f n
    intro i hi
    split at h
    · rename_i hn
      rcases Nat.lt_succ_iff_lt_or_eq.1 hi with hi | rfl
      · exact ih (by omega) i hi
      · exact hn
    · omega
theorem cnt_mono (f g : Nat → Bool) (n : Nat) (h : ∀ i, i < n → f i = true → g i = true) : cnt f n ≤ cnt g n := by
  induction n with
  | zero => simp [cnt]
  | succ n ih =>
    rw [cnt_succ, cnt_succ]
    have := ih (fun i hi => h i (by omega))
    have h2 := h n (by omega)
    split
    · rename_i hf; rw [if_pos (h2 hf)]; omega
    · split <;> omega
theorem cnt_more (f g : Nat → Bool) (n k : Nat) (h : ∀ i, i < n → f i = true → g i = true) (hk : k < n) (h1 : f k = false) (h2 : g k = true) : cnt f n < cnt g n := by
  induction n with
  | zero => omega
  | succ n ih =>
    rw [cnt_succ, cnt_succ]
    rcases Nat.lt_succ_iff_lt_or_eq.1 hk with hk | rfl
    · have := ih (fun i hi => h i (by omega)) hk
      have h3 := h n (by omega)
      split
      · rename_i hf; rw [if_pos (h3 hf)]; omega
      · split <;> omega
    · rw [h1, h2]
      have := cnt_mono f g k (fun i hi => h i (by omega))
      simp; omega
end Go.Proofs.Ytbgilndohccicab
namespace Go.Proofs.Ytbgilndohccicab

abbrev Sch := List (Int × List (Int × Int))
/-- The fields of the class of that Letter. -/
def fof (cs : Sch) (x : Int) : List (Int × Int) := ((cs.find? (fun c => c.1 == x)).getD (0, [])).2
theorem fof_le {cs : Sch} (h6 : ∀ c ∈ cs, c.2.length ≤ 6) (x : Int) : (fof cs x).length ≤ 6 := by
  unfold fof
  cases hf : cs.find? (fun c => c.1 == x) with
  | none => simp
  | some c => exact h6 c (List.mem_of_find?_eq_some hf)
/-- What the program's heap holds, and what the document's does. -/
structure PH where
  R : Nat → Nat
  K : Nat → Int
  N : Nat → Nat → Int
  F : Nat → Nat → Nat
structure DH where
  R : Nat → Nat
  K : Nat → Int
  C : Nat → Nat → Int
  n : Nat
def PH.rt (p : PH) (x : Nat) : Prop := ∃ i, i < 8 ∧ p.R i = x ∧ x ≠ 0
def PH.ed (p : PH) (x y : Nat) : Prop := ∃ j, j < 6 ∧ p.F x j = y ∧ y ≠ 0
def PH.in (p : PH) : Nat → Prop := Rch p.rt p.ed
def DH.rt (r : DH) (x : Nat) : Prop := ∃ i, i < 8 ∧ r.R i = x ∧ x ≠ 0
def DH.ed (r : DH) (cs : Sch) (x y : Nat) : Prop := ∃ j f, (fof cs (r.K x))[j]? = some f ∧ f.2 = 114 ∧ r.C x j = y ∧ y ≠ 0
def DH.in (r : DH) (cs : Sch) : Nat → Prop := Rch r.rt (r.ed cs)
/-- M takes each object of the program's to the document's. -/
structure Bis (cs : Sch) (p : PH) (r : DH) (M : Nat → Nat → Prop) : Prop where
  fn : ∀ a b b', M a b → M a b' → b = b'
  inj : ∀ a a' b, M a b → M a' b → a = a'
  pos : ∀ a b, M a b → 0 < a ∧ a < 201 ∧ 0 < b ∧ b ≤ r.n
  root : ∀ i, i < 8 → (p.R i = 0 ∧ r.R i = 0) ∨ M (p.R i) (r.R i)
  cls : ∀ a b, M a b → p.K a = r.K b
  has : ∀ a b, M a b → (cs.any fun c => c.1 == p.K a) = true
  num : ∀ a b, M a b → ∀ j f, (fof cs (p.K a))[j]? = some f → f.2 ≠ 114 → p.N a j = r.C b j
  ref : ∀ a b, M a b → ∀ j f, (fof cs (p.K a))[j]? = some f → f.2 = 114 → (p.F a j = 0 ∧ r.C b j = 0) ∨ ∃ c : Nat, r.C b j = c ∧ M (p.F a j) c
  nor : ∀ a b, M a b → ∀ j, j < 6 → (∀ f, (fof cs (p.K a))[j]? = some f → f.2 ≠ 114) → p.F a j = 0
def Sim (cs : Sch) (p : PH) (r : DH) : Prop := ∃ M, Bis cs p r M

theorem Bis.to {cs : Sch} {p : PH} {r : DH} {M : Nat → Nat → Prop} (h : Bis cs p r M) {a : Nat} (ha : p.in a) : ∃ b, M a b ∧ r.in cs b := by
  refine Rch.least (P := fun a => ∃ b, M a b ∧ r.in cs b) ?_ ?_ ha
  · rintro x ⟨i, hi, rfl, hx⟩
    rcases h.root i hi with ⟨h1, _⟩ | h1
    · exact absurd h1 hx
    · exact ⟨_, h1, .root ⟨i, hi, rfl, by have := (h.pos _ _ h1).2.2.1; omega⟩⟩
  · rintro x y ⟨b, hb, hr⟩ ⟨j, hj, rfl, hy⟩
    by_cases hf : ∃ f, (fof cs (p.K x))[j]? = some f ∧ f.2 = 114
    · obtain ⟨f, hf, hk⟩ := hf
      rcases h.ref x b hb j f hf hk with ⟨h1, _⟩ | ⟨c, hc, hm⟩
      · exact absurd h1 hy
      · exact ⟨c, hm, .step hr ⟨j, f, by rw [← h.cls _ _ hb]; exact hf, hk, hc, by have := (h.pos _ _ hm).2.2.1; omega⟩⟩
    · exact absurd (h.nor x b hb j hj (fun f hf' hk => hf ⟨f, hf', hk⟩)) hy
theorem Bis.from {cs : Sch} {p : PH} {r : DH} {M : Nat → Nat → Prop} (h : Bis cs p r M) (h6 : ∀ c ∈ cs, c.2.length ≤ 6) {b : Nat} (hb : r.in cs b) : ∃ a, M a b ∧ p.in a := by
  refine Rch.least (P := fun b => ∃ a, M a b ∧ p.in a) ?_ ?_ hb
  · rintro x ⟨i, hi, rfl, hx⟩
    rcases h.root i hi with ⟨_, h1⟩ | h1
    · exact absurd h1 hx
    · exact ⟨_, h1, .root ⟨i, hi, rfl, by have := (h.pos _ _ h1).1; omega⟩⟩
  · rintro x y ⟨a, ha, hr⟩ ⟨j, f, hf, hk, hc, hy⟩
    rw [← h.cls _ _ ha] at hf
    rcases h.ref a x ha j f hf hk with ⟨_, h1⟩ | ⟨c, hc', hm⟩
    · rw [h1] at hc; omega
    · have : c = y := by omega
      subst this
      have hj : j < 6 := by
        have := fof_le h6 (p.K a)
        obtain ⟨h', _⟩ := List.getElem?_eq_some_iff.1 hf
        omega
      exact ⟨_, hm, .step hr ⟨j, hj, rfl, by have := (h.pos _ _ hm).1; omega⟩⟩
/-- An object's words. -/
def wof (cs : Sch) (x : Int) : Nat := (fof cs x).length + 1
theorem Bis.words {cs : Sch} {p : PH} {r : DH} {M : Nat → Nat → Prop} (h : Bis cs p r M) (h6 : ∀ c ∈ cs, c.2.length ≤ 6) (L1 L2 : List Nat) (n1 : L1.Nodup) (n2 : L2.Nodup) (m1 : ∀ a, a ∈ L1 ↔ p.in a) (m2 : ∀ b, b ∈ L2 ↔ r.in cs b) :
    (L1.map (fun a => wof cs (p.K a))).sum = (L2.map (fun b => wof cs (r.K b))).sum := by
  refine sum_meet h.fn h.inj _ _ (fun a b hab => by rw [h.cls _ _ hab]) L1 L2 n1 n2 (fun a ha => ?_) (fun b hb => ?_)
  · obtain ⟨b, hb, hr⟩ := h.to ((m1 a).1 ha); exact ⟨b, (m2 b).2 hr, hb⟩
  · obtain ⟨a, ha, hr⟩ := h.from h6 ((m2 b).1 hb); exact ⟨a, (m1 a).2 hr, ha⟩

def set1 {α : Type} (f : Nat → α) (i : Nat) (v : α) : Nat → α := fun j => if j = i then v else f j
def set2 {α : Type} (f : Nat → Nat → α) (i k : Nat) (v : α) : Nat → Nat → α := fun a b => if a = i ∧ b = k then v else f a b
theorem set1_self {α : Type} (f : Nat → α) (i : Nat) (v : α) : set1 f i v i = v := by simp [set1]
theorem set1_ne {α : Type} (f : Nat → α) {i j : Nat} (v : α) (h : j ≠ i) : set1 f i v j = f j := by simp [set1, h]
theorem set2_self {α : Type} (f : Nat → Nat → α) (i k : Nat) (v : α) : set2 f i k v i k = v := by simp [set2]
theorem set2_ne {α : Type} (f : Nat → Nat → α) {i k a b : Nat} (v : α) (h : ¬ (a = i ∧ b = k)) : set2 f i k v a b = f a b := by simp [set2, h]

/-- A root is set to two that belong together. -/
theorem Bis.setRoot {cs : Sch} {p : PH} {r : DH} {M : Nat → Nat → Prop} (h : Bis cs p r M) (i x y : Nat) (hxy : (x = 0 ∧ y = 0) ∨ M x y) : Bis cs { p with R := set1 p.R i x } { r with R := set1 r.R i y } M := by
  refine ⟨h.fn, h.inj, h.pos, fun k hk => ?_, h.cls, h.has, h.num, h.ref, h.nor⟩
  by_cases e : k = i
  · subst e; simpa [set1_self] using hxy
  · simpa [set1_ne _ _ e] using h.root k hk
theorem Bis.setNum {cs : Sch} {p : PH} {r : DH} {M : Nat → Nat → Prop} (h : Bis cs p r M) {a b : Nat} (hab : M a b) (i : Nat) (v : Int) (f : Int × Int) (hf : (fof cs (p.K a))[i]? = some f) (hk : f.2 ≠ 114) : Bis cs { p with N := set2 p.N a i v } { r with C := set2 r.C b i v } M := by
  refine ⟨h.fn, h.inj, h.pos, h.root, h.cls, h.has, fun x y hxy j g hg hgk => ?_, fun x y hxy j g hg hgk => ?_, h.nor⟩
  · by_cases e : x = a ∧ j = i
    · obtain ⟨rfl, rfl⟩ := e
      have := h.fn _ _ _ hxy hab
      subst this
      simp [set2_self]
    · have e2 : ¬ (y = b ∧ j = i) := fun ⟨e1, e2⟩ => e ⟨h.inj _ _ _ hxy (e1 ▸ hab), e2⟩
      simp only [set2_ne _ _ e, set2_ne _ _ e2]
      exact h.num x y hxy j g hg hgk
  · have e2 : ¬ (y = b ∧ j = i) := by
      rintro ⟨rfl, rfl⟩
      have := h.inj _ _ _ hxy hab
      subst this
      rw [hf] at hg
      exact hk (by have := Option.some.inj hg; rw [this]; exact hgk)
    simp only [set2_ne _ _ e2]
    exact h.ref x y hxy j g hg hgk
theorem Bis.setRef {cs : Sch} {p : PH} {r : DH} {M : Nat → Nat → Prop} (h : Bis cs p r M) {a b : Nat} (hab : M a b) (i x y : Nat) (hxy : (x = 0 ∧ y = 0) ∨ M x y) (f : Int × Int) (hf : (fof cs (p.K a))[i]? = some f) (hk : f.2 = 114) : Bis cs { p with F := set2 p.F a i x } { r with C := set2 r.C b i (y : Int) } M := by
  refine ⟨h.fn, h.inj, h.pos, h.root, h.cls, h.has, fun u v huv j g hg hgk => ?_, fun u v huv j g hg hgk => ?_, fun u v huv j hj hno => ?_⟩
  · have e2 : ¬ (v = b ∧ j = i) := by
      rintro ⟨rfl, rfl⟩
      have := h.inj _ _ _ huv hab
      subst this
      rw [hf] at hg
      exact hgk (by have := Option.some.inj hg; rw [← this]; exact hk)
    simp only [set2_ne _ _ e2]
    exact h.num u v huv j g hg hgk
  · by_cases e : u = a ∧ j = i
    · obtain ⟨rfl, rfl⟩ := e
      have := h.fn _ _ _ huv hab
      subst this
      simp only [set2_self]
      rcases hxy with ⟨rfl, rfl⟩ | hm
      · exact .inl ⟨rfl, rfl⟩
      · exact .inr ⟨y, rfl, hm⟩
    · have e2 : ¬ (v = b ∧ j = i) := fun ⟨e1, e2⟩ => e ⟨h.inj _ _ _ huv (e1 ▸ hab), e2⟩
      simp only [set2_ne _ _ e, set2_ne _ _ e2]
      exact h.ref u v huv j g hg hgk
  · have e : ¬ (u = a ∧ j = i) := by
      rintro ⟨rfl, rfl⟩
      exact hno f hf hk
    simp only [set2_ne _ _ e]
    exact h.nor u v huv j hj hno
/-- A new object, in a place that can't be reached. -/
theorem Bis.make {cs : Sch} {p : PH} {r : DH} {M : Nat → Nat → Prop} (h : Bis cs p r M) (h6 : ∀ c ∈ cs, c.2.length ≤ 6) (a i : Nat) (c : Int) (ha : ¬ p.in a) (h0 : 0 < a) (h1 : a < 201) (hc : (cs.any fun x => x.1 == c) = true) (p' : PH) (r' : DH)
    (eR : p'.R = set1 p.R i a) (eK : p'.K = set1 p.K a c) (eN : ∀ x j, x ≠ a → p'.N x j = p.N x j) (eN0 : ∀ j, j < 6 → p'.N a j = 0) (eF : ∀ x j, x ≠ a → p'.F x j = p.F x j) (eF0 : ∀ j, j < 6 → p'.F a j = 0)
    (dR : r'.R = set1 r.R i (r.n + 1)) (dK : ∀ y, 0 < y → y ≤ r.n → r'.K y = r.K y) (dK1 : r'.K (r.n + 1) = c) (dC : ∀ y j, 0 < y → y ≤ r.n → r'.C y j = r.C y j) (dC1 : ∀ j, r'.C (r.n + 1) j = 0) (dn : r'.n = r.n + 1) : Sim cs p' r' := by
  refine ⟨fun x y => (M x y ∧ p.in x) ∨ (x = a ∧ y = r.n + 1), ?_, ?_, ?_, ?_, ?_, ?_, ?_, ?_, ?_⟩
  · rintro x y y' (⟨h2, h3⟩ | ⟨rfl, rfl⟩) (⟨h4, h5⟩ | ⟨h4, rfl⟩)
    · exact h.fn _ _ _ h2 h4
    · subst h4; exact absurd h3 ha
    · exact absurd h5 ha
    · rfl
  · rintro x x' y (⟨h2, h3⟩ | ⟨rfl, rfl⟩) (⟨h4, h5⟩ | ⟨rfl, h4⟩)
    · exact h.inj _ _ _ h2 h4
    · have := (h.pos _ _ h2).2.2.2; omega
    · have := (h.pos _ _ h4).2.2.2; omega
    · rfl
  · rintro x y (⟨h2, h3⟩ | ⟨rfl, rfl⟩)
    · have := h.pos _ _ h2; rw [dn]; omega
    · rw [dn]; omega
  · intro k hk
    by_cases e : k = i
    · subst e; rw [eR, dR, set1_self, set1_self]; exact .inr (.inr ⟨rfl, rfl⟩)
    · rw [eR, dR, set1_ne _ _ e, set1_ne _ _ e]
      rcases h.root k hk with h2 | h2
      · exact .inl h2
      · exact .inr (.inl ⟨h2, .root ⟨k, hk, rfl, by have := (h.pos _ _ h2).1; omega⟩⟩)
  all_goals
    rintro x y (⟨h2, h3⟩ | ⟨rfl, rfl⟩)
  · have hne : x ≠ a := fun e => ha (e ▸ h3)
    have hp := h.pos _ _ h2
    rw [eK, set1_ne _ _ hne, dK y hp.2.2.1 hp.2.2.2]; exact h.cls _ _ h2
  · rw [eK, set1_self, dK1]
  · have hne : x ≠ a := fun e => ha (e ▸ h3)
    rw [eK, set1_ne _ _ hne]; exact h.has _ _ h2
  · rw [eK, set1_self]; exact hc
  · have hne : x ≠ a := fun e => ha (e ▸ h3)
    have hp := h.pos _ _ h2
    rw [eK, set1_ne _ _ hne]
    intro j f hf hk
    rw [eN _ _ hne, dC y j hp.2.2.1 hp.2.2.2]; exact h.num _ _ h2 j f hf hk
  · intro j f hf hk
    rw [eK, set1_self] at hf
    rw [dC1, eN0 j (by have := fof_le h6 c; obtain ⟨h', _⟩ := List.getElem?_eq_some_iff.1 hf; omega)]
  · have hne : x ≠ a := fun e => ha (e ▸ h3)
    have hp := h.pos _ _ h2
    rw [eK, set1_ne _ _ hne]
    intro j f hf hk
    rw [eF _ _ hne, dC y j hp.2.2.1 hp.2.2.2]
    have hj : j < 6 := by have := fof_le h6 (p.K x); obtain ⟨h', _⟩ := List.getElem?_eq_some_iff.1 hf; omega
    rcases h.ref _ _ h2 j f hf hk with h4 | ⟨c', h4, h5⟩
    · exact .inl h4
    · exact .inr ⟨c', h4, .inl ⟨h5, .step h3 ⟨j, hj, rfl, by have := (h.pos _ _ h5).1; omega⟩⟩⟩
  · intro j f hf hk
    rw [eK, set1_self] at hf
    rw [dC1, eF0 j (by have := fof_le h6 c; obtain ⟨h', _⟩ := List.getElem?_eq_some_iff.1 hf; omega)]
    exact .inl ⟨rfl, rfl⟩
  · have hne : x ≠ a := fun e => ha (e ▸ h3)
    rw [eK, set1_ne _ _ hne]
    intro j hj hno
    rw [eF _ _ hne]; exact h.nor _ _ h2 j hj hno
  · intro j hj _; exact eF0 j hj
end Go.Proofs.Ytbgilndohccicab
