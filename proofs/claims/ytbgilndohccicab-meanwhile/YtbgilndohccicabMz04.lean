import Derived.Test.YtbgilndohccicabMz03
import Derived.Test.YtbgilndohccicabMz02
import Derived.Deep.RegionWith
namespace Go.Proofs.Ytbgilndohccicab

/-- The program's heap is well made. -/
structure Pw (p : PH) : Prop where
  root : ∀ i, i < 8 → p.R i < 201
  ref : ∀ a j, a < 201 → j < 6 → p.F a j < 201
theorem Pw.in_lt {p : PH} (h : Pw p) {a : Nat} (ha : p.in a) : 0 < a ∧ a < 201 := by
  refine Rch.least (P := fun a => 0 < a ∧ a < 201) ?_ ?_ ha
  · rintro x ⟨i, hi, rfl, hx⟩; exact ⟨by omega, h.root i hi⟩
  · rintro x y ⟨_, hx⟩ ⟨j, hj, rfl, hy⟩; exact ⟨by omega, h.ref x j hx hj⟩
theorem Pw.setRoot {p : PH} (h : Pw p) (i x : Nat) (hx : x < 201) : Pw { p with R := set1 p.R i x } :=
  ⟨fun k hk => by
    by_cases e : k = i
    · subst e; simpa [set1_self] using hx
    · simpa [set1_ne _ _ e] using h.root k hk, h.ref⟩
theorem Pw.setRef {p : PH} (h : Pw p) (a i x : Nat) (hx : x < 201) : Pw { p with F := set2 p.F a i x } :=
  ⟨h.root, fun k j hk hj => by
    by_cases e : k = a ∧ j = i
    · obtain ⟨rfl, rfl⟩ := e; simpa [set2_self] using hx
    · simp only [set2_ne _ _ e]; exact h.ref k j hk hj⟩
/-- Those that were found so far. -/
structure PI (p : PH) (L : List Nat) (S : Nat → Bool) : Prop where
  nd : L.Nodup
  sm : ∀ x, x < 201 → (S x = true ↔ x ∈ L)
  snd : ∀ x, x ∈ L → p.in x
  bd : ∀ x, x ∈ L → 0 < x ∧ x < 201
def addL (L : List Nat) (S : Nat → Bool) (x : Nat) : List Nat := if x = 0 ∨ S x = true then L else L ++ [x]
def addS (S : Nat → Bool) (x : Nat) : Nat → Bool := if x = 0 ∨ S x = true then S else set1 S x true
theorem PI.nil (p : PH) : PI p [] (fun _ => false) := ⟨by simp, fun x _ => by simp, fun x h => by simp at h, fun x h => by simp at h⟩
theorem PI.len {p : PH} {L : List Nat} {S : Nat → Bool} (h : PI p L S) : L.length ≤ 200 := by
  have := nodup_le 200 (L.map (· - 1)) ?_ ?_
  · simpa using this
  · have hp : ∀ l : List Nat, l.Nodup → (∀ x ∈ l, 0 < x) → (l.map (· - 1)).Nodup := by
      intro l hl
      induction l with
      | nil => intro _; simp
      | cons x l ih =>
        intro h0
        rw [List.map_cons, List.nodup_cons]
        rw [List.nodup_cons] at hl
        refine ⟨fun hm => ?_, ih hl.2 (fun y hy => h0 y (by simp [hy]))⟩
        obtain ⟨y, hy, e⟩ := List.mem_map.1 hm
        have h1 := h0 y (by simp [hy])
        have h2 := h0 x (by simp)
        have : y = x := by omega
        subst this; exact hl.1 hy
    exact hp L h.nd (fun x hx => (h.bd x hx).1)
  · intro y hy
    obtain ⟨x, hx, rfl⟩ := List.mem_map.1 hy
    have := h.bd x hx
    omega
theorem PI.add {p : PH} {L : List Nat} {S : Nat → Bool} (h : PI p L S) (x : Nat) (hx : x ≠ 0 → p.in x) (hb : x < 201) : PI p (addL L S x) (addS S x) ∧ (x ≠ 0 → x ∈ addL L S x) ∧ (∀ y, y ∈ L → y ∈ addL L S x) ∧ (∀ i, i < L.length → (addL L S x)[i]? = L[i]?) ∧ L.length ≤ (addL L S x).length := by
  unfold addL addS
  by_cases h0 : x = 0 ∨ S x = true
  · rw [if_pos h0, if_pos h0]
    refine ⟨h, fun hne => ?_, fun _ h => h, fun _ _ => rfl, Nat.le_refl _⟩
    rcases h0 with h0 | h0
    · exact absurd h0 hne
    · exact (h.sm x hb).1 h0
  · rw [if_neg h0, if_neg h0]
    have hne : x ≠ 0 := fun e => h0 (.inl e)
    have hno : x ∉ L := fun hm => h0 (.inr ((h.sm x hb).2 hm))
    refine ⟨⟨nodup_snoc h.nd hno, fun y hy => ?_, fun y hy => ?_, fun y hy => ?_⟩, fun _ => by simp, fun y hy => by simp [hy], fun i hi => List.getElem?_append_left hi, by simp⟩
    · by_cases e : y = x
      · subst e; simp [set1_self]
      · rw [set1_ne _ _ e, h.sm y hy]; simp [e]
    · rcases List.mem_append.1 hy with hy | hy
      · exact h.snd y hy
      · simp at hy; subst hy; exact hx hne
    · rcases List.mem_append.1 hy with hy | hy
      · exact h.bd y hy
      · simp at hy; subst hy; omega
/-- The roots, one behind another. -/
structure P1 (p : PH) (L : List Nat) (S : Nat → Bool) (m : Nat) : Prop where
  pi : PI p L S
  rts : ∀ i, i < m → p.R i ≠ 0 → p.R i ∈ L
theorem P1.add {p : PH} (hp : Pw p) {L : List Nat} {S : Nat → Bool} {m : Nat} (h : P1 p L S m) (hm : m < 8) : P1 p (addL L S (p.R m)) (addS S (p.R m)) (m + 1) := by
  obtain ⟨h1, h2, h3, _⟩ := h.pi.add (p.R m) (fun hne => .root ⟨m, hm, rfl, hne⟩) (hp.root m hm)
  exact ⟨h1, fun i hi hne => by
    rcases Nat.lt_succ_iff_lt_or_eq.1 hi with hi | rfl
    · exact h3 _ (h.rts i hi hne)
    · exact h2 hne⟩
/-- Behind the roots: all that the first i refer to, and the first k references of the next. -/
structure P2 (p : PH) (L : List Nat) (S : Nat → Bool) (i k : Nat) : Prop where
  pi : PI p L S
  rts : ∀ i, i < 8 → p.R i ≠ 0 → p.R i ∈ L
  cl : ∀ a, a < i → ∀ j, j < 6 → p.F (L[a]?.getD 0) j ≠ 0 → p.F (L[a]?.getD 0) j ∈ L
  ck : ∀ j, j < k → p.F (L[i]?.getD 0) j ≠ 0 → p.F (L[i]?.getD 0) j ∈ L
  il : i ≤ L.length
theorem P1.p2 {p : PH} {L : List Nat} {S : Nat → Bool} (h : P1 p L S 8) : P2 p L S 0 0 := ⟨h.pi, h.rts, fun a h => by omega, fun j h => by omega, Nat.zero_le _⟩
theorem P2.add {p : PH} (hp : Pw p) {L : List Nat} {S : Nat → Bool} {i k : Nat} (h : P2 p L S i k) (hi : i < L.length) (hk : k < 6) : P2 p (addL L S (p.F (L[i]?.getD 0) k)) (addS S (p.F (L[i]?.getD 0) k)) i (k + 1) ∧ (addL L S (p.F (L[i]?.getD 0) k))[i]? = L[i]? ∧ i < (addL L S (p.F (L[i]?.getD 0) k)).length := by
  have hm : L[i]?.getD 0 ∈ L := by rw [List.getElem?_eq_getElem hi]; exact List.getElem_mem hi
  have hin := h.pi.snd _ hm
  obtain ⟨h1, h2, h3, h4, h5⟩ := h.pi.add (p.F (L[i]?.getD 0) k) (fun hne => .step hin ⟨k, hk, rfl, hne⟩) (hp.ref _ k (hp.in_lt hin).2 hk)
  refine ⟨⟨h1, fun a ha hne => h3 _ (h.rts a ha hne), fun a ha j hj => ?_, fun j hj => ?_, by omega⟩, h4 i hi, by omega⟩
  · rw [h4 a (by omega)]; exact fun hne => h3 _ (h.cl a ha j hj hne)
  · rw [h4 i hi]
    intro hne
    rcases Nat.lt_succ_iff_lt_or_eq.1 hj with hj | rfl
    · exact h3 _ (h.ck j hj hne)
    · exact h2 hne
theorem P2.next {p : PH} {L : List Nat} {S : Nat → Bool} {i : Nat} (h : P2 p L S i 6) (hi : i < L.length) : P2 p L S (i + 1) 0 := by
  refine ⟨h.pi, h.rts, fun a ha j hj hne => ?_, fun j h => by omega, by omega⟩
  rcases Nat.lt_succ_iff_lt_or_eq.1 ha with ha | rfl
  · exact h.cl a ha j hj hne
  · exact h.ck j hj hne
theorem P2.fin {p : PH} {L : List Nat} {S : Nat → Bool} {k : Nat} (h : P2 p L S L.length k) : ∀ a, a ∈ L ↔ p.in a := by
  intro a
  refine ⟨h.pi.snd a, fun ha => ?_⟩
  refine Rch.least (P := fun a => a ∈ L) ?_ ?_ ha
  · rintro x ⟨i, hi, rfl, hx⟩; exact h.rts i hi hx
  · rintro x y hx ⟨j, hj, rfl, hy⟩
    obtain ⟨i, hi, rfl⟩ := List.getElem_of_mem hx
    have := h.cl i hi j hj
    rw [List.getElem?_eq_getElem hi] at this
    exact this hy
/-- A place is left where words are left. -/
theorem len_words {cs : Sch} {K : Nat → Int} (L : List Nat) : L.length ≤ (L.map fun a => wof cs (K a)).sum := by
  induction L with
  | nil => simp
  | cons x L ih =>
    rw [List.map_cons, List.sum_cons, List.length_cons]; have : 1 ≤ wof cs (K x) := by unfold wof; omega
    omega
theorem sub_len : ∀ (l L : List Nat), l.Nodup → (∀ x ∈ l, x ∈ L) → l.length ≤ L.length := by
  intro l
  induction l with
  | nil => intro L _ _; simp
  | cons x l ih =>
    intro L hd hs
    rw [List.nodup_cons] at hd
    have hx := hs x (by simp)
    have := ih (L.erase x) hd.2 (fun y hy => (List.mem_erase_of_ne (show y ≠ x from fun e => hd.1 (by rw [← e]; exact hy))).2 (hs y (by simp [hy])))
    rw [List.length_erase_of_mem hx] at this
    have : 0 < L.length := List.length_pos_of_mem hx
    simp; omega
theorem free_ex {L : List Nat} {S : Nat → Bool} (hs : ∀ x, x < 201 → (S x = true ↔ x ∈ L)) (h : L.length < 200) : ∃ x, 0 < x ∧ x < 201 ∧ S x = false := by
  refine Classical.byContradiction fun hno => ?_
  have : ∀ x, x < 200 → x + 1 ∈ L := fun x hx => by
    refine (hs (x + 1) (by omega)).1 ?_
    cases he : S (x + 1) with
    | true => rfl
    | false => exact absurd ⟨x + 1, by omega, by omega, he⟩ hno
  have hr : ∀ n, n ≤ 200 → ∃ l : List Nat, l.Nodup ∧ l.length = n ∧ (∀ x ∈ l, x ∈ L ∧ x ≤ n) := by
    intro n
    induction n with
    | zero => intro _; exact ⟨[], by simp, rfl, by simp⟩
    | succ n ih =>
      intro hn
      obtain ⟨l, h1, h2, h3⟩ := ih (by omega)
      refine ⟨(n + 1) :: l, ?_, by simp [h2], fun x hx => ?_⟩
      · rw [List.nodup_cons]; exact ⟨fun hm => by have := (h3 _ hm).2; omega, h1⟩
      · rcases List.mem_cons.1 hx with rfl | hx
        · exact ⟨this n (by omega), Nat.le_refl _⟩
        · exact ⟨(h3 x hx).1, by have := (h3 x hx).2; omega⟩
  obtain ⟨l, h1, h2, h3⟩ := hr 200 (by omega)
  have := sub_len l L h1 (fun x hx => (h3 x hx).1)
  omega
end Go.Proofs.Ytbgilndohccicab
namespace Go.Proofs.Ytbgilndohccicab
open Go.RowKit

theorem CV.drew {w : World} {v : Value} {vs : List (Int × SV)} (h : CV w v vs) : CV w.drew v vs := h
/-- The update's slice, as the row 201 of the numbers tells it. -/
def updV (N : Nat → Nat → Int) : Value := .slice (if N 201 4 = 0 then none else some ⟨(N 201 1).toNat, 0, none⟩) (N 201 2).toNat (N 201 3).toNat
/-- The heap in block hb: its schema's slice, its size, its roots; of each object the class, the numbers, the references. -/
structure HP (w : World) (hb : Nat) (sv : SV) (sz : Int) (R : Nat → Nat) (K : Nat → Int) (N : Nat → Nat → Int) (F : Nat → Nat → Nat) : Prop where
  sch : w.cell? ⟨hb, 0, none⟩ = some (.slice sv.a sv.n sv.c)
  size : w.cell? ⟨hb, 1, none⟩ = some (.int .i64 sz)
  root : ∀ i, i < 8 → w.cell? ⟨hb, 2 + i, none⟩ = some (.int .i64 (R i))
  cls : ∀ i, i < 201 → w.cell? ⟨hb, 10 + i * 13, none⟩ = some (.int .u8 (K i))
  num : ∀ i j, i < 201 → j < 6 → w.cell? ⟨hb, 10 + i * 13 + 1 + j, none⟩ = some (.int .i64 (N i j))
  ref : ∀ i j, i < 201 → j < 6 → w.cell? ⟨hb, 10 + i * 13 + 7 + j, none⟩ = some (.int .i64 (F i j))
  frz : ∀ o, w.frozen? ⟨hb, o, none⟩ = false
  pend : w.cell? ⟨hb, 2623, none⟩ = some (.bool (decide (N 201 0 ≠ 0)))
  upd : w.cell? ⟨hb, 2624, none⟩ = some (updV N)

set_option maxHeartbeats 400000 in
theorem isRoot_any (x : Int) (w : World) : Calls Try.prog 33 #[.int .i64 x] w fun e w' => e = .returned (.bool (rtB x)) ∧ w' = w := by
  unfold rtB
  by_cases h : 0 ≤ x
  · go_enter Try.func33, Try.ntmps33
    go_wp2
    go_ret
    exact ⟨by rw [decide_eq_true h]; rfl, rfl⟩
  · go_enter Try.func33, Try.ntmps33
    go_wp2
    go_ret
    exact ⟨by rw [decide_eq_false (by omega)]; rfl, rfl⟩
theorem isRoot_rs {x : Int} {w : World} (y : Bool) (hy : rtB x = y) : Calls Try.prog 33 #[.int .i64 x] w fun e w' => e = .returned (.bool y) ∧ w' = w := by
  subst hy; exact isRoot_any x w
/-- What held tells: the object's number, the error. -/
def heldI (R : Nat → Nat) (root : Int) : Nat × Int := if rtB root = false then (0, 8) else if R root.toNat = 0 then (0, 9) else (R root.toNat, 0)
theorem HP.lt {w : World} {hb : Nat} {sv : SV} {sz : Int} {R : Nat → Nat} {K : Nat → Int} {N : Nat → Nat → Int} {F : Nat → Nat → Nat} (h : HP w hb sv sz R K N F) : hb < w.heap.size := World.block_lt_of_cell? w ⟨hb, 0, none⟩ h.sch
set_option maxHeartbeats 400000 in
theorem held_any (hb : Nat) (sv : SV) (sz : Int) (R : Nat → Nat) (K : Nat → Int) (N : Nat → Nat → Int) (F : Nat → Nat → Nat) (w : World) (h : HP w hb sv sz R K N F) (root : Int) :
    Calls Try.prog 42 #[.pointer (some ⟨hb, 0, none⟩), .int .i64 root] w fun e w' => e = .returned (.tuple #[.int .i64 (heldI R root).1, .int .i64 (heldI R root).2]) ∧ w' = w := by
  have hbl := h.lt
  cases h1 : rtB root with
  | false =>
    have e : heldI R root = (0, 8) := by unfold heldI; rw [if_pos h1]
    rw [e]; clear e
    go_enter Try.func42, Try.ntmps42
    go_wp2_with (go_at_call 33; refine (isRoot_rs false h1).mono ?_; rintro e w' ⟨rfl, rfl⟩)
    go_ret2
    exact ⟨rfl, rfl⟩
  | true =>
    obtain ⟨r, rfl, hr8⟩ := rtB_nat h1
    have cr := h.root r hr8
    have hi : (0 : Int) ≤ (r : Int) ∧ (r : Int) < 8 := by omega
    by_cases h2 : R r = 0
    · have e : heldI R r = (0, 9) := by unfold heldI; rw [if_neg (by rw [h1]; decide), Int.toNat_natCast, if_pos h2]
      rw [e]; clear e
      rw [h2] at cr
      go_enter Try.func42, Try.ntmps42
      go_wp2_with (go_at_call 33; refine (isRoot_rs true h1).mono ?_; rintro e w' ⟨rfl, rfl⟩)
      go_ret2
      exact ⟨rfl, rfl⟩
    · have e : heldI R r = (R r, 0) := by unfold heldI; rw [if_neg (by rw [h1]; decide), Int.toNat_natCast, if_neg h2]
      rw [e]; clear e
      have hne : ((R r : Int) == 0) = false := by simp; omega
      go_enter Try.func42, Try.ntmps42
      go_wp2_with (go_at_call 33; refine (isRoot_rs true h1).mono ?_; rintro e w' ⟨rfl, rfl⟩)
      go_ret2
      exact ⟨rfl, rfl⟩

set_option maxHeartbeats 1000000 in
theorem classOf_any (hb n : Nat) (sv : SV) (sz : Int) (R : Nat → Nat) (K : Nat → Int) (N : Nat → Nat → Int) (F : Nat → Nat → Nat) (vs : List (Int × SV)) (w : World) (h : HP w hb sv sz R K N F) (hv : CV w (.slice sv.a sv.n sv.c) vs) (hn : n < 201) :
    Calls Try.prog 65 #[.pointer (some ⟨hb, 0, none⟩), .int .i64 n] w fun e w' => e = .returned (clsV (findC vs (K n))) ∧ Below w.heap.size w w' := by
  have hbl : hb < w.heap.size := World.block_lt_of_cell? w ⟨hb, 0, none⟩ h.sch
  have c0 := h.sch
  have c1 := h.cls n hn
  have V0 : CV (w.alloc (.cells #[.int .u8 0, .slice none 0 0] 88)) (.slice sv.a sv.n sv.c) vs := hv.alloc _
  have hi : (0 : Int) ≤ (n : Int) ∧ (n : Int) < 201 := by omega
  obtain ⟨l, a, m, c, hf⟩ : ∃ l a m c, findC vs (K n) = (l, ⟨a, m, c⟩) := ⟨_, _, _, _, rfl⟩
  obtain ⟨y, hy⟩ : ∃ y, hasC vs (K n) = y := ⟨_, rfl⟩
  have FC : ∀ W : World, CV W (.slice sv.a sv.n sv.c) vs → Calls Try.prog 34 #[.agg #[.slice sv.a sv.n sv.c], .int .u8 (K n)] W fun e w' => e = .returned (.tuple #[.agg #[.int .u8 l, .slice a m c], .bool y]) ∧ Below W.heap.size W w' := by
    intro W hW
    have := find_any (K n) _ vs W hW
    rw [hf, hy] at this
    exact this
  rw [hf]
  show Calls _ _ _ _ fun e w' => e = .returned (.agg #[.int .u8 l, .slice a m c]) ∧ _
  clear hf hy hv
  go_enter Try.func65, Try.ntmps65
  go_wp2
  go_region_with (go_at_call 34; refine (FC _ (by with_reducible repeat first | exact V0 | apply CV.drew | apply CV.alloc)).mono ?_; rintro e w2 ⟨rfl, hb2⟩; have hz2 : w.heap.size < w2.heap.size := (by have := hb2.size; simp at this; omega); have r0 : w2.cell? ⟨w.heap.size, 0, none⟩ = some (.int .u8 0) := (hb2.cell (by show w.heap.size < _; simp; try omega)).trans (by go_simp); have r1 : w2.cell? ⟨w.heap.size, 1, none⟩ = some (.slice none 0 0) := (hb2.cell (by show w.heap.size < _; simp; try omega)).trans (by go_simp); have rf0 : w2.frozen? ⟨w.heap.size, 0, none⟩ = false := (hb2.frozen (by show w.heap.size < _; simp; try omega)).trans (by go_simp); have rf1 : w2.frozen? ⟨w.heap.size, 1, none⟩ = false := (hb2.frozen (by show w.heap.size < _; simp; try omega)).trans (by go_simp); (first | (have hq : w.heap.size + 1 < w2.heap.size := (by have := hb2.size; simp at this; omega); have q0 : w2.cell? ⟨w.heap.size + 1, 0, none⟩ = some (.int .u8 0) := (hb2.cell (by show w.heap.size + 1 < _; simp)).trans (by go_simp); have q1 : w2.cell? ⟨w.heap.size + 1, 1, none⟩ = some (.slice none 0 0) := (hb2.cell (by show w.heap.size + 1 < _; simp)).trans (by go_simp); have qf0 : w2.frozen? ⟨w.heap.size + 1, 0, none⟩ = false := (hb2.frozen (by show w.heap.size + 1 < _; simp)).trans (by go_simp); have qf1 : w2.frozen? ⟨w.heap.size + 1, 1, none⟩ = false := (hb2.frozen (by show w.heap.size + 1 < _; simp)).trans (by go_simp)) | skip))
  all_goals
    have B2 : Below w.heap.size w w2 := by
      first
        | exact (((Below.refl _ w).alloc (Nat.le_refl _) _).drew).trans (hb2.mono (by simp))
        | exact ((((Below.refl _ w).alloc (Nat.le_refl _) _).alloc (by simp) _).drew).trans (hb2.mono (by simp; omega))
    have hs2 := B2.size
    clear hb2
    go_wp2
    refine bodyPost_ret (v := .agg #[.int .u8 l, .slice a m c]) (by simp [results, Try.results65, go_sem, r0, r1, hz2]) rfl ⟨rfl, ?_⟩
    with_reducible repeat first | exact B2 | apply Below.drew | (refine Below.setCell ?_ (by first | exact Nat.le_refl _ | (show w.heap.size ≤ w.heap.size + 1; omega)) _) | (refine Below.alloc ?_ (by simp; omega) _)
end Go.Proofs.Ytbgilndohccicab
