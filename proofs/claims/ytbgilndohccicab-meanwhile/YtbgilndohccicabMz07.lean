import Derived.Test.YtbgilndohccicabMz06
namespace Go.Proofs.Ytbgilndohccicab
open Go.RowKit

def frf (f : FF) (other : Int) : FF := if rtB other = false then ⟨0, 0, 0, 8⟩ else fref f
def FRPost (f : FF) (w : World) (e : Ending) (w' : World) : Prop := e = .returned (.tuple #[.agg #[.int .i64 f.n, .int .i64 f.i], .int .i64 f.e]) ∧ Below w.heap.size w w'
set_option maxHeartbeats 1000000 in
theorem findRef_any (hb : Nat) (sv : SV) (sz : Int) (R : Nat → Nat) (K : Nat → Int) (N : Nat → Nat → Int) (F : Nat → Nat → Nat) (base : Nat) (vs : List (Int × SV)) (cs : List (Int × List (Int × Int))) (w : World) (h : HP w hb sv sz R K N F) (hv : Cls w base (.slice sv.a sv.n sv.c) vs cs)
    (hR : ∀ i, i < 8 → R i < 201) (root letter other : Int) :
    Calls Try.prog 77 #[.pointer (some ⟨hb, 0, none⟩), .int .i64 root, .int .u8 letter, .int .i64 other] w (FRPost (frf (ffind cs R K root letter) other) w) := by
  have hbl := h.lt
  cases ho : rtB other with
  | false =>
    have e : ∀ f, frf f other = ⟨0, 0, 0, 8⟩ := fun f => by unfold frf; rw [if_pos ho]
    rw [e]
    go_enter Try.func77, Try.ntmps77
    go_wp2_with fail
    refine (isRoot_rs (x := other) false ho).mono ?_
    rintro e w' ⟨rfl, rfl⟩
    go_wp2
    refine bodyPost_ret (v := .tuple #[.agg #[.int .i64 0, .int .i64 0], .int .i64 8]) (by simp [results, Try.results77, go_sem]) rfl ⟨rfl, ?_⟩
    with_reducible repeat first | exact Below.refl _ _ | (refine Below.setN ?_ (by omega) _) | (refine Below.alloc ?_ (by simp) _)
  | true =>
  have C := findField_any hb sv sz R K N F base vs cs _ (h.alloc (.cells #[.int .i64 0, .int .i64 0] 98)) (hv.below ((Below.refl _ w).alloc (Nat.le_refl _) _)) hR root letter
  have ef : frf (ffind cs R K root letter) other = fref (ffind cs R K root letter) := by unfold frf; rw [if_neg (by rw [ho]; decide)]
  rw [ef]
  clear ef
  obtain ⟨f, hf⟩ : ∃ f, f = ffind cs R K root letter := ⟨_, rfl⟩
  rw [← hf] at C ⊢
  clear hf
  obtain ⟨n, i, k, x⟩ := f
  obtain ⟨n', i', x', e⟩ : ∃ n' i' x', (fref ⟨n, i, k, x⟩).n = n' ∧ (fref ⟨n, i, k, x⟩).i = i' ∧ (fref ⟨n, i, k, x⟩).e = x' := ⟨_, _, _, rfl, rfl, rfl⟩
  unfold FRPost
  rw [e.1, e.2.1, e.2.2]
  by_cases hx : x = 0
  · subst hx
    by_cases hk : k = 114
    · subst hk
      have e2 : fref ⟨n, i, 114, 0⟩ = ⟨n, i, 114, 0⟩ := rfl
      rw [e2] at e
      obtain ⟨rfl, rfl, rfl⟩ := e
      clear e2
      go_enter Try.func77, Try.ntmps77
      go_wp2_with fail
      refine (isRoot_rs (x := other) true ho).mono ?_
      rintro e w' ⟨rfl, rfl⟩
      go_wp2_with fail
      refine C.mono ?_
      rintro e w1 ⟨rfl, hb1⟩
      have r0 : w1.cell? ⟨w.heap.size, 0, none⟩ = some (.int .i64 0) := (hb1.cell (by show w.heap.size < _; simp)).trans (by go_simp)
      have r1 : w1.cell? ⟨w.heap.size, 1, none⟩ = some (.int .i64 0) := (hb1.cell (by show w.heap.size < _; simp)).trans (by go_simp)
      have rf0 : w1.frozen? ⟨w.heap.size, 0, none⟩ = false := (hb1.frozen (by show w.heap.size < _; simp)).trans (by go_simp)
      have rf1 : w1.frozen? ⟨w.heap.size, 1, none⟩ = false := (hb1.frozen (by show w.heap.size < _; simp)).trans (by go_simp)
      have hz1 : w.heap.size < w1.heap.size := by have := hb1.size; simp at this; omega
      have B1 : Below w.heap.size w w1 := ((Below.refl _ w).alloc (Nat.le_refl _) _).trans (hb1.mono (by simp))
      have hs1 := B1.size
      clear C hb1
      simp only []
      go_wp2
      refine bodyPost_ret (v := .tuple #[.agg #[.int .i64 n, .int .i64 i], .int .i64 0]) (by simp [results, Try.results77, go_sem, r0, r1, hz1]) rfl ⟨rfl, ?_⟩
      with_reducible repeat first | exact B1 | apply Below.drew | (refine Below.setN ?_ (by omega) _) | (refine Below.alloc ?_ (by simp; omega) _)
    · have e2 : fref ⟨n, i, k, 0⟩ = ⟨0, 0, 0, 6⟩ := by unfold fref; rw [if_pos rfl, if_neg hk]
      have hk' : (k == 114) = false := by simpa using hk
      rw [e2] at e
      obtain ⟨rfl, rfl, rfl⟩ := e
      clear e2
      go_enter Try.func77, Try.ntmps77
      go_wp2_with fail
      refine (isRoot_rs (x := other) true ho).mono ?_
      rintro e w' ⟨rfl, rfl⟩
      go_wp2_with fail
      refine C.mono ?_
      rintro e w1 ⟨rfl, hb1⟩
      have r0 : w1.cell? ⟨w.heap.size, 0, none⟩ = some (.int .i64 0) := (hb1.cell (by show w.heap.size < _; simp)).trans (by go_simp)
      have r1 : w1.cell? ⟨w.heap.size, 1, none⟩ = some (.int .i64 0) := (hb1.cell (by show w.heap.size < _; simp)).trans (by go_simp)
      have rf0 : w1.frozen? ⟨w.heap.size, 0, none⟩ = false := (hb1.frozen (by show w.heap.size < _; simp)).trans (by go_simp)
      have rf1 : w1.frozen? ⟨w.heap.size, 1, none⟩ = false := (hb1.frozen (by show w.heap.size < _; simp)).trans (by go_simp)
      have hz1 : w.heap.size < w1.heap.size := by have := hb1.size; simp at this; omega
      have B1 : Below w.heap.size w w1 := ((Below.refl _ w).alloc (Nat.le_refl _) _).trans (hb1.mono (by simp))
      have hs1 := B1.size
      clear C hb1
      simp only []
      go_wp2
      refine bodyPost_ret (v := .tuple #[.agg #[.int .i64 0, .int .i64 0], .int .i64 6]) (by simp [results, Try.results77, go_sem, r0, r1, hz1]) rfl ⟨rfl, ?_⟩
      with_reducible repeat first | exact B1 | apply Below.drew | (refine Below.setN ?_ (by omega) _) | (refine Below.alloc ?_ (by simp; omega) _)
  · have e2 : fref ⟨n, i, k, x⟩ = ⟨0, 0, 0, x⟩ := by unfold fref; rw [if_neg hx]
    have hx' : (x == 0) = false := by simpa using hx
    have hx'' : (x != 0) = true := by simpa using hx
    rw [e2] at e
    obtain ⟨rfl, rfl, rfl⟩ := e
    clear e2
    simp only [] at *
    go_enter Try.func77, Try.ntmps77
    go_wp2_with fail
    refine (isRoot_rs (x := other) true ho).mono ?_
    rintro e w' ⟨rfl, rfl⟩
    go_wp2_with fail
    refine C.mono ?_
    rintro e w1 ⟨rfl, hb1⟩
    have r0 : w1.cell? ⟨w.heap.size, 0, none⟩ = some (.int .i64 0) := (hb1.cell (by show w.heap.size < _; simp)).trans (by go_simp)
    have r1 : w1.cell? ⟨w.heap.size, 1, none⟩ = some (.int .i64 0) := (hb1.cell (by show w.heap.size < _; simp)).trans (by go_simp)
    have rf0 : w1.frozen? ⟨w.heap.size, 0, none⟩ = false := (hb1.frozen (by show w.heap.size < _; simp)).trans (by go_simp)
    have rf1 : w1.frozen? ⟨w.heap.size, 1, none⟩ = false := (hb1.frozen (by show w.heap.size < _; simp)).trans (by go_simp)
    have hz1 : w.heap.size < w1.heap.size := by have := hb1.size; simp at this; omega
    have B1 : Below w.heap.size w w1 := ((Below.refl _ w).alloc (Nat.le_refl _) _).trans (hb1.mono (by simp))
    have hs1 := B1.size
    clear C hb1
    simp only []
    go_wp2
    refine bodyPost_ret (v := .tuple #[.agg #[.int .i64 0, .int .i64 0], .int .i64 x]) (by simp [results, Try.results77, go_sem, r0, r1, hz1]) rfl ⟨rfl, ?_⟩
    with_reducible repeat first | exact B1 | apply Below.drew | (refine Below.setN ?_ (by omega) _) | (refine Below.alloc ?_ (by simp; omega) _)
end Go.Proofs.Ytbgilndohccicab
namespace Go.Proofs.Ytbgilndohccicab
open Go.RowKit

def pfolD (cs : Sch) (p : PH) (root name to : Int) : PH := if (frf (ffind cs p.R p.K root name) to).e = 0 then { p with R := set1 p.R to.toNat (p.F (ffind cs p.R p.K root name).n (ffind cs p.R p.K root name).i) } else p
def plinkD (cs : Sch) (p : PH) (root name fr : Int) : PH := if (frf (ffind cs p.R p.K root name) fr).e = 0 then { p with F := set2 p.F (ffind cs p.R p.K root name).n (ffind cs p.R p.K root name).i (p.R fr.toNat) } else p
theorem frf_e0 {f : FF} {o : Int} (h : (frf f o).e = 0) : rtB o = true ∧ f.e = 0 ∧ f.k = 114 ∧ frf f o = f := by
  unfold frf at h ⊢
  split at h
  · simp at h
  · rename_i h1
    obtain ⟨a, b, c⟩ := fref_e0 h
    exact ⟨by simpa using h1, a, b, by rw [if_neg h1]; exact c⟩
theorem frf_no {f : FF} {o : Int} (h : (frf f o).e ≠ 0) : frf f o = ⟨0, 0, 0, (frf f o).e⟩ := by
  unfold frf fref at h ⊢
  split at h
  · rename_i h1; rw [if_pos h1]
  · rename_i h1; rw [if_neg h1]
    split at h
    · rename_i h2; rw [if_pos h2]
      split at h
      · exact absurd h2 h
      · rename_i h3; rw [if_neg h3]
    · rename_i h2; rw [if_neg h2]
set_option maxRecDepth 20000 in
set_option maxHeartbeats 1000000 in
theorem pfollow_any (hb : Nat) (sv : SV) (sz : Int) (p : PH) (base : Nat) (vs : List (Int × SV)) (cs : List (Int × List (Int × Int))) (w : World) (h : HP w hb sv sz p.R p.K p.N p.F) (hv : Cls w base (.slice sv.a sv.n sv.c) vs cs)
    (hP : Pw p) (h6 : ∀ c ∈ cs, c.2.length ≤ 6) (root name to : Int) :
    Calls Try.prog 57 #[.pointer (some ⟨hb, 0, none⟩), .int .i64 root, .int .u8 name, .int .i64 to] w (POp hb sv sz (pfolD cs p root name to) (frf (ffind cs p.R p.K root name) to).e w) := by
  have hbl := h.lt
  have C := findRef_any hb sv sz p.R p.K p.N p.F base vs cs w h hv hP.root root name to
  have HH : Hid (HP w hb sv sz p.R p.K p.N p.F) := h
  have hbd := ffind_bd (K := p.K) (root := root) (letter := name) hP.root h6
  unfold POp
  by_cases h0 : (frf (ffind cs p.R p.K root name) to).e = 0
  · obtain ⟨ht, hfe, _, hff⟩ := frf_e0 h0
    have e1 : pfolD cs p root name to = { p with R := set1 p.R to.toNat (p.F (ffind cs p.R p.K root name).n (ffind cs p.R p.K root name).i) } := by unfold pfolD; rw [if_pos h0]
    rw [e1, hff]
    rw [hff] at C
    have hbd' := hbd hfe
    obtain ⟨n, i, k, x, hf⟩ : ∃ n i k x, ffind cs p.R p.K root name = ⟨n, i, k, x⟩ := ⟨_, _, _, _, rfl⟩
    rw [hf] at hfe hbd' C ⊢
    simp only [] at hfe hbd' ⊢
    subst hfe
    obtain ⟨hn0, hn, hi⟩ := hbd'
    obtain ⟨q, rfl, hq⟩ := rtB_nat ht
    rw [Int.toNat_natCast]
    have cn := h.ref n i hn hi
    have cq := h.root q hq
    have fq := h.frz (2 + q)
    have hnb : (0 : Int) ≤ (n : Int) ∧ (n : Int) < 201 := by omega
    have hib : (0 : Int) ≤ (i : Int) ∧ (i : Int) < 6 := by omega
    have hqb : (0 : Int) ≤ (q : Int) ∧ (q : Int) < 8 := by omega
    clear h0 hff e1 hf hbd h
    go_enter Try.func57, Try.ntmps57
    go_wp2_with fail
    refine C.mono ?_
    rintro e w1 ⟨rfl, B1⟩
    have cn1 : w1.cell? ⟨hb, 10 + n * 13 + 7 + i, none⟩ = some (.int .i64 (p.F n i)) := (B1.cell (by exact hbl)).trans cn
    have cq1 : w1.cell? ⟨hb, 2 + q, none⟩ = some (.int .i64 (p.R q)) := (B1.cell (by exact hbl)).trans cq
    have fq1 : w1.frozen? ⟨hb, 2 + q, none⟩ = false := (B1.frozen (by exact hbl)).trans fq
    have hb1 : hb < w1.heap.size := Nat.lt_of_lt_of_le hbl B1.size
    have HH1 : Hid (HP w1 hb sv sz p.R p.K p.N p.F) := HH.out.below B1
    have HB1 : Hid (Below w.heap.size w w1) := B1
    have hs1 := B1.size
    clear C cn cq fq B1
    simp only []
    go_wp2
    refine stillTail 16 rfl (by kernel_rfl) ?_
    simp only [List.take_succ_cons, List.take_zero, List.drop_succ_cons, List.drop_zero]
    repeat still_step
    refine wpStill_nil ?_
    go_wp2
    go_ret
    refine ⟨rfl, ?_, ?_⟩
    · with_reducible repeat first | exact HH1.out | exact HP.setRoot HH1.out hq _ | apply HP.drew | apply HP.alloc
    · with_reducible repeat first | exact gb_below HB1.out _ | apply gb_drewW | apply gb_alloc | apply gb_setB
  · have e1 : pfolD cs p root name to = p := by unfold pfolD; rw [if_neg h0]
    rw [e1]
    have e2 := frf_no h0
    obtain ⟨y, hy⟩ : ∃ y, y = (frf (ffind cs p.R p.K root name) to).e := ⟨_, rfl⟩
    rw [← hy] at e2 h0 ⊢
    rw [e2] at C
    have hy' : (y == 0) = false := by simpa using h0
    have hy'' : (y != 0) = true := by simpa using h0
    clear e2 hy h e1 hbd
    go_enter Try.func57, Try.ntmps57
    go_wp2_with fail
    refine C.mono ?_
    rintro e w1 ⟨rfl, B1⟩
    clear C
    simp only []
    go_wp2
    go_ret
    exact ⟨rfl, (HH.out.below B1).alloc _, gb_alloc (gb_below B1 _) _⟩
end Go.Proofs.Ytbgilndohccicab
namespace Go.Proofs.Ytbgilndohccicab
open Go.RowKit

set_option maxRecDepth 20000 in
set_option maxHeartbeats 1000000 in
theorem plink_any (hb : Nat) (sv : SV) (sz : Int) (p : PH) (base : Nat) (vs : List (Int × SV)) (cs : List (Int × List (Int × Int))) (w : World) (h : HP w hb sv sz p.R p.K p.N p.F) (hv : Cls w base (.slice sv.a sv.n sv.c) vs cs)
    (hP : Pw p) (h6 : ∀ c ∈ cs, c.2.length ≤ 6) (root name fr : Int) :
    Calls Try.prog 75 #[.pointer (some ⟨hb, 0, none⟩), .int .i64 root, .int .u8 name, .int .i64 fr] w (POp hb sv sz (plinkD cs p root name fr) (frf (ffind cs p.R p.K root name) fr).e w) := by
  have hbl := h.lt
  have C := findRef_any hb sv sz p.R p.K p.N p.F base vs cs w h hv hP.root root name fr
  have HH : Hid (HP w hb sv sz p.R p.K p.N p.F) := h
  have hbd := ffind_bd (K := p.K) (root := root) (letter := name) hP.root h6
  unfold POp
  by_cases h0 : (frf (ffind cs p.R p.K root name) fr).e = 0
  · obtain ⟨ht, hfe, _, hff⟩ := frf_e0 h0
    have e1 : plinkD cs p root name fr = { p with F := set2 p.F (ffind cs p.R p.K root name).n (ffind cs p.R p.K root name).i (p.R fr.toNat) } := by unfold plinkD; rw [if_pos h0]
    rw [e1, hff]
    rw [hff] at C
    have hbd' := hbd hfe
    obtain ⟨n, i, k, x, hf⟩ : ∃ n i k x, ffind cs p.R p.K root name = ⟨n, i, k, x⟩ := ⟨_, _, _, _, rfl⟩
    rw [hf] at hfe hbd' C ⊢
    simp only [] at hfe hbd' ⊢
    subst hfe
    obtain ⟨hn0, hn, hi⟩ := hbd'
    obtain ⟨q, rfl, hq⟩ := rtB_nat ht
    rw [Int.toNat_natCast]
    have cn := h.ref n i hn hi
    have cq := h.root q hq
    have fn := h.frz (10 + n * 13 + 7 + i)
    have hnb : (0 : Int) ≤ (n : Int) ∧ (n : Int) < 201 := by omega
    have hib : (0 : Int) ≤ (i : Int) ∧ (i : Int) < 6 := by omega
    have hqb : (0 : Int) ≤ (q : Int) ∧ (q : Int) < 8 := by omega
    clear h0 hff e1 hf hbd h
    go_enter Try.func75, Try.ntmps75
    go_wp2_with fail
    refine C.mono ?_
    rintro e w1 ⟨rfl, B1⟩
    have cn1 : w1.cell? ⟨hb, 10 + n * 13 + 7 + i, none⟩ = some (.int .i64 (p.F n i)) := (B1.cell (by exact hbl)).trans cn
    have cq1 : w1.cell? ⟨hb, 2 + q, none⟩ = some (.int .i64 (p.R q)) := (B1.cell (by exact hbl)).trans cq
    have fn1 : w1.frozen? ⟨hb, 10 + n * 13 + 7 + i, none⟩ = false := (B1.frozen (by exact hbl)).trans fn
    have hb1 : hb < w1.heap.size := Nat.lt_of_lt_of_le hbl B1.size
    have HH1 : Hid (HP w1 hb sv sz p.R p.K p.N p.F) := HH.out.below B1
    have HB1 : Hid (Below w.heap.size w w1) := B1
    have hs1 := B1.size
    clear C cn cq fn B1
    simp only []
    go_wp2
    refine stillTail 16 rfl (by kernel_rfl) ?_
    simp only [List.take_succ_cons, List.take_zero, List.drop_succ_cons, List.drop_zero]
    repeat still_step
    refine wpStill_nil ?_
    go_wp2
    go_ret
    refine ⟨rfl, ?_, ?_⟩
    · with_reducible repeat first | exact HH1.out | exact HP.setRef HH1.out hn hi _ | apply HP.drew | apply HP.alloc
    · with_reducible repeat first | exact gb_below HB1.out _ | apply gb_drewW | apply gb_alloc | apply gb_setB
  · have e1 : plinkD cs p root name fr = p := by unfold plinkD; rw [if_neg h0]
    rw [e1]
    have e2 := frf_no h0
    obtain ⟨y, hy⟩ : ∃ y, y = (frf (ffind cs p.R p.K root name) fr).e := ⟨_, rfl⟩
    rw [← hy] at e2 h0 ⊢
    rw [e2] at C
    have hy' : (y == 0) = false := by simpa using h0
    have hy'' : (y != 0) = true := by simpa using h0
    clear e2 hy h e1 hbd
    go_enter Try.func75, Try.ntmps75
    go_wp2_with fail
    refine C.mono ?_
    rintro e w1 ⟨rfl, B1⟩
    clear C
    simp only []
    go_wp2
    go_ret
    exact ⟨rfl, (HH.out.below B1).alloc _, gb_alloc (gb_below B1 _) _⟩

/-! What is there: the local variable of 202 cells: 201 marks, and the list. -/
def rarr (S : Nat → Bool) (v : Value) : Array Value := ((List.range 201).map (fun i => Value.bool (S i)) ++ [v]).toArray
theorem rarr_size (S : Nat → Bool) (v : Value) : (rarr S v).size = 202 := by simp [rarr]
theorem rarr_lt (S : Nat → Bool) (v : Value) {x : Nat} (h : x < 201) : (rarr S v)[x]? = some (.bool (S x)) := by
  unfold rarr
  rw [List.getElem?_toArray, List.getElem?_append_left (by simpa using h), List.getElem?_map, List.getElem?_range h]
  rfl
theorem rarr_last (S : Nat → Bool) (v : Value) : (rarr S v)[201]? = some v := by
  unfold rarr
  rw [List.getElem?_toArray, List.getElem?_append_right (by simp)]
  simp
theorem rarr_out (S : Nat → Bool) (v : Value) {x : Nat} (h : 201 < x) : (rarr S v)[x]? = none := by
  rw [Array.getElem?_eq_none]; rw [rarr_size]; omega
theorem rarr_set (S : Nat → Bool) (v : Value) {x : Nat} (h : x < 201) : (rarr S v).setIfInBounds x (.bool true) = rarr (set1 S x true) v := by
  apply Array.ext_getElem?
  intro i
  rw [Array.getElem?_setIfInBounds, rarr_size]
  by_cases e : x = i
  · subst e
    rw [if_pos rfl, if_pos (by omega), rarr_lt _ _ h, set1_self]
  · rw [if_neg e]
    rcases Nat.lt_trichotomy i 201 with h' | h' | h'
    · rw [rarr_lt _ _ h', rarr_lt _ _ h', set1_ne _ _ (Ne.symm e)]
    · subst h'; rw [rarr_last, rarr_last]
    · rw [rarr_out _ _ h', rarr_out _ _ h']
theorem rarr_setv (S : Nat → Bool) (v v' : Value) : (rarr S v).setIfInBounds 201 v' = rarr S v' := by
  apply Array.ext_getElem?
  intro i
  rw [Array.getElem?_setIfInBounds, rarr_size]
  by_cases e : 201 = i
  · subst e
    rw [if_pos rfl, if_pos (by omega), rarr_last]
  · rw [if_neg e]
    rcases Nat.lt_trichotomy i 201 with h' | h' | h'
    · rw [rarr_lt _ _ h', rarr_lt _ _ h']
    · exact absurd h'.symm e
    · rw [rarr_out _ _ h', rarr_out _ _ h']
structure RB (w : World) (b : Nat) (S : Nat → Bool) (v : Value) (L : List Nat) (base : Nat) : Prop where
  blk : w.heap[b]? = some (.cells (rarr S v) 93 (0, 0))
  own : w.ownsRow base 3 1 v L.length (L.map fun (x : Nat) => Value.int .i64 (x : Int))
theorem RB.c {w : World} {b : Nat} {S : Nat → Bool} {v : Value} {L : List Nat} {base : Nat} (h : RB w b S v L base) : ∀ x, x < 201 → w.cell? ⟨b, x, none⟩ = some (.bool (S x)) := fun x hx => (cell_of_row w b x _ _ _ h.blk).trans (rarr_lt S v hx)
theorem RB.l {w : World} {b : Nat} {S : Nat → Bool} {v : Value} {L : List Nat} {base : Nat} (h : RB w b S v L base) : w.cell? ⟨b, 201, none⟩ = some v := (cell_of_row w b 201 _ _ _ h.blk).trans (rarr_last S v)
theorem RB.f {w : World} {b : Nat} {S : Nat → Bool} {v : Value} {L : List Nat} {base : Nat} (h : RB w b S v L base) : ∀ o, w.frozen? ⟨b, o, none⟩ = false := fun o => frozen_of_row w b o _ _ h.blk
theorem RB.lt {w : World} {b : Nat} {S : Nat → Bool} {v : Value} {L : List Nat} {base : Nat} (h : RB w b S v L base) : b < w.heap.size := World.block_lt_of_cell? w ⟨b, 201, none⟩ h.l
set_option maxRecDepth 20000 in
set_option maxHeartbeats 1000000 in
theorem free_any (b : Nat) (S : Nat → Bool) (v : Value) (L : List Nat) (base : Nat) (w : World) (h : RB w b S v L base) :
    Calls Try.prog 38 #[.pointer (some ⟨b, 0, none⟩)] w fun e w' => w' = w ∧ ∃ a : Nat, e = .returned (.int .i64 a) ∧ ((a = 0 ∧ ∀ x, 0 < x → x < 201 → S x = true) ∨ (0 < a ∧ a < 201 ∧ S a = false)) := by
  have hbl := h.lt
  have HC : Hid (∀ x, x < 201 → w.cell? ⟨b, x, none⟩ = some (.bool (S x))) := h.c
  clear h
  go_enter Try.func38, Try.ntmps38
  go_wp2
  go_loopw [3] (fun iv wr => ∃ i : Nat, 0 < i ∧ i ≤ 201 ∧ iv = .int .i64 i ∧ Hid (∀ x, 0 < x → x < i → S x = true) ∧ wr = w) (fun iv _ => 201 - (intOf iv).toNat)
  case atStart => exact ⟨1, by omega, by omega, rfl, fun x h1 h2 => by omega, rfl⟩
  case round =>
    obtain ⟨i, hi0, hi, rfl, HS, rfl⟩ := hrel
    by_cases hlt : i < 201
    · have c := HC.out i hlt
      have hib : (0 : Int) ≤ (i : Int) ∧ (i : Int) < 201 := by omega
      cases hs : S i with
      | true =>
        rw [hs] at c
        have HS2 : Hid (∀ x, 0 < x → x < i + 1 → S x = true) := fun x h1 h2 => by
          rcases Nat.lt_succ_iff_lt_or_eq.1 h2 with h2 | rfl
          · exact HS.out x h1 h2
          · exact hs
        clear hs
        go_wp2
        go_roundw
        case rel => exact ⟨i + 1, by omega, by omega, by go_num, HS2, trivial⟩
        case measure => simp [intOf]; omega
      | false =>
        rw [hs] at c
        have HS2 : Hid (S i = false) := hs
        clear hs
        go_wp2
        go_ret
        exact ⟨rfl, i, rfl, .inr ⟨hi0, hlt, HS2.out⟩⟩
    · have hge : 201 ≤ i := by omega
      clear hlt
      go_wp2
      go_ret
      exact ⟨rfl, 0, rfl, .inl ⟨rfl, fun x h1 h2 => HS.out x h1 (by omega)⟩⟩
end Go.Proofs.Ytbgilndohccicab
namespace Go.Proofs.Ytbgilndohccicab
open Go.RowKit

theorem Try.infoInt : (Try.prog.info? 3).map (fun i => (i.zero, i.size, i.bytes)) = some (some (.int .i64 0), 1, 8) := by kernel_rfl
theorem infoPartsH {P : Program} {e : TypeId} {z : Option Value} {s b : Nat} (h : (P.info? e).map (fun i => (i.zero, i.size, i.bytes)) = some (z, s, b)) : ∃ i, P.info? e = some i ∧ i.zero = z ∧ i.size = s ∧ i.bytes = b := by
  cases hi : P.info? e with
  | none => rw [hi] at h; simp at h
  | some i => rw [hi] at h; simp at h; exact ⟨i, rfl, h.1, h.2.1, h.2.2⟩
theorem RB.setS {w : World} {b : Nat} {S : Nat → Bool} {v : Value} {L : List Nat} {base x : Nat} (h : RB w b S v L base) (hb : b < base) (hx : x < 201) : RB (w.setCell ⟨b, x, none⟩ (.bool true)) b (set1 S x true) v L base := by
  refine ⟨?_, World.ownsRow.kept h.own (gb_set w b x _) ?_⟩
  · rw [heap_setCell_same w b x _ _ _ h.blk, rarr_set S v hx]
  · cases hv : v.ownBlock with
    | none => exact .inl rfl
    | some g => right; have := (World.ownsRow.lt h.own g hv).1; simp; omega
theorem RB.app {w w2 : World} {b : Nat} {S : Nat → Bool} {v v' : Value} {L : List Nat} {base x : Nat} (h : RB w b S v L base) (hb : b < base) (g : w.grownBy w2 v.ownBlock) (own : w2.ownsRow base 3 1 v' (L.length + 1) ((L.map fun (x : Nat) => Value.int .i64 (x : Int)) ++ [.int .i64 x])) : RB (w2.setCell ⟨b, 201, none⟩ v') b S v' (L ++ [x]) base := by
  have hbl := h.lt
  have eb : w2.heap[b]? = w.heap[b]? := g.block b hbl (fun e => by have := (World.ownsRow.lt h.own b e.symm).1; omega)
  refine ⟨?_, ?_⟩
  · rw [heap_setCell_same w2 b 201 _ _ _ (eb.trans h.blk), rarr_setv]
  · rw [List.length_append, List.map_append]
    refine World.ownsRow.kept own (gb_set w2 b 201 v') ?_
    cases hv : v'.ownBlock with
    | none => exact .inl rfl
    | some y => right; have := (World.ownsRow.lt own y hv).1; simp; omega
def AddPost (b : Nat) (S : Nat → Bool) (L : List Nat) (base x : Nat) (w : World) (e : Ending) (w' : World) : Prop := e = .returned (.tuple #[]) ∧ Below b w w' ∧ ∃ v', RB w' b (addS S x) v' (addL L S x) base
set_option maxRecDepth 20000 in
set_option maxHeartbeats 1000000 in
theorem add_any (b : Nat) (S : Nat → Bool) (v : Value) (L : List Nat) (base x : Nat) (w : World) (h : RB w b S v L base) (hb : b < base) (hbase : base ≤ w.heap.size) (hx : x < 201) (hl : L.length ≤ 200) :
    Calls Try.prog 64 #[.pointer (some ⟨b, 0, none⟩), .int .i64 x] w (AddPost b S L base x w) := by
  have hbl := h.lt
  have HH : Hid (RB w b S v L base) := h
  unfold AddPost
  by_cases h0 : x = 0
  · have e1 : addS S x = S := by unfold addS; rw [if_pos (.inl h0)]
    have e2 : addL L S x = L := by unfold addL; rw [if_pos (.inl h0)]
    rw [e1, e2]
    subst h0
    clear h e1 e2
    go_enter Try.func64, Try.ntmps64
    go_wp2
    refine bodyPost_ret (v := .tuple #[]) (by simp [results, Try.results64, go_sem]) rfl ⟨rfl, Below.refl _ _, v, HH.out⟩
  · have hc := h.c x hx
    have hxb : (0 : Int) ≤ (x : Int) ∧ (x : Int) < 201 := by omega
    have hd0 : decide ((x : Int) ≤ 0) = false := decide_eq_false (by omega)
    have hd1 : decide ((201 : Int) ≤ (x : Int)) = false := decide_eq_false (by omega)
    cases hs : S x with
    | true =>
      have e1 : addS S x = S := by unfold addS; rw [if_pos (.inr hs)]
      have e2 : addL L S x = L := by unfold addL; rw [if_pos (.inr hs)]
      rw [e1, e2]
      rw [hs] at hc
      clear h e1 e2 hs
      go_enter Try.func64, Try.ntmps64
      go_wp2
      refine bodyPost_ret (v := .tuple #[]) (by simp [results, Try.results64, go_sem]) rfl ⟨rfl, Below.refl _ _, v, HH.out⟩
    | false =>
      have hor : ¬ (x = 0 ∨ S x = true) := by rw [hs]; simp [h0]
      have e1 : addS S x = set1 S x true := by unfold addS; rw [if_neg hor]
      have e2 : addL L S x = L ++ [x] := by unfold addL; rw [if_neg hor]
      rw [e1, e2]
      rw [hs] at hc
      have hf := h.f x
      have h1 := h.setS hb hx
      have H1 : Hid (RB (w.setCell ⟨b, x, none⟩ (.bool true)) b (set1 S x true) v L base) := h1
      have hl1 := h1.l
      have hf1 := h1.f 201
      obtain ⟨iI, hiI, hzI0, hzI1, hzI2⟩ := infoPartsH Try.infoInt
      clear h e1 e2 hs hor
      go_enter Try.func64, Try.ntmps64
      go_wp2_with (at_builtin; refine wpList_append_own _ rfl _ _ 22 rfl base 3 iI (.int .i64 0) 1 8 Try.underlying22 hiI hzI0 hzI1 hzI2 rfl (by decide) _ L.length (L.map fun (x : Nat) => Value.int .i64 (x : Int)) rfl (H1.out.own.alloc _) ⟨w.heap.size, 0, none⟩ 1 1 [.int .i64 x] rfl rfl ?c1 ?c2 ?c3 ?c4 ?c5 ?_)
      case c1 => intro j u hj; match j, hj with | 0, hj => (simp at hj; subst hj; have hsz : (w.setCell ⟨b, x, none⟩ (.bool true)).heap.size = w.heap.size := (by simp [World.setCell]); have hc1 := cell_of_row _ _ 0 _ _ _ (heap_alloc_new (w.setCell ⟨b, x, none⟩ (.bool true)) (.cells #[.int .i64 x] 3)); rw [hsz] at hc1; simpa [Addr.add] using hc1)
      case c2 => intro u hu; simp at hu; subst hu; rfl
      case c3 => unfold maxLen; omega
      case c4 => omega
      case c5 => simp; omega
      intro v' w2 hown hgr _
      obtain ⟨va', vc', hv'⟩ : ∃ a c, v' = .slice a (L.length + 1) c := by
        rcases hown.2 with ⟨_, hn⟩ | ⟨g, cap, cur, e, _⟩
        · omega
        · exact ⟨_, _, e⟩
      subst hv'
      have HA : Hid (RB (w2.setCell ⟨b, 201, none⟩ (.slice va' (L.length + 1) vc')) b (set1 S x true) (.slice va' (L.length + 1) vc') (L ++ [x]) base) := H1.out.app hb (gb_trans (World.grownBy_alloc _ _ _) hgr) hown
      have eb : w2.heap[b]? = (w.setCell ⟨b, x, none⟩ (.bool true)).heap[b]? := (gb_trans (World.grownBy_alloc _ _ _) hgr).block b (by simpa [World.setCell] using hbl) (fun e => by have := (World.ownsRow.lt H1.out.own b e.symm).1; omega)
      have k1 : w2.cell? ⟨b, 201, none⟩ = some v := (World.cell?_of_block (a := ⟨b, 201, none⟩) eb).trans hl1
      have k2 : w2.frozen? ⟨b, 201, none⟩ = false := (World.frozen?_of_block (a := ⟨b, 201, none⟩) eb).trans hf1
      have hs2 : w.heap.size ≤ w2.heap.size := by have := (gb_trans (World.grownBy_alloc _ _ _) hgr).size; simpa [World.setCell] using this
      have HB : Hid (Below b w w2) := ((Below.refl b w).setCell (Nat.le_refl _) _).grown (gb_trans (World.grownBy_alloc _ _ _) hgr) (by simp [World.setCell]; omega) (fun y hy => by have := (World.ownsRow.lt H1.out.own y hy).1; omega)
      have hb2 : b < w2.heap.size := by omega
      clear hown hgr hl1 hf1 eb
      go_wp2
      refine bodyPost_end (v := .tuple #[]) (by simp [results, Try.results64, go_sem]) rfl ⟨rfl, HB.out.setCell (Nat.le_refl _) _, _, HA.out⟩
end Go.Proofs.Ytbgilndohccicab
