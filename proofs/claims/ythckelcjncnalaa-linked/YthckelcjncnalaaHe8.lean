import Derived.Test.YthckelcjncnalaaHe7
namespace Go.Proofs.Ythckelcjncnalaa
open Go.RowKit

set_option maxRecDepth 20000 in
set_option maxHeartbeats 1000000 in
theorem plink_any (hb : Nat) (sv : SV) (sz : Int) (p : PH) (base : Nat) (vs : List (Int × SV)) (cs : List (Int × List (Int × Int))) (w : World) (h : HP w hb sv sz p.R p.K p.N p.F) (hv : Cls w base (.slice sv.a sv.n sv.c) vs cs)
    (hP : Pw p) (h6 : ∀ c ∈ cs, c.2.length ≤ 6) (root name fr : Int) :
    Calls Try.prog 57 #[.pointer (some ⟨hb, 0, none⟩), .int .i64 root, .int .u8 name, .int .i64 fr] w (POp hb sv sz (plinkD cs p root name fr) (frf (ffind cs p.R p.K root name) fr).e w) := by
  have hbl := h.lt
  have C := findRef_any hb sv sz p.R p.K p.N p.F base vs cs w h hv hP.root root name fr
  have HH : Hid (HP w hb sv sz p.R p.K p.N p.F) := h
  have hbd := ffind_bd (K := p.K) (root := root) (letter := name) hP.root h6
  unfold POp
  by_cases h0 : (frf (ffind cs p.R p.K root name) fr).e = 0
  · obtain ⟨ht, hfe, _, hff⟩ := frf_e0 h0
    have e1 : plinkD cs p root name fr = { p with F := set2 p.F (ffind cs p.R p.K root name).n (ffind cs p.R p.K root name).i (p.R fr.toNat) } := by unfold plinkD; rw [if_pos h0]
    rw [e1, hff]
    rw [hff] at C
    have hbd' := hbd hfe
    obtain ⟨n, i, k, x, hf⟩ : ∃ n i k x, ffind cs p.R p.K root name = ⟨n, i, k, x⟩ := ⟨_, _, _, _, rfl⟩
    rw [hf] at hfe hbd' C ⊢
    simp only [] at hfe hbd' ⊢
    subst hfe
    obtain ⟨hn0, hn, hi⟩ := hbd'
    obtain ⟨q, rfl, hq⟩ := rtB_nat ht
    rw [Int.toNat_natCast]
    have cn := h.ref n i hn hi
    have cq := h.root q hq
    have fn := h.frz (10 + n * 13 + 7 + i)
    have hnb : (0 : Int) ≤ (n : Int) ∧ (n : Int) < 201 := by omega
    have hib : (0 : Int) ≤ (i : Int) ∧ (i : Int) < 6 := by omega
    have hqb : (0 : Int) ≤ (q : Int) ∧ (q : Int) < 8 := by omega
    clear h0 hff e1 hf hbd h
    go_enter Try.func57, Try.ntmps57
    go_wp2_with fail
    refine C.mono ?_
    rintro e w1 ⟨rfl, B1⟩
    have cn1 : w1.cell? ⟨hb, 10 + n * 13 + 7 + i, none⟩ = some (.int .i64 (p.F n i)) := (B1.cell (by exact hbl)).trans cn
    have cq1 : w1.cell? ⟨hb, 2 + q, none⟩ = some (.int .i64 (p.R q)) := (B1.cell (by exact hbl)).trans cq
    have fn1 : w1.frozen? ⟨hb, 10 + n * 13 + 7 + i, none⟩ = false := (B1.frozen (by exact hbl)).trans fn
    have hb1 : hb < w1.heap.size := Nat.lt_of_lt_of_le hbl B1.size
    have HH1 : Hid (HP w1 hb sv sz p.R p.K p.N p.F) := HH.out.below B1
    have HB1 : Hid (Below w.heap.size w w1) := B1
    have hs1 := B1.size
    clear C cn cq fn B1
    simp only []
    go_wp2
    refine stillTail 16 rfl (by kernel_rfl) ?_
    simp only [List.take_succ_cons, List.take_zero, List.drop_succ_cons, List.drop_zero]
    repeat still_step
    refine wpStill_nil ?_
    go_wp2
    go_ret
    refine ⟨rfl, ?_, ?_⟩
    · with_reducible repeat first | exact HH1.out | exact HP.setRef HH1.out hn hi _ | apply HP.drew | apply HP.alloc
    · with_reducible repeat first | exact gb_below HB1.out _ | apply gb_drewW | apply gb_alloc | apply gb_setB
  · have e1 : plinkD cs p root name fr = p := by unfold plinkD; rw [if_neg h0]
    rw [e1]
    have e2 := frf_no h0
    obtain ⟨y, hy⟩ : ∃ y, y = (frf (ffind cs p.R p.K root name) fr).e := ⟨_, rfl⟩
    rw [← hy] at e2 h0 ⊢
    rw [e2] at C
    have hy' : (y == 0) = false := by simpa using h0
    have hy'' : (y != 0) = true := by simpa using h0
    clear e2 hy h e1 hbd
    go_enter Try.func57, Try.ntmps57
    go_wp2_with fail
    refine C.mono ?_
    rintro e w1 ⟨rfl, B1⟩
    clear C
    simp only []
    go_wp2
    go_ret
    exact ⟨rfl, (HH.out.below B1).alloc _, gb_alloc (gb_below B1 _) _⟩

/-! What is there: the local variable of 202 cells: 201 marks, and the list. -/
def rarr (S : Nat → Bool) (v : Value) : Array Value := ((List.range 201).map (fun i => Value.bool (S i)) ++ [v]).toArray
theorem rarr_size (S : Nat → Bool) (v : Value) : (rarr S v).size = 202 := by simp [rarr]
theorem rarr_lt (S : Nat → Bool) (v : Value) {x : Nat} (h : x < 201) : (rarr S v)[x]? = some (.bool (S x)) := by
  unfold rarr
  rw [List.getElem?_toArray, List.getElem?_append_left (by simpa using h), List.getElem?_map, List.getElem?_range h]
  rfl
theorem rarr_last (S : Nat → Bool) (v : Value) : (rarr S v)[201]? = some v := by
  unfold rarr
  rw [List.getElem?_toArray, List.getElem?_append_right (by simp)]
  simp
theorem rarr_out (S : Nat → Bool) (v : Value) {x : Nat} (h : 201 < x) : (rarr S v)[x]? = none := by
  rw [Array.getElem?_eq_none]; rw [rarr_size]; omega
theorem rarr_set (S : Nat → Bool) (v : Value) {x : Nat} (h : x < 201) : (rarr S v).setIfInBounds x (.bool true) = rarr (set1 S x true) v := by
  apply Array.ext_getElem?
  intro i
  rw [Array.getElem?_setIfInBounds, rarr_size]
  by_cases e : x = i
  · subst e
    rw [if_pos rfl, if_pos (by omega), rarr_lt _ _ h, set1_self]
  · rw [if_neg e]
    rcases Nat.lt_trichotomy i 201 with h' | h' | h'
    · rw [rarr_lt _ _ h', rarr_lt _ _ h', set1_ne _ _ (Ne.symm e)]
    · subst h'; rw [rarr_last, rarr_last]
    · rw [rarr_out _ _ h', rarr_out _ _ h']
theorem rarr_setv (S : Nat → Bool) (v v' : Value) : (rarr S v).setIfInBounds 201 v' = rarr S v' := by
  apply Array.ext_getElem?
  intro i
  rw [Array.getElem?_setIfInBounds, rarr_size]
  by_cases e : 201 = i
  · subst e
    rw [if_pos rfl, if_pos (by omega), rarr_last]
  · rw [if_neg e]
    rcases Nat.lt_trichotomy i 201 with h' | h' | h'
    · rw [rarr_lt _ _ h', rarr_lt _ _ h']
    · exact absurd h'.symm e
    · rw [rarr_out _ _ h', rarr_out _ _ h']
structure RB (w : World) (b : Nat) (S : Nat → Bool) (v : Value) (L : List Nat) (base : Nat) : Prop where
  blk : w.heap[b]? = some (.cells (rarr S v) 85 (0, 0))
  own : w.ownsRow base 3 1 v L.length (L.map fun (x : Nat) => Value.int .i64 (x : Int))
theorem RB.c {w : World} {b : Nat} {S : Nat → Bool} {v : Value} {L : List Nat} {base : Nat} (h : RB w b S v L base) : ∀ x, x < 201 → w.cell? ⟨b, x, none⟩ = some (.bool (S x)) := fun x hx => (cell_of_row w b x _ _ _ h.blk).trans (rarr_lt S v hx)
theorem RB.l {w : World} {b : Nat} {S : Nat → Bool} {v : Value} {L : List Nat} {base : Nat} (h : RB w b S v L base) : w.cell? ⟨b, 201, none⟩ = some v := (cell_of_row w b 201 _ _ _ h.blk).trans (rarr_last S v)
theorem RB.f {w : World} {b : Nat} {S : Nat → Bool} {v : Value} {L : List Nat} {base : Nat} (h : RB w b S v L base) : ∀ o, w.frozen? ⟨b, o, none⟩ = false := fun o => frozen_of_row w b o _ _ h.blk
theorem RB.lt {w : World} {b : Nat} {S : Nat → Bool} {v : Value} {L : List Nat} {base : Nat} (h : RB w b S v L base) : b < w.heap.size := World.block_lt_of_cell? w ⟨b, 201, none⟩ h.l
set_option maxRecDepth 20000 in
set_option maxHeartbeats 1000000 in
theorem free_any (b : Nat) (S : Nat → Bool) (v : Value) (L : List Nat) (base : Nat) (w : World) (h : RB w b S v L base) :
    Calls Try.prog 36 #[.pointer (some ⟨b, 0, none⟩)] w fun e w' => w' = w ∧ ∃ a : Nat, e = .returned (.int .i64 a) ∧ ((a = 0 ∧ ∀ x, 0 < x → x < 201 → S x = true) ∨ (0 < a ∧ a < 201 ∧ S a = false)) := by
  have hbl := h.lt
  have HC : Hid (∀ x, x < 201 → w.cell? ⟨b, x, none⟩ = some (.bool (S x))) := h.c
  clear h
  go_enter Try.func36, Try.ntmps36
  go_wp2
  go_loopw [3] (fun iv wr => ∃ i : Nat, 0 < i ∧ i ≤ 201 ∧ iv = .int .i64 i ∧ Hid (∀ x, 0 < x → x < i → S x = true) ∧ wr = w) (fun iv _ => 201 - (intOf iv).toNat)
  case atStart => exact ⟨1, by omega, by omega, rfl, fun x h1 h2 => by omega, rfl⟩
  case round =>
    obtain ⟨i, hi0, hi, rfl, HS, rfl⟩ := hrel
    by_cases hlt : i < 201
    · have c := HC.out i hlt
      have hib : (0 : Int) ≤ (i : Int) ∧ (i : Int) < 201 := by omega
      cases hs : S i with
      | true =>
        rw [hs] at c
        have HS2 : Hid (∀ x, 0 < x → x < i + 1 → S x = true) := fun x h1 h2 => by
          rcases Nat.lt_succ_iff_lt_or_eq.1 h2 with h2 | rfl
          · exact HS.out x h1 h2
          · exact hs
        clear hs
        go_wp2
        go_roundw
        case rel => exact ⟨i + 1, by omega, by omega, by go_num, HS2, trivial⟩
        case measure => simp [intOf]; omega
      | false =>
        rw [hs] at c
        have HS2 : Hid (S i = false) := hs
        clear hs
        go_wp2
        go_ret
        exact ⟨rfl, i, rfl, .inr ⟨hi0, hlt, HS2.out⟩⟩
    · have hge : 201 ≤ i := by omega
      clear hlt
      go_wp2
      go_ret
      exact ⟨rfl, 0, rfl, .inl ⟨rfl, fun x h1 h2 => HS.out x h1 (by omega)⟩⟩
end Go.Proofs.Ythckelcjncnalaa
