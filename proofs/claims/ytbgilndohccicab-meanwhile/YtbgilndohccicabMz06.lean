import Derived.Test.YtbgilndohccicabMz05
import Derived.StillTailTactics
namespace Go.Proofs.Ytbgilndohccicab
open Go.RowKit

set_option maxHeartbeats 400000 in
theorem wrap_any (k v : Int) (w : World) (_h1 : -9223372036854775808 ≤ v) (_h2 : v ≤ 9223372036854775807) :
    Calls Try.prog 40 #[.int .u8 k, .int .i64 v] w fun e w' => e = .returned (.int .i64 (wrK k v)) ∧ w' = w := by
  by_cases k1 : k = 98
  · have e : wrK k v = v % 256 := by unfold wrK; rw [if_pos k1]
    rw [e]; subst k1; clear e
    go_enter Try.func40, Try.ntmps40
    go_wp2
    go_ret
    exact ⟨rfl, rfl⟩
  by_cases k2 : k = 104
  · have e : wrK k v = (v + 32768) % 65536 - 32768 := by unfold wrK; rw [if_neg k1, if_pos k2]
    rw [e]; subst k2; clear e k1
    go_enter Try.func40, Try.ntmps40
    go_wp2
    go_ret
    exact ⟨ret_i64 (by rw [wrap_i16]; unfold wrap64; omega), rfl⟩
  by_cases k3 : k = 119
  · have e : wrK k v = (v + 2147483648) % 4294967296 - 2147483648 := by unfold wrK; rw [if_neg k1, if_neg k2, if_pos k3]
    rw [e]; subst k3; clear e k1 k2
    go_enter Try.func40, Try.ntmps40
    go_wp2
    go_ret
    exact ⟨ret_i64 (by unfold wrap64 wrap32; omega), rfl⟩
  · have e : wrK k v = v := by unfold wrK; rw [if_neg k1, if_neg k2, if_neg k3]
    have q1 : (k == 98) = false := by simpa using k1
    have q2 : (k == 104) = false := by simpa using k2
    have q3 : (k == 119) = false := by simpa using k3
    rw [e]; clear e
    go_enter Try.func40, Try.ntmps40
    go_wp2
    go_ret
    exact ⟨rfl, rfl⟩


def GetPost (f : FF) (N : Nat → Nat → Int) (w : World) (e : Ending) (w' : World) : Prop := e = .returned (.tuple #[.int .i64 (if (fnum f).e = 0 then N f.n f.i else 0), .int .i64 (fnum f).e]) ∧ Below w.heap.size w w'

set_option maxHeartbeats 1000000 in
theorem get_any (hb : Nat) (sv : SV) (sz : Int) (R : Nat → Nat) (K : Nat → Int) (N : Nat → Nat → Int) (F : Nat → Nat → Nat) (base : Nat) (vs : List (Int × SV)) (cs : List (Int × List (Int × Int))) (w : World) (h : HP w hb sv sz R K N F) (hv : Cls w base (.slice sv.a sv.n sv.c) vs cs)
    (hR : ∀ i, i < 8 → R i < 201) (h6 : ∀ c ∈ cs, c.2.length ≤ 6) (root letter : Int) :
    Calls Try.prog 54 #[.pointer (some ⟨hb, 0, none⟩), .int .i64 root, .int .u8 letter] w (GetPost (ffind cs R K root letter) N w) := by
  have hbl := h.lt
  have C := findNumber_any hb sv sz R K N F base vs cs w h hv hR root letter
  have hbd := ffind_bd (K := K) (root := root) (letter := letter) hR h6
  obtain ⟨f, hf⟩ : ∃ f, f = ffind cs R K root letter := ⟨_, rfl⟩
  rw [← hf] at C hbd ⊢
  clear hf
  by_cases hx : (fnum f).e = 0
  · obtain ⟨n, i, k, x⟩ := f
    obtain ⟨rfl, hk⟩ : x = 0 ∧ ¬ k = 114 := by
      unfold fnum at hx
      by_cases h0 : x = 0
      · refine ⟨h0, fun hk => ?_⟩
        rw [if_pos h0, if_pos hk] at hx; simp at hx
      · rw [if_neg h0] at hx; exact absurd hx h0
    have ef : fnum ⟨n, i, k, 0⟩ = ⟨n, i, k, 0⟩ := by unfold fnum; rw [if_pos rfl, if_neg hk]
    obtain ⟨hn0, hn, hi⟩ := hbd rfl
    unfold GetPost
    rw [ef] at C ⊢
    rw [if_pos rfl]
    have cn := h.num n i hn hi
    have hnb : (0 : Int) ≤ (n : Int) ∧ (n : Int) < 201 := by simp only [] at hn; omega
    have hib : (0 : Int) ≤ (i : Int) ∧ (i : Int) < 6 := by simp only [] at hi; omega
    simp only [] at cn ⊢
    go_enter Try.func54, Try.ntmps54
    go_wp2_with fail
    refine C.mono ?_
    rintro e w1 ⟨rfl, B1⟩
    have cn1 : w1.cell? ⟨hb, 10 + n * 13 + 1 + i, none⟩ = some (.int .i64 (N n i)) := (B1.cell (by exact hbl)).trans cn
    have hb1 : hb < w1.heap.size := Nat.lt_of_lt_of_le hbl B1.size
    have hs1 := B1.size
    clear C ef hx
    simp only []
    go_wp2
    go_quiet (fail)
    go_wp2
    go_ret2
    exact ⟨rfl, (B1.alloc B1.size _).trans ((gb_below_drewN _ _).mono (by simp; omega))⟩
  · unfold GetPost
    obtain ⟨n, i, k, x, hf⟩ : ∃ n i k x, fnum f = ⟨n, i, k, x⟩ := ⟨_, _, _, _, rfl⟩
    rw [hf] at C hx ⊢
    simp only [] at hx ⊢
    rw [if_neg hx]
    have hx' : (x == 0) = false := by simpa using hx
    have hx'' : (x != 0) = true := by simpa using hx
    clear hf hbd
    go_enter Try.func54, Try.ntmps54
    go_wp2_with fail
    refine C.mono ?_
    rintro e w1 ⟨rfl, B1⟩
    clear C
    simp only []
    go_wp2
    go_ret2
    exact ⟨rfl, B1.alloc B1.size _⟩

theorem HP.setNum {w : World} {hb : Nat} {sv : SV} {sz : Int} {R : Nat → Nat} {K : Nat → Int} {N : Nat → Nat → Int} {F : Nat → Nat → Nat} (h : HP w hb sv sz R K N F) {n i : Nat} (hn : n < 201) (hi : i < 6) (v : Int) : HP (w.setCell ⟨hb, 10 + n * 13 + 1 + i, none⟩ (.int .i64 v)) hb sv sz R K (set2 N n i v) F := by
  have c0 := h.sch
  have c1 := h.size
  have ne : ∀ o, o ≠ 10 + n * 13 + 1 + i → (w.setCell ⟨hb, 10 + n * 13 + 1 + i, none⟩ (.int .i64 v)).cell? ⟨hb, o, none⟩ = w.cell? ⟨hb, o, none⟩ := by
    intro o ho; exact World.cell?_setCell_other _ _ _ _ (by intro e; injection e with _ e2 _; exact ho e2.symm)
  have e2 : ∀ j, set2 N n i v 201 j = N 201 j := fun j => set2_ne _ _ (by omega)
  refine ⟨?_, ?_, ?_, ?_, ?_, ?_, ?_, ?_, ?_⟩
  · rw [ne _ (by omega)]; exact c0
  · rw [ne _ (by omega)]; exact c1
  · intro a ha; rw [ne _ (by omega)]; exact h.root a ha
  · intro a ha; rw [ne _ (by omega)]; exact h.cls a ha
  · intro a b ha hb'
    by_cases e : a = n ∧ b = i
    · obtain ⟨rfl, rfl⟩ := e
      have := h.num a b ha hb'
      rw [set2_self]
      go_simp
    · rw [ne _ (by omega), h.num a b ha hb']; rw [set2_ne _ _ e]
  · intro a b ha hb'; rw [ne _ (by omega)]; exact h.ref a b ha hb'
  · intro o; have := h.frz o; go_simp
  · rw [ne _ (by omega), e2]; exact h.pend
  · unfold updV; rw [ne _ (by omega), e2, e2, e2, e2]; exact h.upd

theorem HP.drew {w : World} {hb : Nat} {sv : SV} {sz : Int} {R : Nat → Nat} {K : Nat → Int} {N : Nat → Nat → Int} {F : Nat → Nat → Nat} (h : HP w hb sv sz R K N F) : HP w.drew hb sv sz R K N F := h.kept rfl
theorem gb_drewW {a w : World} {row : Option Nat} (h : a.grownBy w row) : a.grownBy w.drew row := ⟨h.os, h.tape, h.output, h.size, h.block⟩
def PutPost (hb : Nat) (sv : SV) (sz : Int) (R : Nat → Nat) (K : Nat → Int) (N : Nat → Nat → Int) (F : Nat → Nat → Nat) (f : FF) (v : Int) (w : World) (e : Ending) (w' : World) : Prop :=
  e = .returned (.int .i64 (fnum f).e) ∧ HP w' hb sv sz R K (if (fnum f).e = 0 then set2 N f.n f.i (wrK f.k v) else N) F ∧ w.grownBy w' (some hb)
set_option maxHeartbeats 1000000 in
theorem put_any (hb : Nat) (sv : SV) (sz : Int) (R : Nat → Nat) (K : Nat → Int) (N : Nat → Nat → Int) (F : Nat → Nat → Nat) (base : Nat) (vs : List (Int × SV)) (cs : List (Int × List (Int × Int))) (w : World) (h : HP w hb sv sz R K N F) (hv : Cls w base (.slice sv.a sv.n sv.c) vs cs)
    (hR : ∀ i, i < 8 → R i < 201) (h6 : ∀ c ∈ cs, c.2.length ≤ 6) (root letter v : Int) (h1 : -9223372036854775808 ≤ v) (h2 : v ≤ 9223372036854775807) :
    Calls Try.prog 15 #[.pointer (some ⟨hb, 0, none⟩), .int .i64 root, .int .u8 letter, .int .i64 v] w (PutPost hb sv sz R K N F (ffind cs R K root letter) v w) := by
  have hbl := h.lt
  have C := findNumber_any hb sv sz R K N F base vs cs w h hv hR root letter
  have hbd := ffind_bd (K := K) (root := root) (letter := letter) hR h6
  obtain ⟨f, hf⟩ : ∃ f, f = ffind cs R K root letter := ⟨_, rfl⟩
  rw [← hf] at C hbd ⊢
  clear hf
  by_cases hx : (fnum f).e = 0
  · obtain ⟨n, i, k, x⟩ := f
    obtain ⟨rfl, hk⟩ : x = 0 ∧ ¬ k = 114 := by
      unfold fnum at hx
      by_cases h0 : x = 0
      · refine ⟨h0, fun hk => ?_⟩
        rw [if_pos h0, if_pos hk] at hx; simp at hx
      · rw [if_neg h0] at hx; exact absurd hx h0
    have ef : fnum ⟨n, i, k, 0⟩ = ⟨n, i, k, 0⟩ := by unfold fnum; rw [if_pos rfl, if_neg hk]
    obtain ⟨hn0, hn, hi⟩ := hbd rfl
    unfold PutPost
    rw [ef] at C ⊢
    rw [if_pos rfl]
    simp only [] at hn hi ⊢
    have cn := h.num n i hn hi
    have hnb : (0 : Int) ≤ (n : Int) ∧ (n : Int) < 201 := by omega
    have hib : (0 : Int) ≤ (i : Int) ∧ (i : Int) < 6 := by omega
    obtain ⟨x, hx2⟩ : ∃ x, x = wrK k v := ⟨_, rfl⟩
    have W : ∀ w : World, Calls Try.prog 40 #[.int .u8 k, .int .i64 v] w fun e w' => e = .returned (.int .i64 x) ∧ w' = w := by
      intro w; rw [hx2]; exact wrap_any k v w h1 h2
    rw [← hx2]
    clear hx2
    go_enter Try.func15, Try.ntmps15
    go_wp2_with fail
    refine C.mono ?_
    rintro e w1 ⟨rfl, B1⟩
    have cn1 : w1.cell? ⟨hb, 10 + n * 13 + 1 + i, none⟩ = some (.int .i64 (N n i)) := (B1.cell (by exact hbl)).trans cn
    have fn1 : w1.frozen? ⟨hb, 10 + n * 13 + 1 + i, none⟩ = false := (B1.frozen (by exact hbl)).trans (h.frz _)
    have hb1 : hb < w1.heap.size := Nat.lt_of_lt_of_le hbl B1.size
    have hs1 := B1.size
    have H1 := h.below B1
    clear C ef hx
    simp only []
    go_wp2
    go_region_with (go_at_call 40; refine (W _).mono ?_; rintro e w' ⟨rfl, rfl⟩)
    all_goals
      go_wp2
      go_ret
      refine ⟨rfl, ?_, ?_⟩
      · with_reducible repeat first | exact H1 | exact HP.setNum H1 hn hi x | apply HP.drew | apply HP.alloc
      · with_reducible repeat first | exact gb_below B1 _ | apply gb_drewW | apply gb_alloc | apply gb_setB
  · unfold PutPost
    obtain ⟨n, i, k, x, hf⟩ : ∃ n i k x, fnum f = ⟨n, i, k, x⟩ := ⟨_, _, _, _, rfl⟩
    rw [hf] at C hx ⊢
    simp only [] at hx ⊢
    rw [if_neg hx]
    have hx' : (x == 0) = false := by simpa using hx
    have hx'' : (x != 0) = true := by simpa using hx
    clear hf hbd
    go_enter Try.func15, Try.ntmps15
    go_wp2_with fail
    refine C.mono ?_
    rintro e w1 ⟨rfl, B1⟩
    clear C
    simp only []
    go_wp2
    go_ret
    exact ⟨rfl, (h.below B1).alloc _, gb_alloc (gb_below B1 _) _⟩
end Go.Proofs.Ytbgilndohccicab
namespace Go.Proofs.Ytbgilndohccicab
open Go.RowKit

theorem stillTail {P : Program} {id : Nat} {Q : Exit → Act → World → Prop} {a : Act} {w : World} {l : List Oper} (n : Nat) (hm : P.follows .mixedOrders = true) (hB : Region.lexTailB .any l.toArray n = true)
    (h : wpStill P l.toArray w.drew (fun a' => wpList P l.toArray Q (l.drop n) a' w.drew) (l.take n) a) : (Code.region id l.toArray true).wp P Q a w := wp_region_still_tail n hm hB h
theorem HP.setRoot {w : World} {hb : Nat} {sv : SV} {sz : Int} {R : Nat → Nat} {K : Nat → Int} {N : Nat → Nat → Int} {F : Nat → Nat → Nat} (h : HP w hb sv sz R K N F) {i : Nat} (hi : i < 8) (y : Nat) : HP (w.setCell ⟨hb, 2 + i, none⟩ (.int .i64 y)) hb sv sz (set1 R i y) K N F := by
  have ne : ∀ o, o ≠ 2 + i → (w.setCell ⟨hb, 2 + i, none⟩ (.int .i64 y)).cell? ⟨hb, o, none⟩ = w.cell? ⟨hb, o, none⟩ := by
    intro o ho; exact World.cell?_setCell_other _ _ _ _ (by intro e; injection e with _ e2 _; exact ho e2.symm)
  refine ⟨by rw [ne _ (by omega)]; exact h.sch, by rw [ne _ (by omega)]; exact h.size, fun a ha => ?_, fun a ha => by rw [ne _ (by omega)]; exact h.cls a ha, fun a b ha hb' => by rw [ne _ (by omega)]; exact h.num a b ha hb', fun a b ha hb' => by rw [ne _ (by omega)]; exact h.ref a b ha hb', fun o => by have := h.frz o; go_simp, by rw [ne _ (by omega)]; exact h.pend, by rw [ne _ (by omega)]; exact h.upd⟩
  by_cases e : a = i
  · subst e
    have := h.root a ha
    rw [set1_self]
    go_simp
  · rw [ne _ (by omega), set1_ne _ _ e]; exact h.root a ha
theorem HP.setRef {w : World} {hb : Nat} {sv : SV} {sz : Int} {R : Nat → Nat} {K : Nat → Int} {N : Nat → Nat → Int} {F : Nat → Nat → Nat} (h : HP w hb sv sz R K N F) {n i : Nat} (hn : n < 201) (hi : i < 6) (y : Nat) : HP (w.setCell ⟨hb, 10 + n * 13 + 7 + i, none⟩ (.int .i64 y)) hb sv sz R K N (set2 F n i y) := by
  have ne : ∀ o, o ≠ 10 + n * 13 + 7 + i → (w.setCell ⟨hb, 10 + n * 13 + 7 + i, none⟩ (.int .i64 y)).cell? ⟨hb, o, none⟩ = w.cell? ⟨hb, o, none⟩ := by
    intro o ho; exact World.cell?_setCell_other _ _ _ _ (by intro e; injection e with _ e2 _; exact ho e2.symm)
  refine ⟨by rw [ne _ (by omega)]; exact h.sch, by rw [ne _ (by omega)]; exact h.size, fun a ha => by rw [ne _ (by omega)]; exact h.root a ha, fun a ha => by rw [ne _ (by omega)]; exact h.cls a ha, fun a b ha hb' => by rw [ne _ (by omega)]; exact h.num a b ha hb', fun a b ha hb' => ?_, fun o => by have := h.frz o; go_simp, by rw [ne _ (by omega)]; exact h.pend, by rw [ne _ (by omega)]; exact h.upd⟩
  by_cases e : a = n ∧ b = i
  · obtain ⟨rfl, rfl⟩ := e
    have := h.ref a b ha hb'
    rw [set2_self]
    go_simp
  · rw [ne _ (by omega), set2_ne _ _ e]; exact h.ref a b ha hb'
def POp (hb : Nat) (sv : SV) (sz : Int) (p' : PH) (e0 : Int) (w : World) (e : Ending) (w' : World) : Prop :=
  e = .returned (.int .i64 e0) ∧ HP w' hb sv sz p'.R p'.K p'.N p'.F ∧ w.grownBy w' (some hb)
def pE2 (a b : Int) : Int := if rtB a = true ∧ rtB b = true then 0 else 8
def pcopyD (p : PH) (a b : Int) : PH := if rtB a = true ∧ rtB b = true then { p with R := set1 p.R b.toNat (p.R a.toNat) } else p
set_option maxRecDepth 20000 in
set_option maxHeartbeats 1000000 in
theorem pcopy_any (hb : Nat) (sv : SV) (sz : Int) (p : PH) (w : World) (h : HP w hb sv sz p.R p.K p.N p.F) (a b : Int) :
    Calls Try.prog 50 #[.pointer (some ⟨hb, 0, none⟩), .int .i64 a, .int .i64 b] w (POp hb sv sz (pcopyD p a b) (pE2 a b) w) := by
  have hbl := h.lt
  have HH : Hid (HP w hb sv sz p.R p.K p.N p.F) := h
  unfold POp
  cases ha : rtB a with
  | false =>
    have e1 : pcopyD p a b = p := by unfold pcopyD; rw [if_neg (by rw [ha]; simp)]
    have e2 : pE2 a b = 8 := by unfold pE2; rw [if_neg (by rw [ha]; simp)]
    rw [e1, e2]
    clear h e1 e2
    go_enter Try.func50, Try.ntmps50
    go_wp2_with fail
    refine (isRoot_rs (x := a) false ha).mono ?_
    rintro e w' ⟨rfl, rfl⟩
    go_wp2
    go_ret
    exact ⟨rfl, HH.out, gb_drewN _ 0 _⟩
  | true =>
    cases hb' : rtB b with
    | false =>
      have e1 : pcopyD p a b = p := by unfold pcopyD; rw [if_neg (by rw [hb']; simp)]
      have e2 : pE2 a b = 8 := by unfold pE2; rw [if_neg (by rw [hb']; simp)]
      rw [e1, e2]
      clear h e1 e2
      go_enter Try.func50, Try.ntmps50
      go_wp2_with fail
      refine (isRoot_rs (x := a) true ha).mono ?_
      rintro e w' ⟨rfl, rfl⟩
      go_wp2_with fail
      refine (isRoot_rs (x := b) false hb').mono ?_
      rintro e w' ⟨rfl, rfl⟩
      go_wp2
      go_ret
      exact ⟨rfl, HH.out, gb_drewN _ 0 _⟩
    | true =>
      have e1 : pcopyD p a b = { p with R := set1 p.R b.toNat (p.R a.toNat) } := by unfold pcopyD; rw [if_pos ⟨ha, hb'⟩]
      have e2 : pE2 a b = 0 := by unfold pE2; rw [if_pos ⟨ha, hb'⟩]
      rw [e1, e2]
      obtain ⟨i, rfl, hi⟩ := rtB_nat ha
      obtain ⟨j, rfl, hj⟩ := rtB_nat hb'
      rw [Int.toNat_natCast, Int.toNat_natCast]
      have c1 := h.root i hi
      have c2 := h.root j hj
      have f2 := h.frz (2 + j)
      have hib : (0 : Int) ≤ (i : Int) ∧ (i : Int) < 8 := by omega
      have hjb : (0 : Int) ≤ (j : Int) ∧ (j : Int) < 8 := by omega
      clear h e1 e2
      go_enter Try.func50, Try.ntmps50
      go_wp2_with fail
      refine (isRoot_rs (x := i) true ha).mono ?_
      rintro e w' ⟨rfl, rfl⟩
      go_wp2_with fail
      refine (isRoot_rs (x := j) true hb').mono ?_
      rintro e w' ⟨rfl, rfl⟩
      go_wp2
      refine stillTail 11 rfl (by kernel_rfl) ?_
      simp only [List.take_succ_cons, List.take_zero, List.drop_succ_cons, List.drop_zero]
      repeat still_step
      refine wpStill_nil ?_
      go_wp2
      go_ret
      refine ⟨rfl, ?_, ?_⟩
      · exact (HH.out.drew).setRoot hj _
      · exact gb_setB (gb_drewN w' 1 _) (2 + j) _
def pclearD (p : PH) (a : Int) : PH := if rtB a = true then { p with R := set1 p.R a.toNat 0 } else p
def pE1 (a : Int) : Int := if rtB a = true then 0 else 8
set_option maxRecDepth 20000 in
set_option maxHeartbeats 1000000 in
theorem pclear_any (hb : Nat) (sv : SV) (sz : Int) (p : PH) (w : World) (h : HP w hb sv sz p.R p.K p.N p.F) (a : Int) :
    Calls Try.prog 51 #[.pointer (some ⟨hb, 0, none⟩), .int .i64 a] w (POp hb sv sz (pclearD p a) (pE1 a) w) := by
  have hbl := h.lt
  have HH : Hid (HP w hb sv sz p.R p.K p.N p.F) := h
  unfold POp
  cases ha : rtB a with
  | false =>
    have e1 : pclearD p a = p := by unfold pclearD; rw [if_neg (by rw [ha]; simp)]
    have e2 : pE1 a = 8 := by unfold pE1; rw [if_neg (by rw [ha]; simp)]
    rw [e1, e2]
    clear h e1 e2
    go_enter Try.func51, Try.ntmps51
    go_wp2_with fail
    refine (isRoot_rs (x := a) false ha).mono ?_
    rintro e w' ⟨rfl, rfl⟩
    go_wp2
    go_ret
    exact ⟨rfl, HH.out, gb_drewN _ 0 _⟩
  | true =>
    have e1 : pclearD p a = { p with R := set1 p.R a.toNat 0 } := by unfold pclearD; rw [if_pos ha]
    have e2 : pE1 a = 0 := by unfold pE1; rw [if_pos ha]
    rw [e1, e2]
    obtain ⟨i, rfl, hi⟩ := rtB_nat ha
    rw [Int.toNat_natCast]
    have c1 := h.root i hi
    have f1 := h.frz (2 + i)
    have hib : (0 : Int) ≤ (i : Int) ∧ (i : Int) < 8 := by omega
    clear h e1 e2
    go_enter Try.func51, Try.ntmps51
    go_wp2_with fail
    refine (isRoot_rs (x := i) true ha).mono ?_
    rintro e w' ⟨rfl, rfl⟩
    go_wp2
    go_ret
    refine ⟨rfl, ?_, ?_⟩
    · exact HH.out.setRoot hi 0
    · exact gb_setB (gb_drewN w' 0 _) (2 + i) _
def psameI (p : PH) (a b : Int) : Bool := if rtB a = true ∧ rtB b = true then decide (p.R a.toNat = p.R b.toNat) else false
set_option maxRecDepth 20000 in
set_option maxHeartbeats 1000000 in
theorem psame_any (hb : Nat) (sv : SV) (sz : Int) (p : PH) (w : World) (h : HP w hb sv sz p.R p.K p.N p.F) (a b : Int) :
    Calls Try.prog 55 #[.pointer (some ⟨hb, 0, none⟩), .int .i64 a, .int .i64 b] w fun e w' => e = .returned (.tuple #[.bool (psameI p a b), .int .i64 (pE2 a b)]) ∧ Below w.heap.size w w' := by
  have hbl := h.lt
  cases ha : rtB a with
  | false =>
    have e1 : psameI p a b = false := by unfold psameI; rw [if_neg (by rw [ha]; simp)]
    have e2 : pE2 a b = 8 := by unfold pE2; rw [if_neg (by rw [ha]; simp)]
    rw [e1, e2]
    clear h e1 e2
    go_enter Try.func55, Try.ntmps55
    go_wp2_with fail
    refine (isRoot_rs (x := a) false ha).mono ?_
    rintro e w' ⟨rfl, rfl⟩
    go_wp2
    go_ret2
    exact ⟨rfl, Below.refl _ _⟩
  | true =>
    cases hb' : rtB b with
    | false =>
      have e1 : psameI p a b = false := by unfold psameI; rw [if_neg (by rw [hb']; simp)]
      have e2 : pE2 a b = 8 := by unfold pE2; rw [if_neg (by rw [hb']; simp)]
      rw [e1, e2]
      clear h e1 e2
      go_enter Try.func55, Try.ntmps55
      go_wp2_with fail
      refine (isRoot_rs (x := a) true ha).mono ?_
      rintro e w' ⟨rfl, rfl⟩
      go_wp2_with fail
      refine (isRoot_rs (x := b) false hb').mono ?_
      rintro e w' ⟨rfl, rfl⟩
      go_wp2
      go_ret2
      exact ⟨rfl, Below.refl _ _⟩
    | true =>
      have e1 : psameI p a b = decide (p.R a.toNat = p.R b.toNat) := by unfold psameI; rw [if_pos ⟨ha, hb'⟩]
      have e2 : pE2 a b = 0 := by unfold pE2; rw [if_pos ⟨ha, hb'⟩]
      rw [e1, e2]
      obtain ⟨i, rfl, hi⟩ := rtB_nat ha
      obtain ⟨j, rfl, hj⟩ := rtB_nat hb'
      rw [Int.toNat_natCast, Int.toNat_natCast]
      have c1 := h.root i hi
      have c2 := h.root j hj
      have hib : (0 : Int) ≤ (i : Int) ∧ (i : Int) < 8 := by omega
      have hjb : (0 : Int) ≤ (j : Int) ∧ (j : Int) < 8 := by omega
      have hd : ((p.R i : Int) == (p.R j : Int)) = decide (p.R i = p.R j) := by
        by_cases e : p.R i = p.R j
        · simp [e]
        · simp [e]; omega
      rw [← hd]
      clear h e1 e2 hd
      go_enter Try.func55, Try.ntmps55
      go_wp2_with fail
      refine (isRoot_rs (x := i) true ha).mono ?_
      rintro e w' ⟨rfl, rfl⟩
      go_wp2_with fail
      refine (isRoot_rs (x := j) true hb').mono ?_
      rintro e w' ⟨rfl, rfl⟩
      go_wp2
      go_quiet (fail)
      go_wp2
      go_ret2
      exact ⟨rfl, gb_below_drewN _ _⟩
def pclsI (p : PH) (a : Int) : Int × Int := if rtB a = false then (0, 8) else if p.R a.toNat = 0 then (0, 9) else (p.K (p.R a.toNat), 0)
set_option maxRecDepth 20000 in
set_option maxHeartbeats 1000000 in
theorem pclass_any (hb : Nat) (sv : SV) (sz : Int) (p : PH) (w : World) (h : HP w hb sv sz p.R p.K p.N p.F) (hR : ∀ i, i < 8 → p.R i < 201) (a : Int) :
    Calls Try.prog 53 #[.pointer (some ⟨hb, 0, none⟩), .int .i64 a] w fun e w' => e = .returned (.tuple #[.int .u8 (pclsI p a).1, .int .i64 (pclsI p a).2]) ∧ Below w.heap.size w w' := by
  have hbl := h.lt
  have HD := held_any hb sv sz p.R p.K p.N p.F w h a
  unfold pclsI
  by_cases h1 : rtB a = false
  · have e : heldI p.R a = (0, 8) := by unfold heldI; rw [if_pos h1]
    rw [if_pos h1]
    rw [e] at HD
    clear e
    go_enter Try.func53, Try.ntmps53
    go_wp2_with fail
    refine HD.mono ?_
    rintro e w' ⟨rfl, rfl⟩
    simp only []
    go_wp2
    go_ret2
    exact ⟨rfl, Below.refl _ _⟩
  rw [if_neg h1]
  obtain ⟨i, rfl, hi⟩ := rtB_nat (x := a) (by simpa using h1)
  rw [Int.toNat_natCast]
  by_cases h2 : p.R i = 0
  · have e : heldI p.R i = (0, 9) := by unfold heldI; rw [if_neg h1, Int.toNat_natCast, if_pos h2]
    rw [if_pos h2]
    rw [e] at HD
    clear e
    go_enter Try.func53, Try.ntmps53
    go_wp2_with fail
    refine HD.mono ?_
    rintro e w' ⟨rfl, rfl⟩
    simp only []
    go_wp2
    go_ret2
    exact ⟨rfl, Below.refl _ _⟩
  · have e : heldI p.R i = (p.R i, 0) := by unfold heldI; rw [if_neg h1, Int.toNat_natCast, if_neg h2]
    rw [if_neg h2]
    rw [e] at HD
    have hlt := hR i hi
    have ck := h.cls (p.R i) hlt
    have hnb : (0 : Int) ≤ (p.R i : Int) ∧ (p.R i : Int) < 201 := by omega
    clear e h2
    go_enter Try.func53, Try.ntmps53
    go_wp2_with fail
    refine HD.mono ?_
    rintro e w' ⟨rfl, rfl⟩
    simp only []
    go_wp2
    go_ret2
    exact ⟨rfl, Below.refl _ _⟩
end Go.Proofs.Ytbgilndohccicab
