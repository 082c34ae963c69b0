import Derived.Test.YthckelcjncnalabKz32
namespace Go.Proofs.Ythckelcjncnalab
open Go.RowKit

set_option maxHeartbeats 400000 in
theorem wrap_any (k v : Int) (w : World) (_h1 : -9223372036854775808 ≤ v) (_h2 : v ≤ 9223372036854775807) :
    Calls Try.prog 30 #[.int .u8 k, .int .i64 v] w fun e w' => e = .returned (.int .i64 (wrK k v)) ∧ w' = w := by
  by_cases k1 : k = 98
  · have e : wrK k v = v % 256 := by unfold wrK; rw [if_pos k1]
    rw [e]; subst k1; clear e
    go_enter Try.func30, Try.ntmps30
    go_wp2
    go_ret
    exact ⟨rfl, rfl⟩
  by_cases k2 : k = 104
  · have e : wrK k v = (v + 32768) % 65536 - 32768 := by unfold wrK; rw [if_neg k1, if_pos k2]
    rw [e]; subst k2; clear e k1
    go_enter Try.func30, Try.ntmps30
    go_wp2
    go_ret
    exact ⟨ret_i64 (by rw [wrap_i16]; unfold wrap64; omega), rfl⟩
  by_cases k3 : k = 119
  · have e : wrK k v = (v + 2147483648) % 4294967296 - 2147483648 := by unfold wrK; rw [if_neg k1, if_neg k2, if_pos k3]
    rw [e]; subst k3; clear e k1 k2
    go_enter Try.func30, Try.ntmps30
    go_wp2
    go_ret
    exact ⟨ret_i64 (by unfold wrap64 wrap32; omega), rfl⟩
  · have e : wrK k v = v := by unfold wrK; rw [if_neg k1, if_neg k2, if_neg k3]
    have q1 : (k == 98) = false := by simpa using k1
    have q2 : (k == 104) = false := by simpa using k2
    have q3 : (k == 119) = false := by simpa using k3
    rw [e]; clear e
    go_enter Try.func30, Try.ntmps30
    go_wp2
    go_ret
    exact ⟨rfl, rfl⟩


def GetPost (f : FF) (N : Nat → Nat → Int) (w : World) (e : Ending) (w' : World) : Prop := e = .returned (.tuple #[.int .i64 (if (fnum f).e = 0 then N f.n f.i else 0), .int .i64 (fnum f).e]) ∧ Below w.heap.size w w'

theorem HP.setNum {w : World} {hb : Nat} {sv : SV} {sz : Int} {R : Nat → Nat} {K : Nat → Int} {N : Nat → Nat → Int} {F : Nat → Nat → Nat} (h : HP w hb sv sz R K N F) {n i : Nat} (hn : n < 201) (hi : i < 6) (v : Int) : HP (w.setCell ⟨hb, 10 + n * 13 + 1 + i, none⟩ (.int .i64 v)) hb sv sz R K (set2 N n i v) F := by
  have c0 := h.sch
  have c1 := h.size
  have ne : ∀ o, o ≠ 10 + n * 13 + 1 + i → (w.setCell ⟨hb, 10 + n * 13 + 1 + i, none⟩ (.int .i64 v)).cell? ⟨hb, o, none⟩ = w.cell? ⟨hb, o, none⟩ := by
    intro o ho; exact World.cell?_setCell_other _ _ _ _ (by intro e; injection e with _ e2 _; exact ho e2.symm)
  have e2 : ∀ j, set2 N n i v 201 j = N 201 j := fun j => set2_ne _ _ (by omega)
  refine ⟨?_, ?_, ?_, ?_, ?_, ?_, ?_, ?_, ?_⟩
  · rw [ne _ (by omega)]; exact c0
  · rw [ne _ (by omega)]; exact c1
  · intro a ha; rw [ne _ (by omega)]; exact h.root a ha
  · intro a ha; rw [ne _ (by omega)]; exact h.cls a ha
  · intro a b ha hb'
    by_cases e : a = n ∧ b = i
    · obtain ⟨rfl, rfl⟩ := e
      have := h.num a b ha hb'
      rw [set2_self]
      go_simp
    · rw [ne _ (by omega), h.num a b ha hb']; rw [set2_ne _ _ e]
  · intro a b ha hb'; rw [ne _ (by omega)]; exact h.ref a b ha hb'
  · intro o; have := h.frz o; go_simp
  · rw [ne _ (by omega), e2]; exact h.pend
  · unfold updV; rw [ne _ (by omega), e2, e2, e2, e2]; exact h.upd

theorem HP.drew {w : World} {hb : Nat} {sv : SV} {sz : Int} {R : Nat → Nat} {K : Nat → Int} {N : Nat → Nat → Int} {F : Nat → Nat → Nat} (h : HP w hb sv sz R K N F) : HP w.drew hb sv sz R K N F := h.kept rfl
theorem gb_drewW {a w : World} {row : Option Nat} (h : a.grownBy w row) : a.grownBy w.drew row := ⟨h.os, h.tape, h.output, h.size, h.block⟩
def PutPost (hb : Nat) (sv : SV) (sz : Int) (R : Nat → Nat) (K : Nat → Int) (N : Nat → Nat → Int) (F : Nat → Nat → Nat) (f : FF) (v : Int) (w : World) (e : Ending) (w' : World) : Prop :=
  e = .returned (.int .i64 (fnum f).e) ∧ HP w' hb sv sz R K (if (fnum f).e = 0 then set2 N f.n f.i (wrK f.k v) else N) F ∧ w.grownBy w' (some hb)
set_option maxHeartbeats 1000000 in
theorem put_any (hb : Nat) (sv : SV) (sz : Int) (R : Nat → Nat) (K : Nat → Int) (N : Nat → Nat → Int) (F : Nat → Nat → Nat) (base : Nat) (vs : List (Int × SV)) (cs : List (Int × List (Int × Int))) (w : World) (h : HP w hb sv sz R K N F) (hv : Cls w base (.slice sv.a sv.n sv.c) vs cs)
    (hR : ∀ i, i < 8 → R i < 201) (h6 : ∀ c ∈ cs, c.2.length ≤ 6) (root letter v : Int) (h1 : -9223372036854775808 ≤ v) (h2 : v ≤ 9223372036854775807) :
    Calls Try.prog 14 #[.pointer (some ⟨hb, 0, none⟩), .int .i64 root, .int .u8 letter, .int .i64 v] w (PutPost hb sv sz R K N F (ffind cs R K root letter) v w) := by
  have hbl := h.lt
  have C := findNumber_any hb sv sz R K N F base vs cs w h hv hR root letter
  have hbd := ffind_bd (K := K) (root := root) (letter := letter) hR h6
  obtain ⟨f, hf⟩ : ∃ f, f = ffind cs R K root letter := ⟨_, rfl⟩
  rw [← hf] at C hbd ⊢
  clear hf
  by_cases hx : (fnum f).e = 0
  · obtain ⟨n, i, k, x⟩ := f
    obtain ⟨rfl, hk⟩ : x = 0 ∧ ¬ k = 114 := by
      unfold fnum at hx
      by_cases h0 : x = 0
      · refine ⟨h0, fun hk => ?_⟩
        rw [if_pos h0, if_pos hk] at hx; simp at hx
      · rw [if_neg h0] at hx; exact absurd hx h0
    have ef : fnum ⟨n, i, k, 0⟩ = ⟨n, i, k, 0⟩ := by unfold fnum; rw [if_pos rfl, if_neg hk]
    obtain ⟨hn0, hn, hi⟩ := hbd rfl
    unfold PutPost
    rw [ef] at C ⊢
    rw [if_pos rfl]
    simp only [] at hn hi ⊢
    have cn := h.num n i hn hi
    have hnb : (0 : Int) ≤ (n : Int) ∧ (n : Int) < 201 := by omega
    have hib : (0 : Int) ≤ (i : Int) ∧ (i : Int) < 6 := by omega
    obtain ⟨x, hx2⟩ : ∃ x, x = wrK k v := ⟨_, rfl⟩
    have W : ∀ w : World, Calls Try.prog 30 #[.int .u8 k, .int .i64 v] w fun e w' => e = .returned (.int .i64 x) ∧ w' = w := by
      intro w; rw [hx2]; exact wrap_any k v w h1 h2
    rw [← hx2]
    clear hx2
    go_enter Try.func14, Try.ntmps14
    go_wp2_with fail
    refine C.mono ?_
    rintro e w1 ⟨rfl, B1⟩
    have cn1 : w1.cell? ⟨hb, 10 + n * 13 + 1 + i, none⟩ = some (.int .i64 (N n i)) := (B1.cell (by exact hbl)).trans cn
    have fn1 : w1.frozen? ⟨hb, 10 + n * 13 + 1 + i, none⟩ = false := (B1.frozen (by exact hbl)).trans (h.frz _)
    have hb1 : hb < w1.heap.size := Nat.lt_of_lt_of_le hbl B1.size
    have hs1 := B1.size
    have H1 := h.below B1
    clear C ef hx
    simp only []
    go_wp2
    go_region_with (go_at_call 30; refine (W _).mono ?_; rintro e w' ⟨rfl, rfl⟩)
    all_goals
      go_wp2
      go_ret
      refine ⟨rfl, ?_, ?_⟩
      · with_reducible repeat first | exact H1 | exact HP.setNum H1 hn hi x | apply HP.drew | apply HP.alloc
      · with_reducible repeat first | exact gb_below B1 _ | apply gb_drewW | apply gb_alloc | apply gb_setB
  · unfold PutPost
    obtain ⟨n, i, k, x, hf⟩ : ∃ n i k x, fnum f = ⟨n, i, k, x⟩ := ⟨_, _, _, _, rfl⟩
    rw [hf] at C hx ⊢
    simp only [] at hx ⊢
    rw [if_neg hx]
    have hx' : (x == 0) = false := by simpa using hx
    have hx'' : (x != 0) = true := by simpa using hx
    clear hf hbd
    go_enter Try.func14, Try.ntmps14
    go_wp2_with fail
    refine C.mono ?_
    rintro e w1 ⟨rfl, B1⟩
    clear C
    simp only []
    go_wp2
    go_ret
    exact ⟨rfl, (h.below B1).alloc _, gb_alloc (gb_below B1 _) _⟩
end Go.Proofs.Ythckelcjncnalab
