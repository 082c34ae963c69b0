import Derived.Test.YthckelcjncnalaaHe6
namespace Go.Proofs.Ythckelcjncnalaa
open Go.RowKit

def pfolD (cs : Sch) (p : PH) (root name to : Int) : PH := if (frf (ffind cs p.R p.K root name) to).e = 0 then { p with R := set1 p.R to.toNat (p.F (ffind cs p.R p.K root name).n (ffind cs p.R p.K root name).i) } else p
def plinkD (cs : Sch) (p : PH) (root name fr : Int) : PH := if (frf (ffind cs p.R p.K root name) fr).e = 0 then { p with F := set2 p.F (ffind cs p.R p.K root name).n (ffind cs p.R p.K root name).i (p.R fr.toNat) } else p
theorem frf_e0 {f : FF} {o : Int} (h : (frf f o).e = 0) : rtB o = true ∧ f.e = 0 ∧ f.k = 114 ∧ frf f o = f := by
  unfold frf at h ⊢
  split at h
  · simp at h
  · rename_i h1
    obtain ⟨a, b, c⟩ := fref_e0 h
    exact ⟨by simpa using h1, a, b, by rw [if_neg h1]; exact c⟩
theorem frf_no {f : FF} {o : Int} (h : (frf f o).e ≠ 0) : frf f o = ⟨0, 0, 0, (frf f o).e⟩ := by
  unfold frf fref at h ⊢
  split at h
  · rename_i h1; rw [if_pos h1]
  · rename_i h1; rw [if_neg h1]
    split at h
    · rename_i h2; rw [if_pos h2]
      split at h
      · exact absurd h2 h
      · rename_i h3; rw [if_neg h3]
    · rename_i h2; rw [if_neg h2]
set_option maxRecDepth 20000 in
set_option maxHeartbeats 1000000 in
theorem pfollow_any (hb : Nat) (sv : SV) (sz : Int) (p : PH) (base : Nat) (vs : List (Int × SV)) (cs : List (Int × List (Int × Int))) (w : World) (h : HP w hb sv sz p.R p.K p.N p.F) (hv : Cls w base (.slice sv.a sv.n sv.c) vs cs)
    (hP : Pw p) (h6 : ∀ c ∈ cs, c.2.length ≤ 6) (root name to : Int) :
    Calls Try.prog 49 #[.pointer (some ⟨hb, 0, none⟩), .int .i64 root, .int .u8 name, .int .i64 to] w (POp hb sv sz (pfolD cs p root name to) (frf (ffind cs p.R p.K root name) to).e w) := by
  have hbl := h.lt
  have C := findRef_any hb sv sz p.R p.K p.N p.F base vs cs w h hv hP.root root name to
  have HH : Hid (HP w hb sv sz p.R p.K p.N p.F) := h
  have hbd := ffind_bd (K := p.K) (root := root) (letter := name) hP.root h6
  unfold POp
  by_cases h0 : (frf (ffind cs p.R p.K root name) to).e = 0
  · obtain ⟨ht, hfe, _, hff⟩ := frf_e0 h0
    have e1 : pfolD cs p root name to = { p with R := set1 p.R to.toNat (p.F (ffind cs p.R p.K root name).n (ffind cs p.R p.K root name).i) } := by unfold pfolD; rw [if_pos h0]
    rw [e1, hff]
    rw [hff] at C
    have hbd' := hbd hfe
    obtain ⟨n, i, k, x, hf⟩ : ∃ n i k x, ffind cs p.R p.K root name = ⟨n, i, k, x⟩ := ⟨_, _, _, _, rfl⟩
    rw [hf] at hfe hbd' C ⊢
    simp only [] at hfe hbd' ⊢
    subst hfe
    obtain ⟨hn0, hn, hi⟩ := hbd'
    obtain ⟨q, rfl, hq⟩ := rtB_nat ht
    rw [Int.toNat_natCast]
    have cn := h.ref n i hn hi
    have cq := h.root q hq
    have fq := h.frz (2 + q)
    have hnb : (0 : Int) ≤ (n : Int) ∧ (n : Int) < 201 := by omega
    have hib : (0 : Int) ≤ (i : Int) ∧ (i : Int) < 6 := by omega
    have hqb : (0 : Int) ≤ (q : Int) ∧ (q : Int) < 8 := by omega
    clear h0 hff e1 hf hbd h
    go_enter Try.func49, Try.ntmps49
    go_wp2_with fail
    refine C.mono ?_
    rintro e w1 ⟨rfl, B1⟩
    have cn1 : w1.cell? ⟨hb, 10 + n * 13 + 7 + i, none⟩ = some (.int .i64 (p.F n i)) := (B1.cell (by exact hbl)).trans cn
    have cq1 : w1.cell? ⟨hb, 2 + q, none⟩ = some (.int .i64 (p.R q)) := (B1.cell (by exact hbl)).trans cq
    have fq1 : w1.frozen? ⟨hb, 2 + q, none⟩ = false := (B1.frozen (by exact hbl)).trans fq
    have hb1 : hb < w1.heap.size := Nat.lt_of_lt_of_le hbl B1.size
    have HH1 : Hid (HP w1 hb sv sz p.R p.K p.N p.F) := HH.out.below B1
    have HB1 : Hid (Below w.heap.size w w1) := B1
    have hs1 := B1.size
    clear C cn cq fq B1
    simp only []
    go_wp2
    refine stillTail 16 rfl (by kernel_rfl) ?_
    simp only [List.take_succ_cons, List.take_zero, List.drop_succ_cons, List.drop_zero]
    repeat still_step
    refine wpStill_nil ?_
    go_wp2
    go_ret
    refine ⟨rfl, ?_, ?_⟩
    · with_reducible repeat first | exact HH1.out | exact HP.setRoot HH1.out hq _ | apply HP.drew | apply HP.alloc
    · with_reducible repeat first | exact gb_below HB1.out _ | apply gb_drewW | apply gb_alloc | apply gb_setB
  · have e1 : pfolD cs p root name to = p := by unfold pfolD; rw [if_neg h0]
    rw [e1]
    have e2 := frf_no h0
    obtain ⟨y, hy⟩ : ∃ y, y = (frf (ffind cs p.R p.K root name) to).e := ⟨_, rfl⟩
    rw [← hy] at e2 h0 ⊢
    rw [e2] at C
    have hy' : (y == 0) = false := by simpa using h0
    have hy'' : (y != 0) = true := by simpa using h0
    clear e2 hy h e1 hbd
    go_enter Try.func49, Try.ntmps49
    go_wp2_with fail
    refine C.mono ?_
    rintro e w1 ⟨rfl, B1⟩
    clear C
    simp only []
    go_wp2
    go_ret
    exact ⟨rfl, (HH.out.below B1).alloc _, gb_alloc (gb_below B1 _) _⟩
end Go.Proofs.Ythckelcjncnalaa
