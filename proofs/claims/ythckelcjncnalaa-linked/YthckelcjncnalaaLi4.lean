import Derived.Test.YthckelcjncnalaaLi3
namespace Go.Proofs.Ythckelcjncnalaa
open Go.RowKit

theorem GW.wf {G : GG} (h : GW G) (hn : G.n ≤ 4398046511104) : Wf csL (dh G) := by
  refine ⟨fun i hi => ?_, fun b h0 h1 j f hf hk => ?_, fun b j h0 h1 => ?_⟩
  · have := h.R i hi
    show (G.R i + 1).toNat ≤ G.n
    omega
  · have hb : b - 1 < G.n := by have : b ≤ G.n := h1; omega
    have ha := h.a _ hb
    have hb' := h.b _ hb
    show 0 ≤ (if j = 0 then G.v (b - 1) else if j = 1 then G.a (b - 1) + 1 else if j = 2 then G.b (b - 1) + 1 else 0) ∧ (if j = 0 then G.v (b - 1) else if j = 1 then G.a (b - 1) + 1 else if j = 2 then G.b (b - 1) + 1 else 0) ≤ (G.n : Int)
    by_cases hj : j = 0
    · exfalso
      subst hj
      have hf' : (fof csL (G.c (b - 1)))[0]? = some f := hf
      rcases h.c _ hb with hc | ⟨hc, _⟩ <;> rw [hc] at hf'
      · rw [csL_N] at hf'; simp at hf'; rw [← hf'] at hk; simp at hk
      · rw [csL_Q] at hf'; simp at hf'; rw [← hf'] at hk; simp at hk
    · rw [if_neg hj]
      split
      · omega
      · split <;> omega
  · have hb : b - 1 < G.n := by have : b ≤ G.n := h1; omega
    have ha := h.a _ hb
    have hb' := h.b _ hb
    have hv := h.v _ hb
    show -9223372036854775808 ≤ (if j = 0 then G.v (b - 1) else if j = 1 then G.a (b - 1) + 1 else if j = 2 then G.b (b - 1) + 1 else 0) ∧ (if j = 0 then G.v (b - 1) else if j = 1 then G.a (b - 1) + 1 else if j = 2 then G.b (b - 1) + 1 else 0) ≤ 9223372036854775807
    split
    · exact hv
    · split
      · omega
      · split <;> omega
theorem wof_L {G : GG} (h : GW G) {o : Nat} (ho : o < G.n) : (wof csL ((dh G).K (o + 1)) : Int) = if G.c o = 78 then 4 else 3 := by
  show (wof csL (G.c (o + 1 - 1)) : Int) = _
  rw [Nat.add_sub_cancel]
  rcases h.c o ho with hc | ⟨hc, _⟩ <;> rw [hc] <;> rfl
def CtG (G : GG) (w : World) (e : Ending) (w' : World) : Prop := ∃ T, (∀ o, o < G.n → (T o = true ↔ inG G o)) ∧ e = .returned (.int .i64 (wsum csL (dh G).K T G.n : Nat)) ∧ Below w.heap.size w w'
set_option maxRecDepth 20000 in
set_option maxHeartbeats 1000000 in
theorem gcount_any (gb hb base : Nat) (sz : Int) (nv : Value) (G : GG) (w : World) (h : GP w gb hb sz nv G.R) (hN : ND w base nv G) (hW : GW G) (hn : G.n ≤ 4398046511104) :
    Calls Try.prog 28 #[.pointer (some ⟨gb, 0, none⟩)] w (CtG G w) := by
  have C := gthere_any gb hb base sz nv G w h hN hW hn
  unfold ThG at C
  have hgb := h.lt
  have HH : Hid (GP w gb hb sz nv G.R) := h
  have HW : Hid (GW G) := hW
  obtain ⟨na, nc, hnv⟩ := hN.shape
  subst hnv
  have HND : Hid (ND w base (.slice na G.n nc) G) := hN
  obtain ⟨n, hnn⟩ : ∃ n, n = G.n := ⟨_, rfl⟩
  have HN : Hid (n = G.n) := hnn
  unfold CtG
  rw [← hnn] at C hn
  clear h hW hN hnn
  go_enter Try.func28, Try.ntmps28
  go_wp2_with fail
  refine C.mono ?_
  rintro e w1 ⟨T, rfl, tb, hT, B1⟩
  have HT : Hid (∀ o, o < n → (T o = true ↔ inG G o)) := hT
  clear C hT
  go_wp2
  go_loopw [4, 5] (fun sv iv wr => ∃ i : Nat, i ≤ n ∧ iv = .int .i64 i ∧ sv = .int .i64 (wsum csL (dh G).K T i : Nat) ∧ wr = w1) (fun _ iv _ => n - (intOf iv).toNat)
  case atStart => exact ⟨0, Nat.zero_le _, rfl, rfl, rfl⟩
  case round =>
    obtain ⟨i, hi, rfl, rfl, rfl⟩ := hrel
    have hws : wsum csL (dh G).K T i ≤ 7 * i := wsum_le csL_6 _ _ _
    by_cases hlt : i < n
    · have ti := tb.c i hlt
      have htl := tb.lt
      have hiG : i < G.n := by rw [← HN.out]; exact hlt
      have hib : (0 : Int) ≤ (i : Int) ∧ (i : Int) < (n : Int) := by omega
      cases hTi : T i with
      | true =>
        rw [hTi] at ti
        obtain ⟨ng, hna, hnb, hnl, hnc⟩ := HND.out.cells.2.2 i hiG
        subst hna
        have n0 : wr.cell? ⟨ng, i * 4, none⟩ = some (.int .u8 (G.c i)) := (B1.cell (p := ⟨ng, _, none⟩) hnl).trans hnc.c0
        have g2 : wr.cell? ⟨gb, 2, none⟩ = some (.slice (some ⟨ng, 0, none⟩) n nc) := by
          rw [HN.out]; exact (B1.cell (p := ⟨gb, _, none⟩) hgb).trans HH.out.n
        have hgr : gb < wr.heap.size := Nat.lt_of_lt_of_le hgb B1.size
        have hnr : ng < wr.heap.size := Nat.lt_of_lt_of_le hnl B1.size
        have C2 := gwords_any gb hb sz _ G.R (G.c i) wr (HH.out.below B1)
        obtain ⟨k, hk⟩ : ∃ k : Int, k = if G.c i = 78 then 4 else 3 := ⟨_, rfl⟩
        rw [← hk] at C2
        have hk4 : 0 ≤ k ∧ k ≤ 4 := by rw [hk]; split <;> omega
        have HS : Hid ((wsum csL (dh G).K T (i + 1) : Nat) = (wsum csL (dh G).K T i : Int) + k) := by
          show ((wsum csL (dh G).K T (i + 1) : Nat) : Int) = _
          rw [wsum_succ, if_pos hTi, hk, ← wof_L HW.out hiG]; omega
        obtain ⟨cc, hcc⟩ : ∃ cc, cc = G.c i := ⟨_, rfl⟩
        rw [← hcc] at n0 C2
        clear hk hTi hcc
        go_wp2_with fail
        refine C2.mono ?_
        rintro e w2 ⟨rfl, rfl⟩
        go_wp2
        exact ⟨⟨i + 1, by omega, rfl, by rw [HS.out], trivial⟩, by simp [intOf]; omega⟩
      | false =>
        rw [hTi] at ti
        have HS : Hid ((wsum csL (dh G).K T (i + 1)) = (wsum csL (dh G).K T i)) := by
          show _ = _; rw [wsum_succ, if_neg (by rw [hTi]; decide)]; rfl
        clear hTi
        go_wp2
        exact ⟨⟨i + 1, by omega, rfl, by rw [HS.out], trivial⟩, by simp [intOf]; omega⟩
    · obtain rfl : i = n := by omega
      go_wp2
      go_ret
      exact ⟨T, by rw [← HN.out]; exact HT.out, by rw [← HN.out]; rfl, B1⟩
set_option maxRecDepth 20000 in
set_option maxHeartbeats 1000000 in
theorem grefer_any (gb hb base : Nat) (sz : Int) (nv : Value) (G : GG) (o : Nat) (f : Int) (w : World) (h : GP w gb hb sz nv G.R) (hN : ND w base nv G) (ho : o < G.n) :
    Calls Try.prog 50 #[.pointer (some ⟨gb, 0, none⟩), .int .i64 o, .int .u8 f] w fun e w' => e = .returned (.tuple #[.int .i64 (if f = 97 then G.a o else G.b o), .bool (if f = 97 then true else G.c o == 78)]) ∧ Below w.heap.size w w' := by
  obtain ⟨na, nc, hnv⟩ := hN.shape
  subst hnv
  obtain ⟨ng, hna, hnb, hnl, hnc⟩ := hN.cells.2.2 o ho
  subst hna
  have n0 := hnc.c0
  have n2 := hnc.c2
  have n3 := hnc.c3
  have g2 := h.n
  have g4 := h.t
  have hgb := h.lt
  obtain ⟨n, hnn⟩ : ∃ n, n = G.n := ⟨_, rfl⟩
  rw [← hnn] at g2 ho
  have hob : (0 : Int) ≤ (o : Int) ∧ (o : Int) < (n : Int) := by omega
  obtain ⟨cc, hcc⟩ : ∃ cc, cc = G.c o := ⟨_, rfl⟩
  obtain ⟨ca, hca⟩ : ∃ ca, ca = G.a o := ⟨_, rfl⟩
  obtain ⟨cb, hcb⟩ : ∃ cb, cb = G.b o := ⟨_, rfl⟩
  rw [← hcc] at n0 ⊢
  rw [← hca] at n2 ⊢
  rw [← hcb] at n3 ⊢
  clear h hN hnc hnn hcc hca hcb
  by_cases hf : f = 97
  · have e1 : (f == 97) = true := by simp [hf]
    rw [if_pos hf, if_pos hf]
    clear hf
    go_enter Try.func50, Try.ntmps50
    go_wp2
    go_ret2
    exact ⟨rfl, Below.refl _ _⟩
  · have e1 : (f == 97) = false := by simp [hf]
    rw [if_neg hf, if_neg hf]
    clear hf
    go_enter Try.func50, Try.ntmps50
    go_wp2
    go_quiet (fail)
    go_wp2
    go_ret2
    exact ⟨rfl, gb_below_drewN _ _⟩
end Go.Proofs.Ythckelcjncnalaa
