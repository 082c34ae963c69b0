import Derived.Test.YtbgilndohccicaaGreatDoorRh3
namespace Go.Proofs.YtbgilndohccicaaGreatDoor
open Go.RowKit

def RWPost (cs : Sch) (r : DH) (w : World) (e : Ending) (w' : World) : Prop := ∃ T, e = .returned (.int .i64 (wsum cs r.K T r.n)) ∧ (∀ o, o < r.n → (T o = true ↔ r.in cs (o + 1))) ∧ Below w.heap.size w w'
theorem TB.below {w w' : World} {ib n : Nat} {T : Nat → Bool} (h : TB w ib n T) (hb : Below w.heap.size w w') : TB w' ib n T :=
  ⟨Nat.lt_of_lt_of_le h.lt hb.size, fun o ho => (hb.cell (by exact h.lt)).trans (h.c o ho), fun o => (hb.frozen (by exact h.lt)).trans (h.f o)⟩

set_option maxRecDepth 20000 in
set_option maxHeartbeats 2000000 in
theorem rwords_any (rb : Nat) (x : RX) (cs : Sch) (sz : Int) (r : DH) (w : World) (h : RP w rb x cs sz r) (hW : Wf cs r) (hcs : cs.length ≤ 1000) (h6 : ∀ c ∈ cs, c.2.length ≤ 6) (hn : r.n ≤ 4398046511104) :
    Calls Tryz.prog 41 #[.pointer (some ⟨rb, 0, none⟩)] w (RWPost cs r w) := by
  have C := there_any rb x cs sz r w h hW hcs h6 hn
  have hrb := h.lt
  have HH : Hid (RP w rb x cs sz r) := h
  have H6 : Hid (∀ c ∈ cs, c.2.length ≤ 6) := h6
  unfold ThPost at C
  obtain ⟨n, hnn⟩ : ∃ n, n = r.n := ⟨_, rfl⟩
  have HN : Hid (n = r.n) := hnn
  rw [← hnn] at C hn
  unfold RWPost
  rw [← hnn]
  clear h hW h6 hnn
  go_enter Tryz.func41, Tryz.ntmps41
  go_wp2_with fail
  refine C.mono ?_
  rintro e w1 ⟨T, rfl, tb, hT, B1⟩
  have HT : Hid (∀ o, o < n → (T o = true ↔ r.in cs (o + 1))) := hT
  have HB1 : Hid (Below w.heap.size w w1) := B1
  clear C hT B1
  go_wp2
  go_loopw [4, 5] (fun sv iv wr => ∃ o : Nat, o ≤ n ∧ iv = .int .i64 o ∧ sv = .int .i64 (wsum cs r.K T o) ∧ ∃ nd, wr = w1.drewN nd) (fun _ iv _ => n - (intOf iv).toNat)
  case atStart => exact ⟨0, by omega, rfl, by simp [wsum, lst], 0, rfl⟩
  case round =>
    obtain ⟨o, ho, rfl, rfl, nd, rfl⟩ := hrel
    by_cases hol : o < n
    · have ho' : o < r.n := by rw [← HN.out]; exact hol
      have HP := HH.out.below HB1.out
      have HKC : Hid (KC w1 x.kx cs) := HP.kc
      obtain ⟨g, hga, hg, hrow⟩ := HP.row (by omega)
      obtain ⟨o0, o1⟩ := hrow o ho'
      have d0 := HP.c0
      have d2 := HP.c2
      rw [hga, ← HN.out] at d2
      have hrb1 := HP.lt
      have hob : (0 : Int) ≤ (o : Int) ∧ (o : Int) < (n : Int) := by omega
      have FK : ∀ W : World, KC W x.kx cs → Calls Tryz.prog 72 #[.slice (some ⟨x.kx.g, 0, none⟩) cs.length x.kx.cap, .int .u8 (r.K (o + 1))] W fun e w' => e = .returned (.tuple #[.slice (knA x.kx cs (r.K (o + 1))) (fof cs (r.K (o + 1))).length (knC x.kx cs (r.K (o + 1))), .bool (cs.any fun y => y.1 == r.K (o + 1))]) ∧ w' = W :=
        fun W hW => known_any x.kx cs (r.K (o + 1)) W hW hcs
      have hf6 := fof_le H6.out (r.K (o + 1))
      have hsl := wsum_le H6.out r.K T o
      have hs1 := wsum_succ cs r.K T o
      obtain ⟨s0, hs0⟩ : ∃ s0, s0 = wsum cs r.K T o := ⟨_, rfl⟩
      obtain ⟨fl, hfl⟩ : ∃ fl, fl = (fof cs (r.K (o + 1))).length := ⟨_, rfl⟩
      rw [← hs0] at hsl hs1 ⊢
      rw [← hfl] at hf6 FK
      have tc := tb.c o hol
      have tl := tb.lt
      cases hto : T o with
      | true =>
        rw [hto] at tc
        have HS : Hid (wsum cs r.K T (o + 1) = s0 + fl + 1) := by
          show _ = _
          rw [hs1, if_pos hto, wof, ← hfl]; omega
        clear HP hrow hfl hs0 hs1 hto o1
        go_wp2
        go_quiet ((go_at_call 72; exact (FK _ (HKC.out.drewN _)).mono fun _ _ h => ⟨h.1, _, h.2⟩))
        clear FK HKC
        go_wp2
        go_roundw
        case rel => exact ⟨o + 1, by omega, by go_num, by rw [HS.out]; go_num, _, rfl⟩
        case measure => simp [intOf]; omega
      | false =>
        rw [hto] at tc
        have HS : Hid (wsum cs r.K T (o + 1) = s0) := by
          show _ = _
          rw [hs1, if_neg (by rw [hto]; decide)]; omega
        clear HP hrow hfl hs0 hs1 hto o1
        go_wp2
        go_quiet ((go_at_call 72; exact (FK _ (HKC.out.drewN _)).mono fun _ _ h => ⟨h.1, _, h.2⟩))
        clear FK HKC
        go_wp2
        go_roundw
        case rel => exact ⟨o + 1, by omega, by go_num, by rw [HS.out], _, rfl⟩
        case measure => simp [intOf]; omega
    · have eo : o = n := by omega
      have hge : n ≤ o := by omega
      have HEO : Hid (o = n) := eo
      clear hol eo
      go_wp2
      go_ret
      exact ⟨T, by have := HEO.out; subst this; rfl, HT.out, HB1.out.trans ((gb_bdN w1 nd).mono HB1.out.size)⟩
end Go.Proofs.YtbgilndohccicaaGreatDoor
