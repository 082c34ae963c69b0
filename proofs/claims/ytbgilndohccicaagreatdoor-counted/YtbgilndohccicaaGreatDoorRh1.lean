import Derived.Test.YtbgilndohccicaaGreatDoorRgB
namespace Go.Proofs.YtbgilndohccicaaGreatDoor
open Go.RowKit

/-- Follow and Link: the error. -/
def refE (f : FF) (other : Int) : Int := if rtB other = false then 8 else (fref f).e
def rfolD (cs : Sch) (r : DH) (root name to : Int) : DH := if refE (ffind cs r.R r.K root name) to = 0 then { r with R := set1 r.R to.toNat (r.C (ffind cs r.R r.K root name).n (ffind cs r.R r.K root name).i).toNat } else r
def rlinkD (cs : Sch) (r : DH) (root name fr : Int) : DH := if refE (ffind cs r.R r.K root name) fr = 0 then { r with C := set2 r.C (ffind cs r.R r.K root name).n (ffind cs r.R r.K root name).i (r.R fr.toNat : Int) } else r
set_option maxRecDepth 20000 in
set_option maxHeartbeats 1000000 in
theorem rfollow_any (rb : Nat) (x : RX) (cs : Sch) (sz : Int) (r : DH) (w : World) (h : RP w rb x cs sz r) (hW : Wf cs r) (hcs : cs.length ≤ 1000) (h6 : ∀ c ∈ cs, c.2.length ≤ 6) (hn : r.n ≤ 4398046511104) (root name to : Int) :
    Calls Tryz.prog 31 #[.pointer (some ⟨rb, 0, none⟩), .int .i64 root, .int .u8 name, .int .i64 to] w (ROp rb x cs sz r (rfolD cs r root name to) (refE (ffind cs r.R r.K root name) to) w) := by
  have hrb := h.lt
  have C := spot_any rb x cs sz r w h hW.root hcs h6 hn root name true
  have HH : Hid (RP w rb x cs sz r) := h
  have efs : fsel true (ffind cs r.R r.K root name) = fref (ffind cs r.R r.K root name) := rfl
  unfold ROp
  cases ha : rtB to with
  | false =>
    have e2 : refE (ffind cs r.R r.K root name) to = 8 := by unfold refE; rw [if_pos ha]
    have e1 : rfolD cs r root name to = r := by unfold rfolD; rw [if_neg (by rw [e2]; decide)]
    rw [e1, e2]
    generalize fsel true (ffind cs r.R r.K root name) = ff at C
    clear h e1 e2 efs
    go_enter Tryz.func31, Tryz.ntmps31
    go_wp2_with fail
    refine C.mono ?_
    rintro e w1 ⟨rfl, nd, rfl⟩
    clear C
    go_wp2_with fail
    refine (rroot_rs (x := to) false ha).mono ?_
    rintro e w' ⟨rfl, rfl⟩
    go_wp2
    go_ret
    exact ⟨rfl, HH.out.below (gb_bdN _ _), GS.of_below (gb_bdN _ _)⟩
  | true =>
    have e0 : refE (ffind cs r.R r.K root name) to = (fsel true (ffind cs r.R r.K root name)).e := by unfold refE; rw [if_neg (by rw [ha]; decide)]; rfl
    by_cases h0 : (fsel true (ffind cs r.R r.K root name)).e = 0
    · have e1 : rfolD cs r root name to = { r with R := set1 r.R to.toNat (r.C (ffind cs r.R r.K root name).n (ffind cs r.R r.K root name).i).toNat } := by unfold rfolD; rw [if_pos (e0.trans h0)]
      rw [e1, e0]
      obtain ⟨o, k, kd, e2, e3, ho, hk, hkk, hkd⟩ := fsel_at hW.root h0
      rw [e3] at C ⊢
      rw [e2]
      clear e0 e1 e2 e3 efs h0
      simp only []
      obtain ⟨q, rfl, hq⟩ := rtB_nat ha
      rw [Int.toNat_natCast]
      obtain ⟨g, hga, hg, hrow⟩ := h.row (by omega)
      obtain ⟨o0, o1⟩ := hrow o ho
      have ck := (h.ob o ho).cell k hk
      have hG := (h.ob o ho).lt
      have c2 := h.c2
      rw [hga] at c2
      have cq := h.root q hq
      have fq := h.frz (3 + q)
      have hrf := hW.ref (o + 1) (by omega) (by omega) k _ (List.getElem?_eq_getElem hk) (by
        have : (fof cs (r.K (o + 1)))[k] = (name, kd) := by rw [← hkk, List.getElem?_eq_getElem hk]; rfl
        rw [this]; simpa using hkd)
      obtain ⟨y, hy⟩ : ∃ y : Nat, r.C (o + 1) k = y := ⟨(r.C (o + 1) k).toNat, by omega⟩
      rw [hy] at ck
      rw [hy, Int.toNat_natCast]
      obtain ⟨m, hm⟩ : ∃ m, m = (fof cs (r.K (o + 1))).length := ⟨_, rfl⟩
      have hm6 : m ≤ 6 := by rw [hm]; exact fof_le h6 _
      rw [← hm] at o1 hk
      have hob : (0 : Int) ≤ (o : Int) ∧ (o : Int) < (r.n : Int) := by omega
      have hkb : (0 : Int) ≤ (k : Int) ∧ (k : Int) < (m : Int) := by omega
      have hqb : (0 : Int) ≤ (q : Int) ∧ (q : Int) < 8 := by omega
      have hyb : y ≤ 4398046511104 := by omega
      clear h hrow hm hy hkk hrf
      go_enter Tryz.func31, Tryz.ntmps31
      go_wp2_with fail
      refine C.mono ?_
      rintro e w1 ⟨rfl, nd, rfl⟩
      clear C
      simp only [Nat.add_sub_cancel]
      go_wp2_with fail
      refine (rroot_rs (x := q) true ha).mono ?_
      rintro e w' ⟨rfl, rfl⟩
      go_wp2
      refine still_tail 16 rfl (by kernel_rfl) ?_
      simp only [List.take_succ_cons, List.take_zero, List.drop_succ_cons, List.drop_zero]
      repeat still_step
      refine wpStill_nil ?_
      go_wp2
      go_ret
      refine ⟨rfl, ?_, ?_⟩
      · exact (HH.out.keep (w' := w.drewN (nd + 1)) (Nat.le_refl _) fun _ _ => rfl).setR hq
      · exact GS.of_gb (gb_setB (gb_drewN w (nd + 1) _) (3 + q) _) RX.has_rb
    · have e1 : rfolD cs r root name to = r := by unfold rfolD; rw [if_neg (by rw [e0]; exact h0)]
      rw [e1, e0]
      have e2 := fsel_no h0
      obtain ⟨y, hy⟩ : ∃ y, y = (fsel true (ffind cs r.R r.K root name)).e := ⟨_, rfl⟩
      rw [← hy] at e2 h0 ⊢
      rw [e2] at C
      have hy' : (y == 0) = false := by simpa using h0
      have hy'' : (y != 0) = true := by simpa using h0
      clear e2 hy efs h e0 e1
      go_enter Tryz.func31, Tryz.ntmps31
      go_wp2_with fail
      refine C.mono ?_
      rintro e w1 ⟨rfl, nd, rfl⟩
      clear C
      go_wp2_with fail
      refine (rroot_rs (x := to) true ha).mono ?_
      rintro e w' ⟨rfl, rfl⟩
      simp only []
      go_wp2
      go_ret
      exact ⟨rfl, HH.out.below (gb_bdN _ _), GS.of_below (gb_bdN _ _)⟩
end Go.Proofs.YtbgilndohccicaaGreatDoor
