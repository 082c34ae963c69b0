import Derived.Test.YtbgilndohccicaaGreatDoorRgA
import Derived.Test.YtbgilndohccicaaGreatDoorPuA
import Derived.StillTailTactics
namespace Go.Proofs.YtbgilndohccicaaGreatDoor
open Go.RowKit

/-- Only blocks of S were written, and new ones made. -/
structure GS (w w' : World) (S : Nat → Prop) : Prop where
  os : w'.os = w.os
  tape : w'.tape = w.tape
  output : w'.output = w.output
  size : w.heap.size ≤ w'.heap.size
  block : ∀ k, k < w.heap.size → ¬ S k → w'.heap[k]? = w.heap[k]?
theorem GS.of_gb {w w' : World} {b : Nat} {S : Nat → Prop} (h : w.grownBy w' (some b)) (hb : S b) : GS w w' S :=
  ⟨h.os, h.tape, h.output, h.size, fun k hk hn => h.block k hk (fun e => hn (by injection e with e; rw [e]; exact hb))⟩
theorem GS.of_below {w w' : World} {S : Nat → Prop} (h : Below w.heap.size w w') : GS w w' S := ⟨h.os, h.tape, h.output, h.size, fun k hk _ => h.block k hk⟩
theorem GS.trans {a b c : World} {S : Nat → Prop} (h : GS a b S) (k : GS b c S) : GS a c S :=
  ⟨k.os.trans h.os, k.tape.trans h.tape, k.output.trans h.output, Nat.le_trans h.size k.size, fun i hi hn => (k.block i (Nat.lt_of_lt_of_le hi h.size) hn).trans (h.block i hi hn)⟩
theorem GS.mono {w w' : World} {S T : Nat → Prop} (h : GS w w' S) (hs : ∀ k, S k → T k) : GS w w' T := ⟨h.os, h.tape, h.output, h.size, fun k hk hn => h.block k hk (fun hS => hn (hs k hS))⟩
theorem RX.has_G {x : RX} {cs : Sch} {n rb o : Nat} (h : o < n) : x.has cs n rb (x.G o) := .inr (.inr (.inr ⟨o, h, rfl⟩))
theorem RX.has_rb {x : RX} {cs : Sch} {n rb : Nat} : x.has cs n rb rb := .inl rfl

theorem tmod_twice (v : Int) (m : Nat) (hm : 0 < m) (hb : m ≤ 4294967296) (_h1 : -9223372036854775808 ≤ v) (_h2 : v ≤ 9223372036854775807) : (wrap64 (v.tmod m + m)).tmod m = v % m := by
  have hb0 : (0 : Int) < m := by omega
  have l1 := Int.emod_nonneg v (b := m) (by omega)
  have l2 := Int.emod_lt_of_pos v hb0
  have key : ∃ z : Int, v.tmod m + m = v % m + m * z ∧ 0 ≤ z ∧ z ≤ 1 := by
    by_cases h0 : 0 ≤ v ∨ (m : Int) ∣ v
    · exact ⟨1, by rw [Int.tmod_eq_emod, if_pos h0]; omega, by omega, by omega⟩
    · exact ⟨0, by rw [Int.tmod_eq_emod, if_neg h0]; simp, by omega, by omega⟩
  obtain ⟨z, hz, z0, z1⟩ := key
  have hz' : z = 0 ∨ z = 1 := by omega
  have hw : wrap64 (v.tmod m + m) = v % m + m * z := by
    rw [hz]; unfold wrap64
    rcases hz' with rfl | rfl <;> omega
  rw [hw, Int.tmod_eq_emod_of_nonneg (by rcases hz' with rfl | rfl <;> omega), Int.add_mul_emod_self_left, Int.emod_emod_of_dvd _ (Int.dvd_refl _)]
set_option maxHeartbeats 400000 in
theorem rwrap_any (k v : Int) (w : World) (h1 : -9223372036854775808 ≤ v) (h2 : v ≤ 9223372036854775807) :
    Calls Tryz.prog 77 #[.int .u8 k, .int .i64 v] w fun e w' => e = .returned (.int .i64 (wrK k v)) ∧ w' = w := by
  by_cases k1 : k = 98
  · have e : wrK k v = v % 256 := by unfold wrK; rw [if_pos k1]
    have ht : (wrap64 (v.tmod 256 + 256)).tmod 256 = v % 256 := tmod_twice v 256 (by omega) (by omega) h1 h2
    rw [e]; subst k1; clear e
    go_enter Tryz.func77, Tryz.ntmps77
    go_wp2
    go_ret
    exact ⟨rfl, rfl⟩
  by_cases k2 : k = 104
  · have e : wrK k v = (v + 32768) % 65536 - 32768 := by unfold wrK; rw [if_neg k1, if_pos k2]
    have ht : (wrap64 (v.tmod 65536 + 65536)).tmod 65536 = v % 65536 := tmod_twice v 65536 (by omega) (by omega) h1 h2
    have l1 := Int.emod_nonneg v (b := 65536) (by omega)
    have l2 := Int.emod_lt_of_pos v (b := 65536) (by omega)
    rw [e]; subst k2; clear e k1
    by_cases hc : 32768 ≤ v % 65536
    · have he : v % 65536 - 65536 = (v + 32768) % 65536 - 32768 := by omega
      obtain ⟨y, hy⟩ : ∃ y, y = v % 65536 := ⟨_, rfl⟩
      rw [← he]
      rw [← hy] at ht l1 l2 hc ⊢
      clear he hy
      go_enter Tryz.func77, Tryz.ntmps77
      go_wp2
      go_ret
      exact ⟨rfl, rfl⟩
    · have he : v % 65536 = (v + 32768) % 65536 - 32768 := by omega
      obtain ⟨y, hy⟩ : ∃ y, y = v % 65536 := ⟨_, rfl⟩
      rw [← he]
      rw [← hy] at ht l1 l2 hc ⊢
      clear he hy
      go_enter Tryz.func77, Tryz.ntmps77
      go_wp2
      go_ret
      exact ⟨rfl, rfl⟩
  by_cases k3 : k = 119
  · have e : wrK k v = (v + 2147483648) % 4294967296 - 2147483648 := by unfold wrK; rw [if_neg k1, if_neg k2, if_pos k3]
    have ht : (wrap64 (v.tmod 4294967296 + 4294967296)).tmod 4294967296 = v % 4294967296 := tmod_twice v 4294967296 (by omega) (by omega) h1 h2
    have l1 := Int.emod_nonneg v (b := 4294967296) (by omega)
    have l2 := Int.emod_lt_of_pos v (b := 4294967296) (by omega)
    rw [e]; subst k3; clear e k1 k2
    by_cases hc : 2147483648 ≤ v % 4294967296
    · have he : v % 4294967296 - 4294967296 = (v + 2147483648) % 4294967296 - 2147483648 := by omega
      obtain ⟨y, hy⟩ : ∃ y, y = v % 4294967296 := ⟨_, rfl⟩
      rw [← he]
      rw [← hy] at ht l1 l2 hc ⊢
      clear he hy
      go_enter Tryz.func77, Tryz.ntmps77
      go_wp2
      go_ret
      exact ⟨rfl, rfl⟩
    · have he : v % 4294967296 = (v + 2147483648) % 4294967296 - 2147483648 := by omega
      obtain ⟨y, hy⟩ : ∃ y, y = v % 4294967296 := ⟨_, rfl⟩
      rw [← he]
      rw [← hy] at ht l1 l2 hc ⊢
      clear he hy
      go_enter Tryz.func77, Tryz.ntmps77
      go_wp2
      go_ret
      exact ⟨rfl, rfl⟩
  · have e : wrK k v = v := by unfold wrK; rw [if_neg k1, if_neg k2, if_neg k3]
    have q1 : (k == 98) = false := by simpa using k1
    have q2 : (k == 104) = false := by simpa using k2
    have q3 : (k == 119) = false := by simpa using k3
    rw [e]; clear e
    go_enter Tryz.func77, Tryz.ntmps77
    go_wp2
    go_ret
    exact ⟨rfl, rfl⟩
end Go.Proofs.YtbgilndohccicaaGreatDoor
namespace Go.Proofs.YtbgilndohccicaaGreatDoor
open Go.RowKit

theorem still_tail {P : Program} {id : Nat} {Q : Exit → Act → World → Prop} {a : Act} {w : World} {l : List Oper} (n : Nat) (hm : P.follows .mixedOrders = true) (hB : Region.lexTailB .any l.toArray n = true)
    (h : wpStill P l.toArray w.drew (fun a' => wpList P l.toArray Q (l.drop n) a' w.drew) (l.take n) a) : (Code.region id l.toArray true).wp P Q a w := wp_region_still_tail n hm hB h
theorem RP.drew {w : World} {rb : Nat} {x : RX} {cs : Sch} {sz : Int} {r : DH} (h : RP w rb x cs sz r) : RP w.drew rb x cs sz r := h.keep (Nat.le_refl _) fun _ _ => rfl
def RPutPost (rb : Nat) (x : RX) (cs : Sch) (sz : Int) (r : DH) (root name v : Int) (w : World) (e : Ending) (w' : World) : Prop :=
  e = .returned (.int .i64 (fnum (ffind cs r.R r.K root name)).e) ∧
    RP w' rb x cs sz (if (fnum (ffind cs r.R r.K root name)).e = 0 then { r with C := set2 r.C (ffind cs r.R r.K root name).n (ffind cs r.R r.K root name).i (wrK (ffind cs r.R r.K root name).k v) } else r) ∧ GS w w' (x.has cs r.n rb)

set_option maxRecDepth 20000 in
set_option maxHeartbeats 1000000 in
theorem rput_any (rb : Nat) (x : RX) (cs : Sch) (sz : Int) (r : DH) (w : World) (h : RP w rb x cs sz r) (hR : ∀ i, i < 8 → r.R i ≤ r.n) (hcs : cs.length ≤ 1000) (h6 : ∀ c ∈ cs, c.2.length ≤ 6) (hn : r.n ≤ 4398046511104) (root name v : Int) (hv1 : -9223372036854775808 ≤ v) (hv2 : v ≤ 9223372036854775807) :
    Calls Tryz.prog 29 #[.pointer (some ⟨rb, 0, none⟩), .int .i64 root, .int .u8 name, .int .i64 v] w (RPutPost rb x cs sz r root name v w) := by
  have hrb := h.lt
  have C := spot_any rb x cs sz r w h hR hcs h6 hn root name false
  have efs : fsel false (ffind cs r.R r.K root name) = fnum (ffind cs r.R r.K root name) := rfl
  unfold RPutPost
  by_cases h0 : (fsel false (ffind cs r.R r.K root name)).e = 0
  · obtain ⟨o, k, kd, e1, e2, ho, hk, hkk, _⟩ := fsel_at hR h0
    rw [← efs, e2, e1]
    rw [e2] at C
    simp only [if_pos]
    clear h0 e1 e2 efs
    obtain ⟨fs, hfs⟩ : ∃ fs, fs = fof cs (r.K (o + 1)) := ⟨_, rfl⟩
    have FK : ∀ W : World, KC W x.kx cs → Calls Tryz.prog 72 #[.slice (some ⟨x.kx.g, 0, none⟩) cs.length x.kx.cap, .int .u8 (r.K (o + 1))] W fun e w' => e = .returned (.tuple #[.slice (knA x.kx cs (r.K (o + 1))) fs.length (knC x.kx cs (r.K (o + 1))), .bool (cs.any fun y => y.1 == r.K (o + 1))]) ∧ w' = W := by
      intro W hW
      rw [hfs]
      exact known_any x.kx cs (r.K (o + 1)) W hW hcs
    have KF0 := (h.kc.kf (r.K (o + 1))).1
    rw [← hfs] at KF0
    obtain ⟨ea, hfg⟩ := KF0.a (by rw [hfs]; omega)
    have k1 := (KF0.row k (by rw [hfs]; exact hk)).c1
    rw [hfs, hkk] at k1
    rw [ea] at FK
    generalize knC x.kx cs (r.K (o + 1)) = fcap at FK
    generalize x.kx.FG (kidx cs (r.K (o + 1))) = fg at FK hfg k1
    clear KF0 ea
    obtain ⟨g, hga, hg, hrow⟩ := h.row (by omega)
    obtain ⟨o0, o1⟩ := hrow o ho
    have HS : ∀ W v, RP W rb x cs sz r → RP (W.setCell ⟨x.G o, k, none⟩ (.int .i64 v)) rb x cs sz { r with C := set2 r.C (o + 1) k v } := fun W v hW => hW.setC ho hk v
    have HHS : Hid (∀ W v, RP W rb x cs sz r → RP (W.setCell ⟨x.G o, k, none⟩ (.int .i64 v)) rb x cs sz { r with C := set2 r.C (o + 1) k v }) := HS
    have ck := (h.ob o ho).cell k hk
    have cf := (h.ob o ho).frz k
    have hG := (h.ob o ho).lt
    have c2 := h.c2
    have c0 := h.c0
    rw [hga] at c2
    rw [← hfs] at hkk hk o1
    have hm6 : fs.length ≤ 6 := by rw [hfs]; exact fof_le h6 _
    clear hfs HS
    obtain ⟨m, hm⟩ : ∃ m, m = fs.length := ⟨_, rfl⟩
    rw [← hm] at o1 hk FK hm6
    have HM : Hid (m = fs.length) := hm
    have HKK : Hid (fs[k]?.getD (0, 0) = (name, kd)) := hkk
    have hob : (0 : Int) ≤ (o : Int) ∧ (o : Int) < (r.n : Int) := by omega
    have hkb : (0 : Int) ≤ (k : Int) ∧ (k : Int) < (m : Int) := by omega
    obtain ⟨y, hy2⟩ : ∃ y, y = wrK kd v := ⟨_, rfl⟩
    have W : ∀ w : World, Calls Tryz.prog 77 #[.int .u8 kd, .int .i64 v] w fun e w' => e = .returned (.int .i64 y) ∧ w' = w := by
      intro w; rw [hy2]; exact rwrap_any kd v w hv1 hv2
    rw [← hy2]
    clear hrow hm hkk hy2
    go_enter Tryz.func29, Tryz.ntmps29
    go_wp2_with fail
    refine C.mono ?_
    rintro e w1 ⟨rfl, nd, rfl⟩
    have HKC : Hid (KC w x.kx cs) := h.kc
    have HH : Hid (RP w rb x cs sz r) := h
    have HG : Hid (x.has cs r.n rb (x.G o)) := RX.has_G ho
    clear C h
    simp only [Nat.add_sub_cancel]
    go_wp2
    go_quiet ((go_at_call 72; exact (FK _ (HKC.out.drewN _)).mono fun _ _ h => ⟨h.1, _, h.2⟩))
    clear FK
    go_wp2
    refine still_tail 17 rfl (by kernel_rfl) ?_
    simp only [List.take_succ_cons, List.take_zero, List.drop_succ_cons, List.drop_zero]
    repeat still_step
    still_call (W _)
    repeat still_step
    refine wpStill_nil ?_
    go_wp2
    go_ret
    refine ⟨rfl, ?_, ?_⟩
    · exact HHS.out _ y (HH.out.keep (Nat.le_refl _) fun _ _ => rfl)
    · refine GS.of_gb (b := x.G o) ?_ HG.out
      exact gb_setB (gb_drewN w _ _) k _
  · rw [← efs]
    have e2 := fsel_no h0
    rw [if_neg h0]
    obtain ⟨y, hy⟩ : ∃ y, y = (fsel false (ffind cs r.R r.K root name)).e := ⟨_, rfl⟩
    rw [← hy] at e2 h0 ⊢
    rw [e2] at C
    have hy' : (y == 0) = false := by simpa using h0
    have hy'' : (y != 0) = true := by simpa using h0
    have HH : Hid (RP w rb x cs sz r) := h
    clear e2 hy efs h
    go_enter Tryz.func29, Tryz.ntmps29
    go_wp2_with fail
    refine C.mono ?_
    rintro e w1 ⟨rfl, nd, rfl⟩
    clear C
    simp only []
    go_wp2
    go_ret
    exact ⟨rfl, HH.out.below (gb_bdN _ _), GS.of_below (gb_bdN _ _)⟩
end Go.Proofs.YtbgilndohccicaaGreatDoor
namespace Go.Proofs.YtbgilndohccicaaGreatDoor
open Go.RowKit

def ROp (rb : Nat) (x : RX) (cs : Sch) (sz : Int) (r r' : DH) (e0 : Int) (w : World) (e : Ending) (w' : World) : Prop :=
  e = .returned (.int .i64 e0) ∧ RP w' rb x cs sz r' ∧ GS w w' (x.has cs r.n rb)
/-- Copy. -/
def rcopyD (r : DH) (a b : Int) : DH := if rtB a = true ∧ rtB b = true then { r with R := set1 r.R b.toNat (r.R a.toNat) } else r
def rtE (a b : Int) : Int := if rtB a = true ∧ rtB b = true then 0 else 8
set_option maxRecDepth 20000 in
set_option maxHeartbeats 1000000 in
theorem rcopy_any (rb : Nat) (x : RX) (cs : Sch) (sz : Int) (r : DH) (w : World) (h : RP w rb x cs sz r) (a b : Int) :
    Calls Tryz.prog 35 #[.pointer (some ⟨rb, 0, none⟩), .int .i64 a, .int .i64 b] w (ROp rb x cs sz r (rcopyD r a b) (rtE a b) w) := by
  have hrb := h.lt
  have HH : Hid (RP w rb x cs sz r) := h
  unfold ROp
  cases ha : rtB a with
  | false =>
    have e1 : rcopyD r a b = r := by unfold rcopyD; rw [if_neg (by rw [ha]; simp)]
    have e2 : rtE a b = 8 := by unfold rtE; rw [if_neg (by rw [ha]; simp)]
    rw [e1, e2]
    clear h e1 e2
    obtain ⟨yb, hyb⟩ : ∃ yb, rtB b = yb := ⟨_, rfl⟩
    go_enter Tryz.func35, Tryz.ntmps35
    go_wp2_with fail
    refine (rroot_rs (x := a) false ha).mono ?_
    rintro e w' ⟨rfl, rfl⟩
    go_wp2_with fail
    refine (rroot_rs (x := b) yb hyb).mono ?_
    rintro e w' ⟨rfl, rfl⟩
    go_wp2
    go_ret
    exact ⟨rfl, HH.out, GS.of_below (Below.refl _ _)⟩
  | true =>
    cases hb : rtB b with
    | false =>
      have e1 : rcopyD r a b = r := by unfold rcopyD; rw [if_neg (by rw [hb]; simp)]
      have e2 : rtE a b = 8 := by unfold rtE; rw [if_neg (by rw [hb]; simp)]
      rw [e1, e2]
      clear h e1 e2
      go_enter Tryz.func35, Tryz.ntmps35
      go_wp2_with fail
      refine (rroot_rs (x := a) true ha).mono ?_
      rintro e w' ⟨rfl, rfl⟩
      go_wp2_with fail
      refine (rroot_rs (x := b) false hb).mono ?_
      rintro e w' ⟨rfl, rfl⟩
      go_wp2
      go_ret
      exact ⟨rfl, HH.out, GS.of_below (Below.refl _ _)⟩
    | true =>
      have e1 : rcopyD r a b = { r with R := set1 r.R b.toNat (r.R a.toNat) } := by unfold rcopyD; rw [if_pos ⟨ha, hb⟩]
      have e2 : rtE a b = 0 := by unfold rtE; rw [if_pos ⟨ha, hb⟩]
      rw [e1, e2]
      obtain ⟨p, rfl, hp⟩ := rtB_nat ha
      obtain ⟨q, rfl, hq⟩ := rtB_nat hb
      rw [Int.toNat_natCast, Int.toNat_natCast]
      have c1 := h.root p hp
      have c2 := h.root q hq
      have f2 := h.frz (3 + q)
      have hpb : (0 : Int) ≤ (p : Int) ∧ (p : Int) < 8 := by omega
      have hqb : (0 : Int) ≤ (q : Int) ∧ (q : Int) < 8 := by omega
      clear h e1 e2
      go_enter Tryz.func35, Tryz.ntmps35
      go_wp2_with fail
      refine (rroot_rs (x := p) true ha).mono ?_
      rintro e w' ⟨rfl, rfl⟩
      go_wp2_with fail
      refine (rroot_rs (x := q) true hb).mono ?_
      rintro e w' ⟨rfl, rfl⟩
      go_wp2
      refine still_tail 11 rfl (by kernel_rfl) ?_
      simp only [List.take_succ_cons, List.take_zero, List.drop_succ_cons, List.drop_zero]
      repeat still_step
      refine wpStill_nil ?_
      go_wp2
      go_ret
      refine ⟨rfl, ?_, ?_⟩
      · exact (HH.out.drew).setR hq
      · exact GS.of_gb (gb_setB (gb_drewN w' 1 _) (3 + q) _) RX.has_rb
end Go.Proofs.YtbgilndohccicaaGreatDoor
namespace Go.Proofs.YtbgilndohccicaaGreatDoor
open Go.RowKit

def rclearD (r : DH) (a : Int) : DH := if rtB a = true then { r with R := set1 r.R a.toNat 0 } else r
def rtE1 (a : Int) : Int := if rtB a = true then 0 else 8
set_option maxRecDepth 20000 in
set_option maxHeartbeats 1000000 in
theorem rclear_any (rb : Nat) (x : RX) (cs : Sch) (sz : Int) (r : DH) (w : World) (h : RP w rb x cs sz r) (a : Int) :
    Calls Tryz.prog 37 #[.pointer (some ⟨rb, 0, none⟩), .int .i64 a] w (ROp rb x cs sz r (rclearD r a) (rtE1 a) w) := by
  have hrb := h.lt
  have HH : Hid (RP w rb x cs sz r) := h
  unfold ROp
  cases ha : rtB a with
  | false =>
    have e1 : rclearD r a = r := by unfold rclearD; rw [if_neg (by rw [ha]; simp)]
    have e2 : rtE1 a = 8 := by unfold rtE1; rw [if_neg (by rw [ha]; simp)]
    rw [e1, e2]
    clear h e1 e2
    go_enter Tryz.func37, Tryz.ntmps37
    go_wp2_with fail
    refine (rroot_rs (x := a) false ha).mono ?_
    rintro e w' ⟨rfl, rfl⟩
    go_wp2
    go_ret
    exact ⟨rfl, HH.out, GS.of_below (Below.refl _ _)⟩
  | true =>
    have e1 : rclearD r a = { r with R := set1 r.R a.toNat 0 } := by unfold rclearD; rw [if_pos ha]
    have e2 : rtE1 a = 0 := by unfold rtE1; rw [if_pos ha]
    rw [e1, e2]
    obtain ⟨p, rfl, hp⟩ := rtB_nat ha
    rw [Int.toNat_natCast]
    have c1 := h.root p hp
    have f1 := h.frz (3 + p)
    have hpb : (0 : Int) ≤ (p : Int) ∧ (p : Int) < 8 := by omega
    clear h e1 e2
    go_enter Tryz.func37, Tryz.ntmps37
    go_wp2_with fail
    refine (rroot_rs (x := p) true ha).mono ?_
    rintro e w' ⟨rfl, rfl⟩
    go_wp2
    go_ret
    refine ⟨rfl, ?_, ?_⟩
    · exact HH.out.setR (y := 0) hp
    · exact GS.of_gb (gb_setB (gb_drewN w' 0 _) (3 + p) _) RX.has_rb
def rsameI (r : DH) (a b : Int) : Bool := if rtB a = true ∧ rtB b = true then decide (r.R a.toNat = r.R b.toNat) else false
set_option maxRecDepth 20000 in
set_option maxHeartbeats 1000000 in
theorem rsame_any (rb : Nat) (x : RX) (cs : Sch) (sz : Int) (r : DH) (w : World) (h : RP w rb x cs sz r) (a b : Int) :
    Calls Tryz.prog 39 #[.pointer (some ⟨rb, 0, none⟩), .int .i64 a, .int .i64 b] w fun e w' => e = .returned (.tuple #[.bool (rsameI r a b), .int .i64 (rtE a b)]) ∧ Below w.heap.size w w' := by
  have hrb := h.lt
  cases ha : rtB a with
  | false =>
    have e1 : rsameI r a b = false := by unfold rsameI; rw [if_neg (by rw [ha]; simp)]
    have e2 : rtE a b = 8 := by unfold rtE; rw [if_neg (by rw [ha]; simp)]
    rw [e1, e2]
    clear h e1 e2
    obtain ⟨yb, hyb⟩ : ∃ yb, rtB b = yb := ⟨_, rfl⟩
    go_enter Tryz.func39, Tryz.ntmps39
    go_wp2_with fail
    refine (rroot_rs (x := a) false ha).mono ?_
    rintro e w' ⟨rfl, rfl⟩
    go_wp2_with fail
    refine (rroot_rs (x := b) yb hyb).mono ?_
    rintro e w' ⟨rfl, rfl⟩
    go_wp2
    go_ret2
    exact ⟨rfl, Below.refl _ _⟩
  | true =>
    cases hb : rtB b with
    | false =>
      have e1 : rsameI r a b = false := by unfold rsameI; rw [if_neg (by rw [hb]; simp)]
      have e2 : rtE a b = 8 := by unfold rtE; rw [if_neg (by rw [hb]; simp)]
      rw [e1, e2]
      clear h e1 e2
      go_enter Tryz.func39, Tryz.ntmps39
      go_wp2_with fail
      refine (rroot_rs (x := a) true ha).mono ?_
      rintro e w' ⟨rfl, rfl⟩
      go_wp2_with fail
      refine (rroot_rs (x := b) false hb).mono ?_
      rintro e w' ⟨rfl, rfl⟩
      go_wp2
      go_ret2
      exact ⟨rfl, Below.refl _ _⟩
    | true =>
      have e1 : rsameI r a b = decide (r.R a.toNat = r.R b.toNat) := by unfold rsameI; rw [if_pos ⟨ha, hb⟩]
      have e2 : rtE a b = 0 := by unfold rtE; rw [if_pos ⟨ha, hb⟩]
      rw [e1, e2]
      obtain ⟨p, rfl, hp⟩ := rtB_nat ha
      obtain ⟨q, rfl, hq⟩ := rtB_nat hb
      rw [Int.toNat_natCast, Int.toNat_natCast]
      have c1 := h.root p hp
      have c2 := h.root q hq
      have hpb : (0 : Int) ≤ (p : Int) ∧ (p : Int) < 8 := by omega
      have hqb : (0 : Int) ≤ (q : Int) ∧ (q : Int) < 8 := by omega
      have hd : ((r.R p : Int) == (r.R q : Int)) = decide (r.R p = r.R q) := by
        by_cases e : r.R p = r.R q
        · simp [e]
        · simp [e]; omega
      rw [← hd]
      clear h e1 e2 hd
      go_enter Tryz.func39, Tryz.ntmps39
      go_wp2_with fail
      refine (rroot_rs (x := p) true ha).mono ?_
      rintro e w' ⟨rfl, rfl⟩
      go_wp2_with fail
      refine (rroot_rs (x := q) true hb).mono ?_
      rintro e w' ⟨rfl, rfl⟩
      go_wp2
      go_quiet (fail)
      go_wp2
      go_ret2
      exact ⟨rfl, gb_bdN _ _⟩
/-- Class: the Letter, the error. -/
def rclsI (r : DH) (a : Int) : Int × Int := if rtB a = false then (0, 8) else if r.R a.toNat = 0 then (0, 9) else (r.K (r.R a.toNat), 0)
theorem fof_mem {cs : Sch} {x : Int} {f : Int × Int} (h : f ∈ fof cs x) : ∃ c ∈ cs, f ∈ c.2 := by
  unfold fof at h
  cases hf : cs.find? (fun c => c.1 == x) with
  | none => rw [hf] at h; simp at h
  | some c => rw [hf] at h; exact ⟨c, List.mem_of_find?_eq_some hf, h⟩
theorem fof_zero {cs : Sch} (h0 : ∀ c ∈ cs, ∀ f ∈ c.2, f.1 ≠ 0) (x : Int) : idxF (fof cs x) 0 = -1 := by
  refine idxF_none _ _ (fun j hj => ?_)
  obtain ⟨c, hc, hm⟩ := fof_mem (List.getElem_mem hj)
  rw [List.getElem?_eq_getElem hj]
  exact h0 c hc _ hm
set_option maxRecDepth 20000 in
set_option maxHeartbeats 1000000 in
theorem rcls_any (rb : Nat) (x : RX) (cs : Sch) (sz : Int) (r : DH) (w : World) (h : RP w rb x cs sz r) (hR : ∀ i, i < 8 → r.R i ≤ r.n) (hcs : cs.length ≤ 1000) (h6 : ∀ c ∈ cs, c.2.length ≤ 6) (hn : r.n ≤ 4398046511104) (hz : ∀ c ∈ cs, ∀ f ∈ c.2, f.1 ≠ 0) (a : Int) :
    Calls Tryz.prog 25 #[.pointer (some ⟨rb, 0, none⟩), .int .i64 a] w fun e w' => e = .returned (.tuple #[.int .u8 (rclsI r a).1, .int .i64 (rclsI r a).2]) ∧ Below w.heap.size w w' := by
  have hrb := h.lt
  have C := spot_any rb x cs sz r w h hR hcs h6 hn a 0 false
  by_cases h1 : rtB a = false
  · have e1 : rclsI r a = (0, 8) := by unfold rclsI; rw [if_pos h1]
    have e2 : ffind cs r.R r.K a 0 = ⟨0, 0, 0, 8⟩ := by unfold ffind; rw [if_pos h1]
    rw [e1]
    rw [e2, fsel_bad false 8 (by decide)] at C
    clear e1 e2
    go_enter Tryz.func25, Tryz.ntmps25
    go_wp2_with fail
    refine C.mono ?_
    rintro e w1 ⟨rfl, nd, rfl⟩
    simp only []
    go_wp2
    go_ret2
    exact ⟨rfl, gb_bdN _ _⟩
  obtain ⟨p, rfl, hp⟩ := rtB_nat (x := a) (by simpa using h1)
  by_cases h2 : r.R p = 0
  · have e1 : rclsI r p = (0, 9) := by unfold rclsI; rw [if_neg h1, Int.toNat_natCast, if_pos h2]
    have e2 : ffind cs r.R r.K p 0 = ⟨0, 0, 0, 9⟩ := by unfold ffind; rw [if_neg h1, Int.toNat_natCast, if_pos h2]
    rw [e1]
    rw [e2, fsel_bad false 9 (by decide)] at C
    clear e1 e2
    go_enter Tryz.func25, Tryz.ntmps25
    go_wp2_with fail
    refine C.mono ?_
    rintro e w1 ⟨rfl, nd, rfl⟩
    simp only []
    go_wp2
    go_ret2
    exact ⟨rfl, gb_bdN _ _⟩
  · have e1 : rclsI r p = (r.K (r.R p), 0) := by unfold rclsI; rw [if_neg h1, Int.toNat_natCast, if_neg h2]
    have e2 : ffind cs r.R r.K p 0 = ⟨0, 0, 0, 5⟩ := by rw [ffind_of hp h2, fof_zero hz, if_pos (by decide)]
    rw [e1]
    rw [e2, fsel_bad false 5 (by decide)] at C
    have hRp := hR p hp
    obtain ⟨o, ho⟩ : ∃ o, r.R p = o + 1 := ⟨r.R p - 1, by omega⟩
    have cr := h.root p hp
    rw [ho] at cr ⊢
    have cr' : w.cell? ⟨rb, 3 + p, none⟩ = some (.int .i64 ((o : Int) + 1)) := by rw [cr]; simp
    have hpb : (0 : Int) ≤ (p : Int) ∧ (p : Int) < 8 := by omega
    have ho' : o < r.n := by omega
    obtain ⟨g, hga, hg, hrow⟩ := h.row (by omega)
    obtain ⟨o0, o1⟩ := hrow o ho'
    have c2 := h.c2
    rw [hga] at c2
    have hob : (0 : Int) ≤ (o : Int) ∧ (o : Int) < (r.n : Int) := by omega
    clear e1 e2 hrow cr h ho h2
    go_enter Tryz.func25, Tryz.ntmps25
    go_wp2_with fail
    refine C.mono ?_
    rintro e w1 ⟨rfl, nd, rfl⟩
    simp only []
    go_wp2
    go_quiet (fail)
    go_wp2
    go_ret2
    exact ⟨rfl, (gb_bdN w nd).trans ((gb_bdN _ _).mono (Nat.le_refl _))⟩
end Go.Proofs.YtbgilndohccicaaGreatDoor
