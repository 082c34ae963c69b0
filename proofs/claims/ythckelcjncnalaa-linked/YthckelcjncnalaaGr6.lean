import Derived.Test.YthckelcjncnalaaGr5
namespace Go.Proofs.Ythckelcjncnalaa
open Go.RowKit

/-- What read comes to. -/
def gdE (R : GCSR) (s : ByteArray) : Int := if 200 < s.size then 1 else if R.ok = false then 2 else 0
def gdP (R : GCSR) (s : ByteArray) : Int := if 200 < s.size then 0 else if R.ok = false then (R.at_ : Int) else 0
def gdC (R : GCSR) (s : ByteArray) : List GCd := if 200 < s.size then [] else if R.ok = false then [] else R.cs
def GReadPost (R : GCSR) (s : ByteArray) (w : World) (e : Ending) (w' : World) : Prop := ∃ (a : Option Addr) (n c : Nat) (rs : List RCd),
  e = .returned (.tuple #[.slice a n c, .int .i64 (gdE R s), .int .i64 (gdP R s)]) ∧ GCs w' w.heap.size (.slice a n c) rs (gdC R s) ∧ Below w.heap.size w w'

set_option maxHeartbeats 400000 in
theorem gread_any {u : Bool} {ru : ByteArray → Nat → RuleR} {fr : ByteArray → Nat → FromR} (HRU : RuleC u ru) (HFR : FromC u fr) (s : ByteArray) (w : World) (hm : s.size ≤ 9223372036854775807) :
    Calls Try.prog 59 #[.string s, .bool u] w (GReadPost (gcLoop ru fr s 6 [] 0) s w) := by
  by_cases hs : 200 < s.size
  · have e1 : gdE (gcLoop ru fr s 6 [] 0) s = 1 := by rw [gdE, if_pos hs]
    have e2 : gdP (gcLoop ru fr s 6 [] 0) s = 0 := by rw [gdP, if_pos hs]
    have e3 : gdC (gcLoop ru fr s 6 [] 0) s = [] := by rw [gdC, if_pos hs]
    go_enter Try.func59, Try.ntmps59
    go_wp2
    refine bodyPost_ret (v := .tuple #[.slice none 0 0, .int .i64 1, .int .i64 0]) (by simp [results, Try.results59, go_sem]) rfl ⟨_, _, _, [], by rw [e1, e2], by rw [e3]; exact GCs.nil _ _, Below.refl _ _⟩
  · have hs' : s.size ≤ 200 := by omega
    have R0 : RS (w.alloc (.cells #[.string s, .int .i64 0, .bool u, .slice none 0 0] 136)) w.heap.size s 0 u := by
      refine ⟨?_, ?_, ?_, ⟨.slice none 0 0, ?_⟩, ?_, ?_, Nat.zero_le _, by omega⟩ <;> go_simp
    have Cc := gclasses_any HRU HFR s w.heap.size 0 _ R0
    obtain ⟨ok, a, cs, hr⟩ : ∃ ok a cs, gcLoop ru fr s 6 [] 0 = ⟨ok, a, cs⟩ := ⟨_, _, _, rfl⟩
    rw [hr] at Cc ⊢
    have e1 : gdE ⟨ok, a, cs⟩ s = if ok = false then 2 else 0 := by rw [gdE, if_neg hs]
    have e2 : gdP ⟨ok, a, cs⟩ s = if ok = false then (a : Int) else 0 := by rw [gdP, if_neg hs]
    have e3 : gdC ⟨ok, a, cs⟩ s = if ok = false then [] else cs := by rw [gdC, if_neg hs]
    clear hr hs R0
    cases ok with
    | false =>
      rw [if_pos rfl] at e1 e2 e3
      have E : Hid (gdE ⟨false, a, cs⟩ s = 2 ∧ gdP ⟨false, a, cs⟩ s = a ∧ gdC ⟨false, a, cs⟩ s = []) := ⟨e1, e2, e3⟩
      clear e1 e2 e3
      go_enter Try.func59, Try.ntmps59
      go_wp2_with fail
      refine Cc.mono ?_
      rintro e w1 ⟨va, vn, vc, rs, rfl, V1, R1, hg1⟩
      simp only [] at R1 ⊢
      obtain ⟨p0, p1, p2, _, q1, q3, _, _⟩ := id R1
      have B1 : Below w.heap.size w w1 := below_of_gb hg1 ((Below.refl _ _).alloc (Nat.le_refl _) _) (Nat.le_refl _)
      clear Cc hg1 V1
      go_wp2
      go_quiet (fail)
      go_wp2
      refine bodyPost_ret (v := .tuple #[.slice none 0 0, .int .i64 2, .int .i64 a]) (by simp [results, Try.results59, go_sem]) rfl ⟨_, _, _, [], by rw [E.out.1, E.out.2.1], by rw [E.out.2.2]; exact GCs.nil _ _, B1.trans ((gb_below_drew _ _).mono B1.size)⟩
    | true =>
      rw [if_neg (by decide)] at e1 e2 e3
      have E : Hid (gdE ⟨true, a, cs⟩ s = 0 ∧ gdP ⟨true, a, cs⟩ s = 0 ∧ gdC ⟨true, a, cs⟩ s = cs) := ⟨e1, e2, e3⟩
      clear e1 e2 e3
      go_enter Try.func59, Try.ntmps59
      go_wp2_with fail
      refine Cc.mono ?_
      rintro e w1 ⟨va, vn, vc, rs, rfl, V1', R1, hg1⟩
      simp only [] at R1 V1' ⊢
      have B1 : Below w.heap.size w w1 := below_of_gb hg1 ((Below.refl _ _).alloc (Nat.le_refl _) _) (Nat.le_refl _)
      have V1 : GCs w1 w.heap.size (.slice va vn vc) rs cs := V1'.mono (by simp)
      clear Cc hg1 V1'
      go_wp2
      refine bodyPost_ret (v := .tuple #[.slice va vn vc, .int .i64 0, .int .i64 0]) (by simp [results, Try.results59, go_sem]) rfl ⟨_, _, _, rs, by rw [E.out.1, E.out.2.1], by rw [E.out.2.2]; exact V1, B1⟩

set_option maxHeartbeats 400000 in
theorem readSchema_any (s : ByteArray) (w : World) (hm : s.size ≤ 9223372036854775807) :
    Calls Try.prog 51 #[.string s] w (GReadPost (gcLoop noRule noFrom s 6 [] 0) s w) := by
  obtain ⟨R, hR⟩ : ∃ R, R = gcLoop noRule noFrom s 6 [] 0 := ⟨_, rfl⟩
  have C := gread_any rule_no from_no s w hm
  rw [← hR] at C ⊢
  clear hR
  go_enter Try.func51, Try.ntmps51
  go_wp2_with fail
  refine C.mono ?_
  rintro e w1 ⟨va, vn, vc, rs, rfl, V1, B1⟩
  clear C
  obtain ⟨x, hx⟩ : ∃ x, x = gdE R s := ⟨_, rfl⟩
  obtain ⟨y, hy⟩ : ∃ y, y = gdP R s := ⟨_, rfl⟩
  rw [← hx, ← hy]
  have HX : Hid (x = gdE R s ∧ y = gdP R s) := ⟨hx, hy⟩
  clear hx hy
  go_wp2
  refine bodyPost_ret (v := .tuple #[.slice va vn vc, .int .i64 x, .int .i64 y]) (by simp [results, Try.results51, go_sem]) rfl ⟨_, _, _, rs, by rw [HX.out.1, HX.out.2], V1, B1⟩
end Go.Proofs.Ythckelcjncnalaa
