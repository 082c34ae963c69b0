import Derived.Test.YtiofbnmpppjdbabRd6
import Derived.RegionTactic
import Derived.ChangeAlike
namespace Go.Proofs.Ytiofbnmpppjdbab
open Go.RowKit

/-- What Read comes to on a text. -/
def readR (s : ByteArray) : RCS := rcLoop s 6 [] 0 (-1)
def readE (s : ByteArray) : Int := if 200 < s.size then 1 else if (readR s).ok = false then 2 else if (readR s).tw = -1 then 0 else 3
def readP (s : ByteArray) : Int := if 200 < s.size then 0 else if (readR s).ok = false then (readR s).at_ else if (readR s).tw = -1 then 0 else (readR s).tw
def readC (s : ByteArray) : List (Int × List (Int × Int)) := if 200 < s.size then [] else if (readR s).ok = false then [] else if (readR s).tw = -1 then (readR s).cs else []

def RPost (s : ByteArray) (w : World) (e : Ending) (w' : World) : Prop := ∃ (a : Option Addr) (n c : Nat) (vs : List (Int × SV)),
  e = .returned (.tuple #[.agg #[.slice a n c], .int .i64 (readE s), .int .i64 (readP s)]) ∧ Cls w' w.heap.size (.slice a n c) vs (readC s) ∧ Below w.heap.size w w'

theorem Cls.alloc {w : World} {base : Nat} {v : Value} {vs : List (Int × SV)} {cs : List (Int × List (Int × Int))} (h : Cls w base v vs cs) (o : Obj) : Cls (w.alloc o) base v vs cs := ⟨h.row.alloc o, h.ls, fun i p c h1 h2 => (h.fld i p c h1 h2).alloc o⟩
theorem below_of_gb {w0 w w' : World} {b : Nat} (g : w0.grownBy w' (some b)) (h : Below w.heap.size w w0) (hb : w.heap.size ≤ b) : Below w.heap.size w w' :=
  h.trans ⟨g.os, g.tape, g.output, g.size, fun k hk => g.block k (Nat.lt_of_lt_of_le hk h.size) (by simp; omega)⟩

set_option maxHeartbeats 400000 in
theorem read_long (s : ByteArray) (w : World) (hs : 200 < s.size) (_hm : s.size ≤ 9223372036854775807) : Calls Try.prog 9 #[.string s] w (RPost s w) := by
  have e1 : readE s = 1 := by simp [readE, hs]
  have e2 : readP s = 0 := by simp [readP, hs]
  have e3 : readC s = [] := by simp [readC, hs]
  go_enter Try.func9, Try.ntmps9
  go_wp2
  refine bodyPost_ret (v := .tuple #[.agg #[.slice none 0 0], .int .i64 1, .int .i64 0]) (by simp [results, Try.results9, go_sem]) rfl ⟨_, _, _, [], by rw [e1, e2], by rw [e3]; exact Cls.nil _ _, ?_⟩
  exact (Below.refl _ _).alloc (Nat.le_refl _) _

set_option maxHeartbeats 400000 in
theorem read_short (s : ByteArray) (w : World) (hs : s.size ≤ 200) : Calls Try.prog 9 #[.string s] w (RPost s w) := by
  have hs' : ¬ 200 < s.size := by omega
  have R0 : RS ((w.alloc (.cells #[.slice none 0 0] 39)).alloc (.cells #[.string s, .int .i64 0, .int .i64 (-1)] 53)) (w.heap.size + 1) s 0 (-1) := by
    refine ⟨?_, ?_, ?_, ?_, ?_, Nat.zero_le _, by omega⟩ <;> go_simp
  obtain ⟨ok, a, t, cs, hr⟩ : ∃ ok a t cs, rcLoop s 6 [] 0 (-1) = ⟨ok, a, t, cs⟩ := ⟨_, _, _, _, rfl⟩
  have Cc := classes_any s (w.heap.size + 1) 0 (-1) _ R0 _ hr.symm
  have hr' : readR s = ⟨ok, a, t, cs⟩ := hr
  have e1 : readE s = if ok = false then 2 else if t = -1 then 0 else 3 := by simp only [readE]; rw [if_neg hs', hr']
  have e2 : readP s = if ok = false then (a : Int) else if t = -1 then 0 else t := by simp only [readP]; rw [if_neg hs', hr']
  have e3 : readC s = if ok = false then [] else if t = -1 then cs else [] := by simp only [readC]; rw [if_neg hs', hr']
  clear hr hr' hs'
  cases ok with
  | false =>
    rw [if_pos rfl] at e1 e2 e3
    have E : Hid (readE s = 2 ∧ readP s = a ∧ readC s = []) := ⟨e1, e2, e3⟩
    clear e1 e2 e3
    go_enter Try.func9, Try.ntmps9
    go_wp2_with (go_at_call 11; refine Cc.mono ?_; rintro e w1 ⟨va, vn, vc, vs, rfl, V1, R1, hg1⟩; obtain ⟨p0, p1, p2, q1, q2, _, _⟩ := id R1; have hl2 := R1.blt; obtain ⟨lc1, lf1, ls1⟩ := Loc.of hg1 (r := w.heap.size) (by simp; omega) (by omega); have d0 : w1.cell? ⟨w.heap.size, 0, none⟩ = some (.slice none 0 0) := by rw [lc1]; go_simp)
    go_region
    all_goals go_wp2
    have B1 : Below w.heap.size w w1 := below_of_gb hg1 (((Below.refl _ _).alloc (Nat.le_refl _) _).alloc (by simp) _) (by omega)
    refine bodyPost_ret (v := .tuple #[.agg #[.slice none 0 0], .int .i64 2, .int .i64 a]) (by simp [results, Try.results9, go_sem, d0, ls1]) rfl ⟨_, _, _, [], by rw [E.out.1, E.out.2.1], ?_, ?_⟩
    · rw [E.out.2.2]; exact Cls.nil _ _
    · exact ((B1.setCell (Nat.le_refl _) _).alloc (by have := B1.size; simpa using this) _).drew
  | true =>
    rw [if_neg (by decide)] at e1 e2 e3
    by_cases ht : t = -1
    · rw [if_pos ht] at e1 e2 e3
      have E : Hid (readE s = 0 ∧ readP s = 0 ∧ readC s = cs) := ⟨e1, e2, e3⟩
      have ht' : (t == -1) = true := by simpa using ht
      clear e1 e2 e3 ht
      go_enter Try.func9, Try.ntmps9
      go_wp2_with (go_at_call 11; refine Cc.mono ?_; rintro e w1 ⟨va, vn, vc, vs, rfl, V1, R1, hg1⟩; obtain ⟨p0, p1, p2, q1, q2, _, _⟩ := id R1; have hl2 := R1.blt; obtain ⟨lc1, lf1, ls1⟩ := Loc.of hg1 (r := w.heap.size) (by simp; omega) (by omega); have d0 : w1.cell? ⟨w.heap.size, 0, none⟩ = some (.slice none 0 0) := by rw [lc1]; go_simp)
      have B1 : Below w.heap.size w w1 := below_of_gb hg1 (((Below.refl _ _).alloc (Nat.le_refl _) _).alloc (by simp) _) (by omega)
      refine bodyPost_ret (v := .tuple #[.agg #[.slice va vn vc], .int .i64 0, .int .i64 0]) (by simp [results, Try.results9, go_sem, d0, ls1]) rfl ⟨_, _, _, vs, by rw [E.out.1, E.out.2.1], ?_, ?_⟩
      · rw [E.out.2.2]; exact ((V1.kept (gb_set _ _ _ _) (by simp; omega)).alloc _).mono (by simp; omega)
      · exact (B1.setCell (Nat.le_refl _) _).alloc (by have := B1.size; simpa using this) _
    · rw [if_neg ht] at e1 e2 e3
      have E : Hid (readE s = 3 ∧ readP s = t ∧ readC s = []) := ⟨e1, e2, e3⟩
      have ht' : (t == -1) = false := by simpa using ht
      clear e1 e2 e3 ht
      go_enter Try.func9, Try.ntmps9
      go_wp2_with (go_at_call 11; refine Cc.mono ?_; rintro e w1 ⟨va, vn, vc, vs, rfl, V1, R1, hg1⟩; obtain ⟨p0, p1, p2, q1, q2, _, _⟩ := id R1; have hl2 := R1.blt; obtain ⟨lc1, lf1, ls1⟩ := Loc.of hg1 (r := w.heap.size) (by simp; omega) (by omega); have d0 : w1.cell? ⟨w.heap.size, 0, none⟩ = some (.slice none 0 0) := by rw [lc1]; go_simp)
      go_region
      all_goals go_wp2
      have B1 : Below w.heap.size w w1 := below_of_gb hg1 (((Below.refl _ _).alloc (Nat.le_refl _) _).alloc (by simp) _) (by omega)
      refine bodyPost_ret (v := .tuple #[.agg #[.slice none 0 0], .int .i64 3, .int .i64 t]) (by simp [results, Try.results9, go_sem, d0, ls1]) rfl ⟨_, _, _, [], by rw [E.out.1, E.out.2.1], ?_, ?_⟩
      · rw [E.out.2.2]; exact Cls.nil _ _
      · exact ((B1.setCell (Nat.le_refl _) _).alloc (by have := B1.size; simpa using this) _).drew

theorem read_any (s : ByteArray) (w : World) (hm : s.size ≤ 9223372036854775807) : Calls Try.prog 9 #[.string s] w (RPost s w) := by
  by_cases h : 200 < s.size
  · exact read_long s w h hm
  · exact read_short s w (by omega)
end Go.Proofs.Ytiofbnmpppjdbab
