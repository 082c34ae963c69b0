import Derived.Test.YthckelcjncnalaaLj6
namespace Go.Proofs.Ythckelcjncnalaa
open Go.RowKit

/-- A step of the script. -/
structure StV where
  k : Int
  a : Int
  b : Int
  c : Int
  v : Int
structure StV.ok (o : StV) : Prop where
  a1 : -9223372036854775808 ≤ o.a
  a2 : o.a ≤ 9223372036854775807
  b1 : -9223372036854775808 ≤ o.b
  b2 : o.b ≤ 9223372036854775807
  c1 : -9223372036854775808 ≤ o.c
  c2 : o.c ≤ 9223372036854775807
  v1 : -9223372036854775808 ≤ o.v
  v2 : o.v ≤ 9223372036854775807
/-- The script's cells. -/
structure ScL (w : World) (a : Option Addr) (len : Nat) (O : Nat → StV) : Prop where
  row : 0 < len → ∃ g o, a = some ⟨g, o, none⟩ ∧ g < w.heap.size ∧ ∀ i, i < len →
    w.cell? ⟨g, o + i * 5, none⟩ = some (.int .i64 (O i).k) ∧ w.cell? ⟨g, o + i * 5 + 1, none⟩ = some (.int .i64 (O i).a) ∧ w.cell? ⟨g, o + i * 5 + 2, none⟩ = some (.int .i64 (O i).b) ∧ w.cell? ⟨g, o + i * 5 + 3, none⟩ = some (.int .i64 (O i).c) ∧ w.cell? ⟨g, o + i * 5 + 4, none⟩ = some (.int .i64 (O i).v)
  ok : ∀ i, i < len → (O i).ok
set_option maxRecDepth 20000 in
set_option maxHeartbeats 2000000 in
theorem gscript_any {gb lo hi hb : Nat} {sv : SV} {vs : List (Int × SV)} {sz : Int} {w0 w : World} (h : GSt w0.heap.size gb lo hi hb sv vs sz 0 w0 w) (a : Option Addr) (len cap : Nat) (O : Nat → StV) (hS : ScL w0 a len O) (hlen : len + 1 ≤ 4398046511104) :
    Calls Try.prog 12 #[.pointer (some ⟨gb, 0, none⟩), .slice a len cap] w fun e w' => e = .returned (.bool true) ∧ GSt w0.heap.size gb lo hi hb sv vs sz len w0 w' := by
  have HG : Hid (GSt w0.heap.size gb lo hi hb sv vs sz 0 w0 w) := h
  have HS : Hid (ScL w0 a len O) := hS
  clear h hS
  go_enter Try.func12, Try.ntmps12
  go_wp2
  go_loopw [5] (fun iv wr => ∃ i : Nat, i ≤ len ∧ iv = .int .i64 i ∧ Hid (GSt w0.heap.size gb lo hi hb sv vs sz i w0 wr)) (fun iv _ => len - (intOf iv).toNat)
  case atStart => exact ⟨0, by omega, rfl, HG.out⟩
  case round =>
    clear HG
    obtain ⟨i, hi', rfl, HG⟩ := hrel
    by_cases hlt : i < len
    · obtain ⟨g, so, ea, hg, hcell⟩ := HS.out.row (by omega)
      obtain ⟨q0, q1, q2, q3, q4⟩ := hcell i hlt
      have ok := HS.out.ok i hlt
      obtain ⟨o, ho⟩ : ∃ o, o = O i := ⟨_, rfl⟩
      rw [← ho] at q0 q1 q2 q3 q4 ok
      obtain ⟨B1, nv, p, G, L, hGm⟩ := HG.out
      have z0 := (B1.cell (p := ⟨g, so + i * 5, none⟩) (by exact hg)).trans q0
      have z1 := (B1.cell (p := ⟨g, so + i * 5 + 1, none⟩) (by exact hg)).trans q1
      have z2 := (B1.cell (p := ⟨g, so + i * 5 + 2, none⟩) (by exact hg)).trans q2
      have z3 := (B1.cell (p := ⟨g, so + i * 5 + 3, none⟩) (by exact hg)).trans q3
      have z4 := (B1.cell (p := ⟨g, so + i * 5 + 4, none⟩) (by exact hg)).trans q4
      have hgr : g < wr.heap.size := Nat.lt_of_lt_of_le hg B1.size
      have C := gplay_any L o.k o.a o.b o.c o.v ok.a1 ok.a2 ok.b1 ok.b2 ok.c1 ok.c2 ok.v1 ok.v2 (by omega)
      unfold GOk at C
      have hib : (0 : Int) ≤ (i : Int) ∧ (i : Int) < (len : Int) := by omega
      have HEA : Hid (a = some ⟨g, so, none⟩) := ea
      rw [ea]
      clear q0 q1 q2 q3 q4 hcell ok ho ea B1 L
      obtain ⟨ok, oa, ob, oc, ov⟩ := o
      simp only [] at z0 z1 z2 z3 z4 C
      go_wp2_with fail
      refine C.mono ?_
      rintro e w2 ⟨rfl, B2, nv', p', G', L', hG'⟩
      have HG2 : Hid (GSt w0.heap.size gb lo hi hb sv vs sz (i + 1) w0 w2) := HG.out.ok B2 L' (by omega)
      clear C B2 L' HG hG'
      go_wp2
      exact ⟨⟨i + 1, by omega, rfl, HG2.out⟩, by simp [intOf]; omega⟩
    · obtain rfl : i = len := by omega
      go_wp2
      go_ret
      exact ⟨rfl, HG.out⟩
end Go.Proofs.Ythckelcjncnalaa
