import Derived.Test.YthckelcjncnalabKz01
namespace Go.Proofs.Ythckelcjncnalab
open Go.RowKit

set_option maxHeartbeats 400000 in
theorem index_nil (L x : Int) (w : World) :
    Calls Try.prog 48 #[.agg #[.int .u8 L, .slice none 0 0], .int .u8 x] w fun e w' => e = .returned (.int .i64 (-1)) ∧ Below w.heap.size w w' := by
  go_enter Try.func48, Try.ntmps48
  go_wp2
  refine wp_loop_rounds 1 ?_; rw [rounds_succ]
  go_wp2
  go_ret
  exact ⟨rfl, (Below.refl _ _).alloc (Nat.le_refl _) _⟩
set_option maxHeartbeats 400000 in
theorem index_row (L x : Int) (g cap : Nat) (fs : List (Int × Int)) (w : World) (hg : g < w.heap.size) (hm : fs.length ≤ 9223372036854775807)
    (hc : ∀ i, i < fs.length → w.cell? ⟨g, i * 2, none⟩ = some (.int .u8 (fs[i]?.getD (0, 0)).1) ∧ w.cell? ⟨g, i * 2 + 1, none⟩ = some (.int .u8 (fs[i]?.getD (0, 0)).2)) :
    Calls Try.prog 48 #[.agg #[.int .u8 L, .slice (some ⟨g, 0, none⟩) fs.length cap], .int .u8 x] w fun e w' => e = .returned (.int .i64 (idxF fs x)) ∧ Below w.heap.size w w' := by
  obtain ⟨n, hn⟩ : ∃ n, n = fs.length := ⟨_, rfl⟩
  rw [← hn] at hm hc ⊢
  have HN : Hid (n = fs.length) := hn
  clear hn
  go_enter Try.func48, Try.ntmps48
  go_wp2
  go_loopw [10] (fun i wr => ∃ k : Nat, k ≤ n ∧ i = .int .i64 k ∧ Hid (∀ j, j < k → ¬ (fs[j]?.getD (0, 0)).1 = x) ∧ Below w.heap.size w wr) (fun i _ => n - (intOf i).toNat)
  case atStart => exact ⟨0, Nat.zero_le _, rfl, fun j hj => by omega, (Below.refl _ _).alloc (Nat.le_refl _) _⟩
  case round =>
    obtain ⟨k, hk, rfl, hno, hb⟩ := hrel
    by_cases hlt : k < n
    · have c0 : wr.cell? ⟨g, k * 2, none⟩ = some (.int .u8 (fs[k]?.getD (0, 0)).1) := (hb.cell (by exact hg)).trans (hc k hlt).1
      have c1 : wr.cell? ⟨g, k * 2 + 1, none⟩ = some (.int .u8 (fs[k]?.getD (0, 0)).2) := (hb.cell (by exact hg)).trans (hc k hlt).2
      go_wp2
      · have h1 : ((fs[k]?.getD (0, 0)).1 == x) = true := by assumption
        go_ret
        exact ⟨ret_int (idxF_hit fs x k (by rw [← HN.out]; exact hlt) hno h1).symm, hb.alloc (Nat.le_trans (Nat.le_refl _) hb.size) _⟩
      · have h1 : ((fs[k]?.getD (0, 0)).1 == x) = false := by assumption
        go_roundw
        case rel => exact ⟨k + 1, by omega, by go_num, no_step hno h1, hb.alloc hb.size _⟩
        case measure => simp [intOf]; omega
    · go_wp2
      go_ret
      exact ⟨ret_int (idxF_none fs x (fun j hj => hno j (by rw [← HN.out] at hj; omega))).symm, hb⟩
theorem index_any (L x : Int) (v : Value) (fs : List (Int × Int)) (w : World) (h : FV w v fs) :
    Calls Try.prog 48 #[.agg #[.int .u8 L, v], .int .u8 x] w fun e w' => e = .returned (.int .i64 (idxF fs x)) ∧ Below w.heap.size w w' := by
  rcases h.shape with ⟨rfl, rfl⟩ | ⟨g, cap, rfl, hg, hm, hc⟩
  · exact index_nil L x w
  · exact index_row L x g cap fs w hg hm hc
set_option maxHeartbeats 400000 in
theorem find_nil (x : Int) (w : World) :
    Calls Try.prog 24 #[.agg #[.slice none 0 0], .int .u8 x] w fun e w' => e = .returned (.tuple #[.agg #[.int .u8 0, .slice none 0 0], .bool false]) ∧ Below w.heap.size w w' := by
  go_enter Try.func24, Try.ntmps24
  go_wp2
  refine wp_loop_rounds 1 ?_; rw [rounds_succ]
  go_wp2
  exact bodyPost_ret (v := .tuple #[.agg #[.int .u8 0, .slice none 0 0], .bool false]) (by simp [results, Try.results24, go_sem]) rfl ⟨rfl, ((Below.refl _ _).alloc (Nat.le_refl _) _).alloc (by simp) _⟩
set_option maxHeartbeats 400000 in
theorem find_row (x : Int) (g cap : Nat) (fs : List (Int × SV)) (w : World) (hg : g < w.heap.size) (hm : fs.length ≤ 9223372036854775807)
    (hc : ∀ i, i < fs.length → w.cell? ⟨g, i * 2, none⟩ = some (.int .u8 (fs[i]?.getD noC).1) ∧ w.cell? ⟨g, i * 2 + 1, none⟩ = some (.slice (fs[i]?.getD noC).2.a (fs[i]?.getD noC).2.n (fs[i]?.getD noC).2.c)) :
    Calls Try.prog 24 #[.agg #[.slice (some ⟨g, 0, none⟩) fs.length cap], .int .u8 x] w fun e w' => e = .returned (.tuple #[clsV (findC fs x), .bool (hasC fs x)]) ∧ Below w.heap.size w w' := by
  obtain ⟨n, hn⟩ : ∃ n, n = fs.length := ⟨_, rfl⟩
  rw [← hn] at hm hc ⊢
  have HN : Hid (n = fs.length) := hn
  clear hn
  go_enter Try.func24, Try.ntmps24
  go_wp2
  go_loopw [11] (fun i wr => ∃ k : Nat, k ≤ n ∧ i = .int .i64 k ∧ Hid (∀ j, j < k → ¬ (fs[j]?.getD noC).1 = x) ∧ Below (w.heap.size + 2) ((w.alloc (.cells #[.slice (some ⟨g, 0, none⟩) n cap] 52)).alloc (.cells #[.int .u8 0, .slice none 0 0] 69)) wr) (fun i _ => n - (intOf i).toNat)
  case atStart => exact ⟨0, Nat.zero_le _, rfl, fun j hj => by omega, Below.refl _ _⟩
  case round =>
    obtain ⟨k, hk, rfl, hno, hb⟩ := hrel
    have r0 : wr.cell? ⟨w.heap.size + 1, 0, none⟩ = some (.int .u8 0) := (hb.cell (by show w.heap.size + 1 < _; omega)).trans (by go_simp)
    have r1 : wr.cell? ⟨w.heap.size + 1, 1, none⟩ = some (.slice none 0 0) := (hb.cell (by show w.heap.size + 1 < _; omega)).trans (by go_simp)
    have rf0 : wr.frozen? ⟨w.heap.size + 1, 0, none⟩ = false := (hb.frozen (by show w.heap.size + 1 < _; omega)).trans (by go_simp)
    have rf1 : wr.frozen? ⟨w.heap.size + 1, 1, none⟩ = false := (hb.frozen (by show w.heap.size + 1 < _; omega)).trans (by go_simp)
    have hsz : w.heap.size + 2 ≤ wr.heap.size := by have := hb.size; simpa using this
    have hsz1 : w.heap.size + 1 < wr.heap.size := by omega
    have hB : Below w.heap.size w wr := (((Below.refl _ _).alloc (Nat.le_refl _) _).alloc (by simp) _).trans (hb.mono (by omega))
    by_cases hlt : k < n
    · have c0 : wr.cell? ⟨g, k * 2, none⟩ = some (.int .u8 (fs[k]?.getD noC).1) := (hb.cell (by show g < _; omega)).trans ((by go_simp : _ = w.cell? ⟨g, k * 2, none⟩).trans (hc k hlt).1)
      have c1 : wr.cell? ⟨g, k * 2 + 1, none⟩ = some (.slice (fs[k]?.getD noC).2.a (fs[k]?.getD noC).2.n (fs[k]?.getD noC).2.c) := (hb.cell (by show g < _; omega)).trans ((by go_simp : _ = w.cell? ⟨g, k * 2 + 1, none⟩).trans (hc k hlt).2)
      go_wp2
      · have h1 : ((fs[k]?.getD noC).1 == x) = true := by assumption
        have hf := findC_hit fs x k (by rw [← HN.out]; exact hlt) hno h1
        refine bodyPost_ret (v := .tuple #[clsV (fs[k]?.getD noC), .bool true]) (by simp [results, Try.results24, go_sem, r0, r1, hsz1, clsV]) rfl ⟨by rw [hf.1, hf.2], ?_⟩
        exact ((hB.setCell (by show _ ≤ w.heap.size + 1; omega) _).setCell (by show _ ≤ w.heap.size + 1; omega) _).alloc (by have := hB.size; simpa using this) _
      · have h1 : ((fs[k]?.getD noC).1 == x) = false := by assumption
        go_roundw
        case rel => exact ⟨k + 1, by omega, by go_num, noC_step hno h1, hb.alloc hsz _⟩
        case measure => simp [intOf]; omega
    · have hf := findC_none fs x (fun j hj => hno j (by rw [← HN.out] at hj; omega))
      go_wp2
      refine bodyPost_ret (v := .tuple #[clsV noC, .bool false]) (by simp [results, Try.results24, go_sem, r0, r1, clsV, noC]) rfl ⟨by rw [hf.1, hf.2], ?_⟩
      exact (hB.setCell (by show _ ≤ w.heap.size + 1; omega) _).setCell (by show _ ≤ w.heap.size + 1; omega) _
theorem find_any (x : Int) (v : Value) (vs : List (Int × SV)) (w : World) (h : CV w v vs) :
    Calls Try.prog 24 #[.agg #[v], .int .u8 x] w fun e w' => e = .returned (.tuple #[clsV (findC vs x), .bool (hasC vs x)]) ∧ Below w.heap.size w w' := by
  rcases h.shape with ⟨rfl, rfl⟩ | ⟨g, cap, rfl, hg, hm, hc⟩
  · exact find_nil x w
  · exact find_row x g cap vs w hg hm hc
theorem find_rs {x : Int} {v : Value} {vs : List (Int × SV)} {w : World} (h : CV w v vs) (y : Bool) (hy : hasC vs x = y) :
    Calls Try.prog 24 #[.agg #[v], .int .u8 x] w fun e w' => e = .returned (.tuple #[.agg #[.int .u8 (findC vs x).1, .slice (findC vs x).2.a (findC vs x).2.n (findC vs x).2.c], .bool y]) ∧ Below w.heap.size w w' := by
  subst hy; exact find_any x v vs w h
end Go.Proofs.Ythckelcjncnalab
