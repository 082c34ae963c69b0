import Derived.Test.YthckelcjncnalaaHf5
import Derived.Deep.OwnRows
namespace Go.Proofs.Ythckelcjncnalaa
open Go.RowKit

theorem addOff (g j : Nat) : (⟨g, 0, none⟩ : Addr).add j = ⟨g, j, none⟩ := by unfold Addr.add; split <;> simp_all
/-- The graph that the statement keeps: roots, and of each object its class, number and references (-1: none). -/
structure GG where
  R : Nat → Int
  c : Nat → Int
  v : Nat → Int
  a : Nat → Int
  b : Nat → Int
  n : Nat
def nodeV (G : GG) (i : Nat) : List Value := [.int .u8 (G.c i), .int .i64 (G.v i), .int .i64 (G.a i), .int .i64 (G.b i)]
def flatN (G : GG) : List Value := (List.range G.n).flatMap (nodeV G)
theorem flatR_len (f : Nat → List Value) (hf : ∀ i, (f i).length = 4) : ∀ n, ((List.range n).flatMap f).length = n * 4 := by
  intro n
  induction n with
  | zero => rfl
  | succ n ih => rw [List.range_succ, List.flatMap_append, List.length_append, ih]; simp [hf]; omega
theorem flatR_get (f : Nat → List Value) (hf : ∀ i, (f i).length = 4) : ∀ n i o, i < n → o < 4 → ((List.range n).flatMap f)[i * 4 + o]? = (f i)[o]? := by
  intro n
  induction n with
  | zero => intro i o h; omega
  | succ n ih =>
    intro i o hi ho
    rw [List.range_succ, List.flatMap_append]
    rcases Nat.lt_or_ge i n with h | h
    · rw [List.getElem?_append_left (by rw [flatR_len f hf]; omega)]
      exact ih i o h ho
    · have : i = n := by omega
      subst this
      rw [List.getElem?_append_right (by rw [flatR_len f hf]; omega), flatR_len f hf, show i * 4 + o - i * 4 = o by omega]
      simp
theorem flatR_congr {f g : Nat → List Value} {n : Nat} (h : ∀ i, i < n → f i = g i) : (List.range n).flatMap f = (List.range n).flatMap g := by
  induction n with
  | zero => rfl
  | succ n ih => rw [List.range_succ, List.flatMap_append, List.flatMap_append, ih (fun i hi => h i (by omega))]; simp [h n (by omega)]
/-- v is a slice of nodes, made since base, that holds the graph's. -/
def ND (w : World) (base : Nat) (nv : Value) (G : GG) : Prop := w.ownsRow base 56 4 nv G.n (flatN G)
theorem ND.nil (w : World) (base : Nat) (G : GG) (h : G.n = 0) : ND w base (.slice none 0 0) G := by
  unfold ND flatN; rw [h]; exact World.ownsRow_nil _ _ _ _
theorem ND.shape {w : World} {base : Nat} {nv : Value} {G : GG} (h : ND w base nv G) : ∃ a c, nv = .slice a G.n c := by
  rcases h.2 with ⟨rfl, hn⟩ | ⟨g, cap, cur, rfl, _⟩
  · exact ⟨none, 0, by rw [hn]⟩
  · exact ⟨_, _, rfl⟩
theorem ND.below {w w' : World} {base : Nat} {nv : Value} {G : GG} (h : ND w base nv G) (hb : Below w.heap.size w w') : ND w' base nv G := World.ownsRow.kept h (gb_below hb none) (by cases hv : nv.ownBlock <;> simp)
theorem ND.kept {w w' : World} {base b : Nat} {nv : Value} {G : GG} (h : ND w base nv G) (g : w.grownBy w' (some b)) (hb : b < base) : ND w' base nv G := row_kept h g hb
/-- One by one. -/
structure NCell (w : World) (g i : Nat) (G : GG) : Prop where
  c0 : w.cell? ⟨g, i * 4, none⟩ = some (.int .u8 (G.c i))
  c1 : w.cell? ⟨g, i * 4 + 1, none⟩ = some (.int .i64 (G.v i))
  c2 : w.cell? ⟨g, i * 4 + 2, none⟩ = some (.int .i64 (G.a i))
  c3 : w.cell? ⟨g, i * 4 + 3, none⟩ = some (.int .i64 (G.b i))
  fz : ∀ o, w.frozen? ⟨g, o, none⟩ = false
theorem ND.cells {w : World} {base : Nat} {a : Option Addr} {n k : Nat} {G : GG} (h : ND w base (.slice a n k) G) : n = G.n ∧ G.n ≤ maxLen ∧ ∀ i, i < G.n → ∃ g, a = some ⟨g, 0, none⟩ ∧ base ≤ g ∧ g < w.heap.size ∧ NCell w g i G := by
  rcases h.2 with ⟨e, hn⟩ | ⟨g, cap, cur, e, hbg, hg, h1, h2, _⟩
  · cases e; exact ⟨hn.symm, by rw [hn]; exact Nat.zero_le _, fun i hi => by omega⟩
  · cases e
    refine ⟨rfl, by omega, fun i hi => ⟨g, rfl, hbg, (Array.getElem?_eq_some_iff.1 hg).1, ?_⟩⟩
    have c := World.ownsRow.cells h (g := g) rfl
    have e : ∀ o u, o < 4 → (nodeV G i)[o]? = some u → w.cell? ⟨g, i * 4 + o, none⟩ = some u := by
      intro o u ho hu
      rw [← addOff]
      refine c _ _ ?_
      rw [← hu]
      exact flatR_get (nodeV G) (fun _ => rfl) G.n i o hi ho
    exact ⟨e 0 _ (by omega) rfl, e 1 _ (by omega) rfl, e 2 _ (by omega) rfl, e 3 _ (by omega) rfl, fun o => frozen_of_row _ _ _ _ _ hg⟩
theorem flatR_set (f : Nat → List Value) (hf : ∀ i, (f i).length = 4) (x : Value) : ∀ n i o, i < n → o < 4 → ((List.range n).flatMap f).set (i * 4 + o) x = (List.range n).flatMap (fun j => if j = i then (f i).set o x else f j) := by
  intro n
  induction n with
  | zero => intro i o h; omega
  | succ n ih =>
    intro i o hi ho
    rw [List.range_succ, List.flatMap_append, List.flatMap_append]
    rcases Nat.lt_or_ge i n with h | h
    · rw [List.set_append_left _ _ (by rw [flatR_len f hf]; omega), ih i o h ho]
      congr 1
      have hne : n ≠ i := by omega
      simp [hne]
    · have : i = n := by omega
      subst this
      rw [List.set_append_right _ _ (by rw [flatR_len f hf]; omega), flatR_len f hf, show i * 4 + o - i * 4 = o by omega]
      congr 1
      · exact flatR_congr fun j hj => by rw [if_neg (by omega)]
      · simp
/-- A node's cell is set. -/
theorem ND.set {w : World} {base g : Nat} {n k : Nat} {G G' : GG} (h : ND w base (.slice (some ⟨g, 0, none⟩) n k) G) {i o : Nat} (hi : i < G.n) (ho : o < 4) (x : Value) (hn : G'.n = G.n) (he : ∀ j, j < G.n → nodeV G' j = if j = i then (nodeV G i).set o x else nodeV G j) :
    ND (w.setCell ⟨g, i * 4 + o, none⟩ x) base (.slice (some ⟨g, 0, none⟩) n k) G' := by
  have hl := flatR_len (nodeV G) (fun _ => rfl) G.n
  have hflat : flatN G' = (flatN G).set (i * 4 + o) x := by
    unfold flatN
    rw [hn, flatR_set (nodeV G) (fun _ => rfl) x G.n i o hi ho]
    exact flatR_congr he
  rcases h.2 with ⟨e, _⟩ | ⟨g', cap, cur, e, hbg, hg, h1, h2, h3, h4⟩
  · cases e
  · cases e
    unfold ND
    rw [hflat, hn]
    refine ⟨by rw [List.length_set]; exact hl, .inr ⟨g, k, cur.setIfInBounds (i * 4 + o) x, rfl, hbg, ?_, h1, h2, by rw [Array.size_setIfInBounds]; exact h3, ?_⟩⟩
    · exact heap_setCell_same w g (i * 4 + o) cur _ x hg
    · rw [Array.toList_setIfInBounds, List.take_set, h4]
/-- The graph's own block. -/
structure GP (w : World) (gb hb : Nat) (sz : Int) (nv : Value) (R : Nat → Int) : Prop where
  h : w.cell? ⟨gb, 0, none⟩ = some (.pointer (some ⟨hb, 0, none⟩))
  s : w.cell? ⟨gb, 1, none⟩ = some (.int .i64 sz)
  n : w.cell? ⟨gb, 2, none⟩ = some nv
  r : ∀ i, i < 8 → w.cell? ⟨gb, 3 + i, none⟩ = some (.int .i64 (R i))
  t : w.cell? ⟨gb, 11, none⟩ = some (.int .u8 78)
  frz : ∀ o, w.frozen? ⟨gb, o, none⟩ = false
theorem GP.lt {w : World} {gb hb : Nat} {sz : Int} {nv : Value} {R : Nat → Int} (h : GP w gb hb sz nv R) : gb < w.heap.size := World.block_lt_of_cell? w ⟨gb, 0, none⟩ h.h
theorem GP.keep {w w' : World} {gb hb : Nat} {sz : Int} {nv : Value} {R : Nat → Int} (h : GP w gb hb sz nv R) (e : w'.heap[gb]? = w.heap[gb]?) : GP w' gb hb sz nv R :=
  ⟨(World.cell?_of_block (a := ⟨gb, _, none⟩) e).trans h.h, (World.cell?_of_block (a := ⟨gb, _, none⟩) e).trans h.s, (World.cell?_of_block (a := ⟨gb, _, none⟩) e).trans h.n, fun i hi => (World.cell?_of_block (a := ⟨gb, _, none⟩) e).trans (h.r i hi), (World.cell?_of_block (a := ⟨gb, _, none⟩) e).trans h.t, fun o => (World.frozen?_of_block (a := ⟨gb, o, none⟩) e).trans (h.frz o)⟩
theorem GP.below {w w' : World} {gb hb : Nat} {sz : Int} {nv : Value} {R : Nat → Int} (h : GP w gb hb sz nv R) (hb' : Below w.heap.size w w') : GP w' gb hb sz nv R := h.keep (hb'.block gb h.lt)
set_option maxHeartbeats 400000 in
theorem gwords_any (gb hb : Nat) (sz : Int) (nv : Value) (R : Nat → Int) (c : Int) (w : World) (h : GP w gb hb sz nv R) :
    Calls Try.prog 48 #[.pointer (some ⟨gb, 0, none⟩), .int .u8 c] w fun e w' => e = .returned (.int .i64 (if c = 78 then 4 else 3)) ∧ w' = w := by
  have ht := h.t
  have hl := h.lt
  by_cases hc : c = 78
  · have e1 : (c == 78) = true := by simp [hc]
    rw [if_pos hc]
    clear hc h
    go_enter Try.func48, Try.ntmps48
    go_wp2
    go_ret
    exact ⟨rfl, rfl⟩
  · have e1 : (c == 78) = false := by simp [hc]
    rw [if_neg hc]
    clear hc h
    go_enter Try.func48, Try.ntmps48
    go_wp2
    go_ret
    exact ⟨rfl, rfl⟩
end Go.Proofs.Ythckelcjncnalaa
