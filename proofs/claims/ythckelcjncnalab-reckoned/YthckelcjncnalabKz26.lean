import Derived.Test.YthckelcjncnalabKz25
namespace Go.Proofs.Ythckelcjncnalab
open Go.RowKit

theorem schemaOf_any {base : Nat} {v : Value} {rs : List RCd} {cs : List GCd} {w : World} (h : GCs w base v rs cs) (hn : cs.length ≤ 6) (h6 : ∀ c ∈ cs, c.fs.length ≤ 6) :
    Calls Try.prog 37 #[v] w (SchPost cs w) := by
  rcases h.cells with ⟨rfl, hr⟩ | ⟨g, cap, rfl, hg, hcap, hm, hc⟩
  · have : cs = [] := by have := h.len; rw [hr] at this; exact List.length_eq_zero_iff.1 this.symm
    subst this
    exact schemaOf_nil w
  · exact schemaOf_row g cap rs cs w hg (by rw [h.len]; exact hn) h.len hc (fun i r c h1 h2 => (h.el i r c h1 h2).mono (Nat.zero_le _)) h6

set_option maxHeartbeats 400000 in
theorem read_bad (s : ByteArray) (w : World) (hm : s.size ≤ 9223372036854775807) (e0 p0 : Int) (h1 : gdE (gcLoop noRule noFrom s 6 [] 0) s = e0) (h2 : gdP (gcLoop noRule noFrom s 6 [] 0) s = p0) (hne : e0 ≠ 0)
    (r1 : readE s = e0) (r2 : readP s = p0) (r3 : readC s = []) :
    Calls Try.prog 19 #[.string s] w (RPost s w) := by
  have C := readSchema_any s (w.alloc (.cells #[.slice none 0 0] 52)) hm
  have E : Hid (gdE (gcLoop noRule noFrom s 6 [] 0) s = e0 ∧ gdP (gcLoop noRule noFrom s 6 [] 0) s = p0 ∧ readE s = e0 ∧ readP s = p0 ∧ readC s = []) := ⟨h1, h2, r1, r2, r3⟩
  have hne' : (e0 == 0) = false := by simpa using hne
  have hne'' : (e0 != 0) = true := by simpa using hne
  clear h1 h2 r1 r2 r3
  go_enter Try.func19, Try.ntmps19
  go_wp2_with fail
  refine C.mono ?_
  rintro e w1 ⟨va, vn, vc, rs, rfl, V1, hb1⟩
  rw [E.out.1, E.out.2.1]
  have hs1 : w.heap.size < w1.heap.size := by have := hb1.size; simp at this; omega
  have d0 : w1.cell? ⟨w.heap.size, 0, none⟩ = some (.slice none 0 0) := (hb1.cell (by show w.heap.size < _; simp)).trans (by go_simp)
  have df0 : w1.frozen? ⟨w.heap.size, 0, none⟩ = false := (hb1.frozen (by show w.heap.size < _; simp)).trans (by go_simp)
  have B1 : Below w.heap.size w w1 := ((Below.refl _ w).alloc (Nat.le_refl _) _).trans (hb1.mono (by simp))
  clear C V1 hb1
  go_wp2
  refine bodyPost_ret (v := .tuple #[.agg #[.slice none 0 0], .int .i64 e0, .int .i64 p0]) (by simp [results, Try.results19, go_sem, d0]) rfl ⟨_, _, _, [], by rw [E.out.2.2.1, E.out.2.2.2.1], by rw [E.out.2.2.2.2]; exact Cls.nil _ _, B1.setCell (Nat.le_refl _) _⟩

set_option maxHeartbeats 400000 in
theorem read_good (s : ByteArray) (w : World) (hs : s.size ≤ 200) (hok : (gcLoop noRule noFrom s 6 [] 0).ok = true) :
    Calls Try.prog 19 #[.string s] w (RPost s w) := by
  have C := readSchema_any s (w.alloc (.cells #[.slice none 0 0] 52)) (by omega)
  obtain ⟨m1, m2, m3⟩ := read_meet2 s
  obtain ⟨n1, n2, n3, n4⟩ := m3 hok
  have hs' : ¬ 200 < s.size := by omega
  have h1 : gdE (gcLoop noRule noFrom s 6 [] 0) s = 0 := by rw [gdE, if_neg hs', if_neg (by rw [hok]; decide)]
  have h2 : gdP (gcLoop noRule noFrom s 6 [] 0) s = 0 := by rw [gdP, if_neg hs', if_neg (by rw [hok]; decide)]
  have h3 : gdC (gcLoop noRule noFrom s 6 [] 0) s = (gcLoop noRule noFrom s 6 [] 0).cs := by rw [gdC, if_neg hs', if_neg (by rw [hok]; decide)]
  have r0 : (readR s).ok = true := by rw [m1, hok]
  have r1 : readE s = if gTwice (gcLoop noRule noFrom s 6 [] 0).cs = -1 then 0 else 3 := by rw [readE, if_neg hs', if_neg (by rw [r0]; decide), n2]
  have r2 : readP s = if gTwice (gcLoop noRule noFrom s 6 [] 0).cs = -1 then 0 else gTwice (gcLoop noRule noFrom s 6 [] 0).cs := by rw [readP, if_neg hs', if_neg (by rw [r0]; decide), n2]
  have r3 : readC s = if gTwice (gcLoop noRule noFrom s 6 [] 0).cs = -1 then (gcLoop noRule noFrom s 6 [] 0).cs.map schC else [] := by rw [readC, if_neg hs', if_neg (by rw [r0]; decide), n2, n1]
  unfold GReadPost at C
  rw [h1, h2, h3] at C
  generalize (gcLoop noRule noFrom s 6 [] 0).cs = cs at C r1 r2 r3 n3 n4
  obtain ⟨t, ht⟩ : ∃ t, t = gTwice cs := ⟨_, rfl⟩
  rw [← ht] at r1 r2 r3
  have HT : Hid (t = gTwice cs) := ht
  clear ht h1 h2 h3 r0 m1 m2 m3 n1 n2 hok hs'
  by_cases h : t = -1
  · rw [if_pos h] at r1 r2 r3
    have E : Hid (readE s = 0 ∧ readP s = 0 ∧ readC s = cs.map schC) := ⟨r1, r2, r3⟩
    subst h
    clear r1 r2 r3
    go_enter Try.func19, Try.ntmps19
    go_wp2_with fail
    refine C.mono ?_
    rintro e w1 ⟨va, vn, vc, rs, rfl, V1, hb1⟩
    clear C
    go_wp2_with fail
    refine (gtwice_any V1).mono ?_
    rintro e w2 ⟨rfl, hb2⟩
    rw [← HT.out]
    have V2 := V1.below hb2
    clear V1
    go_wp2_with fail
    refine (schemaOf_any V2 n3 n4).mono ?_
    rintro e w3 ⟨a3, n3', c3, vs, rfl, V3, hb3⟩
    have hz1 : w.heap.size < w1.heap.size := by have := hb1.size; simp at this; omega
    have hz2 : w.heap.size < w2.heap.size := Nat.lt_of_lt_of_le hz1 hb2.size
    have hz3 : w.heap.size < w3.heap.size := Nat.lt_of_lt_of_le hz2 hb3.size
    have d0 : w3.cell? ⟨w.heap.size, 0, none⟩ = some (.slice none 0 0) := (hb3.cell (by exact hz2)).trans ((hb2.cell (by exact hz1)).trans ((hb1.cell (by show w.heap.size < _; simp)).trans (by go_simp)))
    have df0 : w3.frozen? ⟨w.heap.size, 0, none⟩ = false := (hb3.frozen (by exact hz2)).trans ((hb2.frozen (by exact hz1)).trans ((hb1.frozen (by show w.heap.size < _; simp)).trans (by go_simp)))
    have B3 : Below w.heap.size w w3 := (((Below.refl _ w).alloc (Nat.le_refl _) _).trans (hb1.mono (by simp))).trans ((hb2.mono (by omega)).trans (hb3.mono (by omega)))
    clear hb1 hb2 hb3 V2
    go_wp2
    refine bodyPost_ret (v := .tuple #[.agg #[.slice a3 n3' c3], .int .i64 0, .int .i64 0]) (by simp [results, Try.results19, go_sem, d0]) rfl ⟨_, _, _, vs, by rw [E.out.1, E.out.2.1], ?_, B3.setCell (Nat.le_refl _) _⟩
    rw [E.out.2.2]
    exact (V3.kept (gb_set _ _ _ _) hz2).mono (by omega)
  · rw [if_neg h] at r1 r2 r3
    have E : Hid (readE s = 3 ∧ readP s = t ∧ readC s = []) := ⟨r1, r2, r3⟩
    have h' : (t == -1) = false := by simpa using h
    have h'' : (t != -1) = true := by simpa using h
    clear r1 r2 r3 h
    go_enter Try.func19, Try.ntmps19
    go_wp2_with fail
    refine C.mono ?_
    rintro e w1 ⟨va, vn, vc, rs, rfl, V1, hb1⟩
    clear C
    go_wp2_with fail
    refine (gtwice_any V1).mono ?_
    rintro e w2 ⟨rfl, hb2⟩
    rw [← HT.out]
    have hz1 : w.heap.size < w1.heap.size := by have := hb1.size; simp at this; omega
    have hz2 : w.heap.size < w2.heap.size := Nat.lt_of_lt_of_le hz1 hb2.size
    have d0 : w2.cell? ⟨w.heap.size, 0, none⟩ = some (.slice none 0 0) := (hb2.cell (by exact hz1)).trans ((hb1.cell (by show w.heap.size < _; simp)).trans (by go_simp))
    have df0 : w2.frozen? ⟨w.heap.size, 0, none⟩ = false := (hb2.frozen (by exact hz1)).trans ((hb1.frozen (by show w.heap.size < _; simp)).trans (by go_simp))
    have B2 : Below w.heap.size w w2 := (((Below.refl _ w).alloc (Nat.le_refl _) _).trans (hb1.mono (by simp))).trans (hb2.mono (by omega))
    clear hb1 hb2 V1
    go_wp2
    refine bodyPost_ret (v := .tuple #[.agg #[.slice none 0 0], .int .i64 3, .int .i64 t]) (by simp [results, Try.results19, go_sem, d0]) rfl ⟨_, _, _, [], by rw [E.out.1, E.out.2.1], by rw [E.out.2.2]; exact Cls.nil _ _, B2.setCell (Nat.le_refl _) _⟩

theorem read_any (s : ByteArray) (w : World) (hm : s.size ≤ 9223372036854775807) : Calls Try.prog 19 #[.string s] w (RPost s w) := by
  by_cases h : 200 < s.size
  · exact read_bad s w hm 1 0 (by rw [gdE, if_pos h]) (by rw [gdP, if_pos h]) (by decide) (by rw [readE, if_pos h]) (by rw [readP, if_pos h]) (by rw [readC, if_pos h])
  · cases hok : (gcLoop noRule noFrom s 6 [] 0).ok with
    | true => exact read_good s w (by omega) hok
    | false =>
      obtain ⟨m1, m2, _⟩ := read_meet2 s
      rw [hok] at m1
      exact read_bad s w hm 2 (gcLoop noRule noFrom s 6 [] 0).at_ (by rw [gdE, if_neg h, if_pos hok]) (by rw [gdP, if_neg h, if_pos hok]) (by decide) (by rw [readE, if_neg h, if_pos m1]) (by rw [readP, if_neg h, if_pos m1, m2]) (by rw [readC, if_neg h, if_pos m1])
end Go.Proofs.Ythckelcjncnalab
