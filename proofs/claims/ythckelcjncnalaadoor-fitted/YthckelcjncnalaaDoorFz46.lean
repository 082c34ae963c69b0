import Derived.Test.YthckelcjncnalaaDoorFz45
namespace Go.Proofs.YthckelcjncnalaaDoor
open Go.RowKit

theorem schema_is {s : ByteArray} (h : readE s = 0) {cs : List GC} (hg : gaAll s = some cs) : readC s = cs.map gcl ∧ ∀ p, ¬ Rep cs p := by
  rcases read_meet s with ⟨_, h2⟩ | ⟨cs', h1, h2, h3, h4⟩
  · rw [hg] at h2; cases h2
  · rw [hg] at h2
    injection h2 with h2
    subst h2
    unfold readE at h
    unfold readC
    by_cases hs : 200 < s.size
    · rw [if_pos hs] at h; omega
    · have ho : ¬ (readR s).ok = false := by rw [h1]; decide
      rw [if_neg hs, if_neg ho] at h
      by_cases ht : (readR s).tw = -1
      · rw [if_neg hs, if_neg ho, if_pos ht, h3]
        refine ⟨rfl, ?_⟩
        rw [ht] at h4
        rcases h4 with ⟨_, h4⟩ | ⟨h4, _⟩
        · exact h4
        · omega
      · rw [if_neg ht] at h; omega
theorem schema_uq {s : ByteArray} (h : readE s = 0) {cs : List GC} (hg : gaAll s = some cs) : Uq (cs.map gcl) := by
  obtain ⟨hc, hr⟩ := schema_is h hg
  have hf := readC_fine s
  rw [hc] at hf
  have hl : (cs.map gcl).length = cs.length := List.length_map ..
  have hcat : ∀ i, i < cs.length → cat (cs.map gcl) i = gcl (cs[i]?.getD noGC) := fun i hi => cat_gcl cs i hi
  have hmem : ∀ i, i < (cs.map gcl).length → cat (cs.map gcl) i ∈ cs.map gcl := by
    intro i hi
    unfold cat; rw [List.getElem?_eq_getElem hi]; exact List.getElem_mem hi
  have hN : ∀ i j, i < cs.length → j < i → (cs[i]?.getD noGC).n ≠ (cs[j]?.getD noGC).n := by
    intro i j hi hj he
    exact hr _ ⟨i, hi, .inl ⟨j, hj, he, rfl⟩⟩
  have hFN : ∀ i j k, i < cs.length → j < (cs[i]?.getD noGC).l.length → k < j → ((cs[i]?.getD noGC).l[j]?.getD noGF).n ≠ ((cs[i]?.getD noGC).l[k]?.getD noGF).n := by
    intro i j k hi hj hk he
    exact hr _ ⟨i, hi, .inr ⟨j, hj, k, hk, he, rfl⟩⟩
  have hfl : ∀ i j, i < cs.length → j < (cat (cs.map gcl) i).2.length → j < (cs[i]?.getD noGC).l.length ∧ (cat (cs.map gcl) i).2[j]?.getD (0, 0) = (((cs[i]?.getD noGC).l[j]?.getD noGF).n, ((cs[i]?.getD noGC).l[j]?.getD noGF).k) := by
    intro i j hi hj
    rw [hcat i hi] at hj ⊢
    have hj' : j < (cs[i]?.getD noGC).l.length := by simpa [gcl] using hj
    exact ⟨hj', gk_get _ j hj'⟩
  have hok : ∀ i j, i < (cs.map gcl).length → j < (cat (cs.map gcl) i).2.length → okF ((cat (cs.map gcl) i).2[j]?.getD (0, 0)) := by
    intro i j hi hj
    rw [List.getElem?_eq_getElem hj]
    exact (hf.2 _ (hmem i hi)).2 _ (List.getElem_mem hj)
  refine ⟨fun i j hi hj he => ?_, fun i j k hi hj hk he => ?_, fun i j hi hj => ?_, fun i j hi hj => ?_, hf.1, fun i => ?_⟩
  · rw [hl] at hi hj
    rw [hcat i hi, hcat j hj] at he
    have he' : (cs[i]?.getD noGC).n = (cs[j]?.getD noGC).n := he
    rcases Nat.lt_trichotomy i j with h' | h' | h'
    · exact absurd he'.symm (hN j i hj h')
    · exact h'
    · exact absurd he' (hN i j hi h')
  · rw [hl] at hi
    obtain ⟨j1, j2⟩ := hfl i j hi hj
    obtain ⟨k1, k2⟩ := hfl i k hi hk
    rw [j2, k2] at he
    have he' : ((cs[i]?.getD noGC).l[j]?.getD noGF).n = ((cs[i]?.getD noGC).l[k]?.getD noGF).n := he
    rcases Nat.lt_trichotomy j k with h' | h' | h'
    · exact absurd he'.symm (hFN i k j hi k1 h')
    · exact h'
    · exact absurd he' (hFN i j k hi j1 h')
  · exact isKindB_pos (hok i j hi hj).2.2
  · exact isLw_yes ⟨(hok i j hi hj).1, (hok i j hi hj).2.1⟩
  · rcases Nat.lt_or_ge i (cs.map gcl).length with hi | hi
    · exact (hf.2 _ (hmem i hi)).1
    · unfold cat; rw [List.getElem?_eq_none hi]; exact Nat.zero_le _
set_option maxHeartbeats 400000 in
theorem rfits_any (sc s : ByteArray) (w : World) (hm : sc.size ≤ 9223372036854775807) (hm2 : s.size ≤ 9223372036854775807) (hE : Ends w) :
    Calls Tryd.prog 8 #[.string sc, .string s] w fun e w' => e = .returned (.tuple #[.int .i64 (fitE sc s), .int .i64 (fitP sc s)]) ∧ Below w.heap.size w w' := by
  have C := schema_any sc w hm hE
  unfold SPost at C
  have HE : Hid (Ends w) := hE
  obtain ⟨F1, hF1⟩ : ∃ F1, fitE sc s = F1 := ⟨_, rfl⟩
  obtain ⟨F2, hF2⟩ : ∃ F2, fitP sc s = F2 := ⟨_, rfl⟩
  rw [hF1, hF2]
  have HF : Hid (fitE sc s = F1 ∧ fitP sc s = F2) := ⟨hF1, hF2⟩
  clear hF1 hF2 hE
  go_enter Tryd.func8, Tryd.ntmps8
  go_wp2_with fail
  refine C.mono ?_
  rintro e w1 ⟨a, n, c, E, P, rfl, hS, hV, B1⟩
  obtain ⟨e1, e2⟩ := agree sc E P hS
  have HEE : Hid (E = readE sc ∧ P = readP sc) := ⟨e1, e2⟩
  clear C hS e1 e2
  by_cases h1 : E = 0
  · have q1 : (E != 0) = false := by simp [h1]
    have hr0 : readE sc = 0 := by rw [← HEE.out.1]; exact h1
    obtain ⟨cs, vs, hga, V⟩ := hV h1
    have hne := (gaAll_ok sc cs hga).2
    obtain ⟨g, cap, ev, K, _⟩ := V.kc hne
    have hU := schema_uq hr0 hga
    have hrc := (schema_is hr0 hga).1
    have D := update_any s K hU (HE.out.below B1) hm2
    rw [List.length_map] at D
    have ekx : (kxOf vs g cap).g = g ∧ (kxOf vs g cap).cap = cap := ⟨rfl, rfl⟩
    rw [ekx.1, ekx.2, ← ev] at D
    have HR : Hid (∀ E2 P2, UpRef (cs.map gcl) s E2 P2 → E2 = F1 ∧ P2 = F2) := by
      intro E2 P2 hu
      obtain ⟨a1, a2⟩ := uagree hU hu
      rw [← hrc] at a1 a2
      have n0 : ¬ readE sc ≠ 0 := by rw [hr0]; decide
      rw [a1, a2, ← HF.out.1, ← HF.out.2]
      unfold fitE fitP
      rw [if_neg n0, if_neg n0]
      exact ⟨rfl, rfl⟩
    unfold UUPost at D
    clear h1 hr0 hga V hne ev K hU hrc hV ekx
    go_wp2_with fail
    refine D.mono ?_
    rintro e w2 ⟨a2, n2, c2, E2, P2, rfl, hu, _, B2⟩
    obtain ⟨rfl, rfl⟩ := HR.out E2 P2 hu
    clear D hu
    go_wp2
    go_ret2
    exact ⟨rfl, B1.trans (B2.mono B1.size)⟩
  · have q1 : (E != 0) = true := by simp [h1]
    have H2 : Hid (E = F1 ∧ P = F2) := by
      have n0 : readE sc ≠ 0 := by rw [← HEE.out.1]; exact h1
      refine ⟨?_, ?_⟩
      · rw [← HF.out.1]; unfold fitE; rw [if_pos n0]; exact HEE.out.1
      · rw [← HF.out.2]; unfold fitP; rw [if_pos n0]; exact HEE.out.2
    clear h1 hV
    go_wp2
    go_ret2
    exact ⟨by rw [H2.out.1, H2.out.2]; rfl, B1⟩
set_option maxHeartbeats 400000 in
theorem fitted_walk (sc s : ByteArray) (w : World) (hm : sc.size ≤ 9223372036854775807) (hm2 : s.size ≤ 9223372036854775807) (hE : Ends w) :
    Calls Tryd.prog 4 #[.string sc, .string s] w fun e w' => e = .returned (.bool true) ∧ Below w.heap.size w w' := by
  have HE : Hid (Ends w) := hE
  have C1 := fitsU_any sc s w hm hm2
  have C2 := fun W (hW : Below w.heap.size w W) => rfits_any sc s W hm hm2 (HE.out.below hW)
  generalize fitE sc s = x at C1 C2
  generalize fitP sc s = y at C1 C2
  have q1 : (x == x) = true := by simp
  have q2 : (y == y) = true := by simp
  clear hE
  go_enter Tryd.func4, Tryd.ntmps4
  go_wp2_with fail
  refine C1.mono ?_
  rintro e w1 ⟨rfl, B1⟩
  have D := C2 w1 B1
  clear C1 C2
  go_wp2_with fail
  refine D.mono ?_
  rintro e w2 ⟨rfl, B2⟩
  clear D
  go_wp2
  go_ret
  exact ⟨rfl, B1.trans (B2.mono B1.size)⟩
end Go.Proofs.YthckelcjncnalaaDoor
