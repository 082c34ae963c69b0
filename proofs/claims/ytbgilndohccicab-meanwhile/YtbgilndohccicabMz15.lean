import Derived.Test.YtbgilndohccicabMz14
namespace Go.Proofs.Ytbgilndohccicab
open Go.RowKit

/-- The place of the first letter that has stood before. -/
def twFs : List Int → List GFd → Option Int
  | _, [] => none
  | pre, f :: r => if pre.any (fun p => p == f.l) = true then some f.p else twFs (pre ++ [f.l]) r
def twCs : List Int → List GCd → Option Int
  | _, [] => none
  | pre, c :: r => if pre.any (fun p => p == c.l) = true then some c.p else
    match twFs [] c.fs with
    | some p => some p
    | none => twCs (pre ++ [c.l]) r
def gTwice (cs : List GCd) : Int := (twCs [] cs).getD (-1)
theorem has_take {α : Type} (f : α → Int) (cs : List α) (L : Nat → Int) (i : Nat) (x : Int) (hi : i ≤ cs.length) (h : ∀ j c, cs[j]? = some c → L j = f c) : hasB L i x = ((cs.take i).map f).any (fun p => p == x) := by
  have e : (cs.take i).map f = (List.range i).map L := by
    apply List.ext_getElem?
    intro j
    by_cases hj : j < i
    · have hc : j < cs.length := by omega
      simp only [List.getElem?_map, List.getElem?_take, hj, if_true, List.getElem?_eq_getElem hc, Option.map_some, List.getElem?_range hj]
      rw [h j _ (List.getElem?_eq_getElem hc)]
    · rw [List.getElem?_eq_none (by simp; omega), List.getElem?_eq_none (by simp; omega)]
  rw [e, List.any_map, hasB]; rfl
theorem drop_cons {α : Type} {l : List α} {i : Nat} {x : α} (h : l[i]? = some x) : l.drop i = x :: l.drop (i + 1) := by
  obtain ⟨hi, rfl⟩ := List.getElem?_eq_some_iff.1 h
  exact List.drop_eq_getElem_cons hi
theorem take_map {α : Type} (f : α → Int) {l : List α} {i : Nat} {x : α} (h : l[i]? = some x) : (l.take (i + 1)).map f = (l.take i).map f ++ [f x] := by
  rw [List.take_add_one, h]; simp
theorem twCs_hit {cs : List GCd} {i : Nat} {c : GCd} (h : twCs [] cs = twCs ((cs.take i).map (·.l)) (cs.drop i)) (hc : cs[i]? = some c) (hy : ((cs.take i).map (·.l)).any (fun p => p == c.l) = true) : gTwice cs = c.p := by
  rw [gTwice, h, drop_cons hc, twCs, if_pos hy]; rfl
theorem twCs_field {cs : List GCd} {i : Nat} {c : GCd} {p : Int} (h : twCs [] cs = twCs ((cs.take i).map (·.l)) (cs.drop i)) (hc : cs[i]? = some c) (hy : ((cs.take i).map (·.l)).any (fun p => p == c.l) = false) (hf : twFs [] c.fs = some p) : gTwice cs = p := by
  rw [gTwice, h, drop_cons hc, twCs, if_neg (by rw [hy]; decide), hf]; rfl
theorem twCs_step {cs : List GCd} {i : Nat} {c : GCd} (h : twCs [] cs = twCs ((cs.take i).map (·.l)) (cs.drop i)) (hc : cs[i]? = some c) (hy : ((cs.take i).map (·.l)).any (fun p => p == c.l) = false) (hf : twFs [] c.fs = none) : twCs [] cs = twCs ((cs.take (i + 1)).map (·.l)) (cs.drop (i + 1)) := by
  rw [h, drop_cons hc, twCs, if_neg (by rw [hy]; decide), hf, take_map (·.l) hc]
theorem twCs_end {cs : List GCd} {i : Nat} (h : twCs [] cs = twCs ((cs.take i).map (·.l)) (cs.drop i)) (hi : cs.length ≤ i) : gTwice cs = -1 := by
  rw [gTwice, h, List.drop_eq_nil_of_le hi, twCs]; rfl
theorem twFs_hit {cs : List GFd} {i : Nat} {c : GFd} (h : twFs [] cs = twFs ((cs.take i).map (·.l)) (cs.drop i)) (hc : cs[i]? = some c) (hy : ((cs.take i).map (·.l)).any (fun p => p == c.l) = true) : twFs [] cs = some c.p := by
  rw [h, drop_cons hc, twFs, if_pos hy]
theorem twFs_step {cs : List GFd} {i : Nat} {c : GFd} (h : twFs [] cs = twFs ((cs.take i).map (·.l)) (cs.drop i)) (hc : cs[i]? = some c) (hy : ((cs.take i).map (·.l)).any (fun p => p == c.l) = false) : twFs [] cs = twFs ((cs.take (i + 1)).map (·.l)) (cs.drop (i + 1)) := by
  rw [h, drop_cons hc, twFs, if_neg (by rw [hy]; decide), take_map (·.l) hc]
theorem twFs_end {cs : List GFd} {i : Nat} (h : twFs [] cs = twFs ((cs.take i).map (·.l)) (cs.drop i)) (hi : cs.length ≤ i) : twFs [] cs = none := by
  rw [h, List.drop_eq_nil_of_le hi, twFs]

set_option maxHeartbeats 400000 in
theorem twice_nil (w : World) : Calls Try.prog 59 #[.slice none 0 0] w fun e w' => e = .returned (.int .i64 (-1)) ∧ Below w.heap.size w w' := by
  go_enter Try.func59, Try.ntmps59
  go_wp2
  refine wp_loop_rounds 1 ?_; rw [rounds_succ]
  go_wp2
  go_ret
  exact ⟨rfl, Below.refl _ _⟩

set_option maxHeartbeats 2000000 in
set_option maxRecDepth 20000 in
theorem gtwice_row (g cap : Nat) (rs : List RCd) (cs : List GCd) (w : World) (hg : g < w.heap.size) (hm : rs.length ≤ 9223372036854775807) (hcap : rs.length ≤ cap) (hlen : rs.length = cs.length)
    (hc : ∀ i, i < rs.length → CCell w g i (rs[i]?.getD zR)) (hel : ∀ (i : Nat) (r : RCd) (c : GCd), rs[i]? = some r → cs[i]? = some c → CRel w 0 r c) :
    Calls Try.prog 59 #[.slice (some ⟨g, 0, none⟩) rs.length cap] w fun e w' => e = .returned (.int .i64 (gTwice cs)) ∧ Below w.heap.size w w' := by
  obtain ⟨n, hn⟩ : ∃ n, n = rs.length := ⟨_, rfl⟩
  rw [← hn] at hm hc hcap hlen ⊢
  have HN : Hid (n = rs.length ∧ n = cs.length) := ⟨hn, hlen⟩
  have HE : Hid (∀ (i : Nat) (r : RCd) (c : GCd), rs[i]? = some r → cs[i]? = some c → CRel w 0 r c) := hel
  have HC : Hid (∀ i, i < n → CCell w g i (rs[i]?.getD zR)) := hc
  have HL : Hid (∀ (i : Nat) (c : GCd), cs[i]? = some c → (rs[i]?.getD zR).l = c.l) := by
    intro i c h
    have hi : i < rs.length := by have := (List.getElem?_eq_some_iff.1 h).1; omega
    exact (hel i _ c (getD_of hi zR) h).l
  clear hn hlen hel hc
  go_enter Try.func59, Try.ntmps59
  go_wp2
  go_loopw [9] (fun i wr => ∃ k : Nat, k ≤ n ∧ i = .int .i64 k ∧ Hid (twCs [] cs = twCs ((cs.take k).map (·.l)) (cs.drop k)) ∧ Below w.heap.size w wr) (fun i _ => n - (intOf i).toNat)
  case atStart => exact ⟨0, Nat.zero_le _, rfl, (by simp : _ = _), Below.refl _ _⟩
  case round =>
    obtain ⟨k, hk, rfl, HT, hb⟩ := hrel
    by_cases hlt : k < n
    · obtain ⟨r, hr⟩ : ∃ r, r = rs[k]?.getD zR := ⟨_, rfl⟩
      have hrk : rs[k]? = some r := by rw [hr]; exact getD_of (by rw [← HN.out.1]; exact hlt) zR
      obtain ⟨c, hck⟩ : ∃ c, cs[k]? = some c := ⟨_, List.getElem?_eq_getElem (by rw [← HN.out.2]; exact hlt)⟩
      have hrel := HE.out k r c hrk hck
      obtain ⟨c0, c1, c2, c3, c4⟩ := (HC.out k hlt).below hb hg
      rw [← hr] at c0 c1 c2 c3 c4
      have HK : Hid (cs[k]? = some c ∧ CRel w 0 r c) := ⟨hck, hrel⟩
      have hasC : hasB (fun j => (rs[j]?.getD zR).l) k r.l = ((cs.take k).map (·.l)).any (fun p => p == c.l) := by
        rw [← hrel.l]; exact has_take (·.l) cs (fun j => (rs[j]?.getD zR).l) k r.l (by rw [← HN.out.2]; exact hk) HL.out
      have hkc : ¬ (cap : Int) < (k : Int) := by omega
      have hsz := hb.size
      have CL : ∀ W : World, Below w.heap.size w W → Calls Try.prog 79 #[.slice (some ⟨g, 0, none⟩) k cap, .int .u8 r.l] W fun e w' => e = .returned (.bool (hasB (fun j => (rs[j]?.getD zR).l) k r.l)) ∧ Below W.heap.size W w' :=
        fun W hW => hasClass_row r.l g cap k (fun j => rs[j]?.getD zR) W (Nat.lt_of_lt_of_le hg hW.size) (by omega) (fun i hi => (HC.out i (by omega)).below hW hg)
      rw [hasC] at CL
      clear hr hrk hck hrel hasC
      cases hy : ((cs.take k).map (·.l)).any (fun p => p == c.l) with
      | true =>
        rw [hy] at CL
        have HV : Hid (gTwice cs = r.p) := by show _ = _; rw [HK.out.2.p]; exact twCs_hit HT.out HK.out.1 hy
        go_wp2
        go_region_with (go_at_call 79; refine (CL _ (by with_reducible repeat first | exact hb | apply Below.drew | (refine Below.alloc ?_ hsz _))).mono ?_; rintro e w2 ⟨rfl, hb2⟩)
        have hs2 : wr.heap.size < w2.heap.size := by have := hb2.size; simp at this; omega
        have l0 : w2.cell? ⟨wr.heap.size, 0, none⟩ = some (.int .u8 r.l) := (hb2.cell (by show wr.heap.size < _; simp)).trans (by go_simp)
        have l1 : w2.cell? ⟨wr.heap.size, 1, none⟩ = some (.int .i64 r.p) := (hb2.cell (by show wr.heap.size < _; simp)).trans (by go_simp)
        have l4 : w2.cell? ⟨wr.heap.size, 4, none⟩ = some (.slice r.f.a r.f.n r.f.c) := (hb2.cell (by show wr.heap.size < _; simp)).trans (by go_simp)
        have B2 : Below w.heap.size w w2 := (((hb.alloc hsz _).drew).trans (hb2.mono (by simp; omega)))
        clear hb2 CL
        go_wp2
        go_ret
        exact ⟨ret_int HV.out.symm, B2⟩
      | false =>
        rw [hy] at CL
        have HY : Hid (((cs.take k).map (·.l)).any (fun p => p == c.l) = false) := hy
        clear hy
        go_wp2
        go_region_with (go_at_call 79; refine (CL _ (by with_reducible repeat first | exact hb | apply Below.drew | (refine Below.alloc ?_ hsz _))).mono ?_; rintro e w2 ⟨rfl, hb2⟩)
        have hs2 : wr.heap.size < w2.heap.size := by have := hb2.size; simp at this; omega
        have l0 : w2.cell? ⟨wr.heap.size, 0, none⟩ = some (.int .u8 r.l) := (hb2.cell (by show wr.heap.size < _; simp)).trans (by go_simp)
        have l1 : w2.cell? ⟨wr.heap.size, 1, none⟩ = some (.int .i64 r.p) := (hb2.cell (by show wr.heap.size < _; simp)).trans (by go_simp)
        have l4 : w2.cell? ⟨wr.heap.size, 4, none⟩ = some (.slice r.f.a r.f.n r.f.c) := (hb2.cell (by show wr.heap.size < _; simp)).trans (by go_simp)
        have B2 : Below w.heap.size w w2 := (((hb.alloc hsz _).drew).trans (hb2.mono (by simp; omega)))
        clear hb2 CL
        obtain ⟨frs, hfs⟩ := HK.out.2.fs
        rcases hfs.cells with ⟨hnil, hfr⟩ | ⟨fg, fcap, hfv, hfg, hfc, hfm, hfcell⟩
        · have hfs0 : c.fs = [] := by have := hfs.len; rw [hfr] at this; exact List.length_eq_zero_iff.1 this.symm
          have HN' : Hid (twCs [] cs = twCs ((cs.take (k + 1)).map (·.l)) (cs.drop (k + 1))) := twCs_step HT.out HK.out.1 HY.out (by rw [hfs0]; rfl)
          rw [hnil] at l4
          clear hfs hfr hfs0
          go_wp2
          refine wp_loop_rounds 1 ?_; rw [rounds_succ]
          go_wp2
          exact ⟨⟨k + 1, by omega, rfl, HN', B2⟩, by simp [intOf]; omega⟩
        · rw [hfv] at l4
          obtain ⟨m, hm'⟩ : ∃ m, m = frs.length := ⟨_, rfl⟩
          have hml : m = c.fs.length := hm'.trans hfs.len
          rw [← hm'] at l4 hfc hfm hfcell
          have HM : Hid (m = frs.length ∧ m = c.fs.length) := ⟨hm', hml⟩
          have HF : Hid (∀ i, i < m → GFCell w fg i (frs[i]?.getD zRF)) := hfcell
          have HFE : Hid (∀ (i : Nat) (r : RFd) (f : GFd), frs[i]? = some r → c.fs[i]? = some f → FRel w 0 r f) := hfs.el
          have hmx : m ≤ 9223372036854775807 := by unfold maxLen at hfm; omega
          have HFL : Hid (∀ (i : Nat) (f : GFd), c.fs[i]? = some f → (frs[i]?.getD zRF).l = f.l) := by
            intro i f h
            have hi : i < frs.length := by have := (List.getElem?_eq_some_iff.1 h).1; omega
            exact (hfs.el i _ f (getD_of hi zRF) h).l
          clear hfs hfv hm' hml hfcell hfm c0 c1 c2 c3 c4
          obtain ⟨pb, hpb⟩ : ∃ pb, pb = wr.heap.size := ⟨_, rfl⟩
          rw [← hpb] at hs2 l0 l1 l4 ⊢
          clear hpb hsz hb
          go_wp2
          go_loopw [27] (fun i wi => ∃ j : Nat, j ≤ m ∧ i = .int .i64 j ∧ Hid (twFs [] c.fs = twFs ((c.fs.take j).map (·.l)) (c.fs.drop j)) ∧ Below w2.heap.size w2 wi) (fun i _ => m - (intOf i).toNat)
          case atStart => exact ⟨0, Nat.zero_le _, rfl, (by simp : _ = _), Below.refl _ _⟩
          case round =>
            obtain ⟨j, hj, rfl, HTF, hbi⟩ := hrel
            have hisz := hbi.size
            have hBw : Below w.heap.size w wr := B2.trans (hbi.mono B2.size)
            have hwsz := hBw.size
            have l1' : wr.cell? ⟨pb, 1, none⟩ = some (.int .i64 r.p) := (hbi.cell (by exact hs2)).trans l1
            have l4' : wr.cell? ⟨pb, 4, none⟩ = some (.slice (some ⟨fg, 0, none⟩) m fcap) := (hbi.cell (by exact hs2)).trans l4
            have hpw : pb < wr.heap.size := Nat.lt_of_lt_of_le hs2 hisz
            by_cases hjl : j < m
            · obtain ⟨fr, hfr⟩ : ∃ fr, fr = frs[j]?.getD zRF := ⟨_, rfl⟩
              have hfrk : frs[j]? = some fr := by rw [hfr]; exact getD_of (by rw [← HM.out.1]; exact hjl) zRF
              obtain ⟨f, hfk⟩ : ∃ f, c.fs[j]? = some f := ⟨_, List.getElem?_eq_getElem (by rw [← HM.out.2]; exact hjl)⟩
              have hfrel := HFE.out j fr f hfrk hfk
              obtain ⟨d0, d1, d2, d3, d4, d5⟩ := (HF.out j hjl).below hBw hfg
              rw [← hfr] at d0 d1 d2 d3 d4 d5
              have hasF : hasB (fun i => (frs[i]?.getD zRF).l) j fr.l = ((c.fs.take j).map (·.l)).any (fun p => p == f.l) := by
                rw [← hfrel.l]; exact has_take (·.l) c.fs (fun i => (frs[i]?.getD zRF).l) j fr.l (by rw [← HM.out.2]; exact hj) HFL.out
              have hjc : ¬ (fcap : Int) < (j : Int) := by omega
              have CF : ∀ W : World, Below w.heap.size w W → Calls Try.prog 80 #[.slice (some ⟨fg, 0, none⟩) j fcap, .int .u8 fr.l] W fun e w' => e = .returned (.bool (hasB (fun i => (frs[i]?.getD zRF).l) j fr.l)) ∧ Below W.heap.size W w' :=
                fun W hW => hasField_row fr.l fg fcap j (fun i => frs[i]?.getD zRF) W (Nat.lt_of_lt_of_le hfg hW.size) (by omega) (fun i hi => (HF.out i (by omega)).below hW hfg)
              rw [hasF] at CF
              have HFK : Hid (c.fs[j]? = some f ∧ FRel w 0 fr f) := ⟨hfk, hfrel⟩
              clear hfr hfrk hfk hfrel hasF
              cases hyf : ((c.fs.take j).map (·.l)).any (fun p => p == f.l) with
              | true =>
                rw [hyf] at CF
                have HV : Hid (gTwice cs = fr.p) := by
                  show _ = _
                  rw [HFK.out.2.p]; exact twCs_field HT.out HK.out.1 HY.out (twFs_hit HTF.out HFK.out.1 hyf)
                go_wp2
                go_region_with (go_at_call 80; refine (CF _ (by with_reducible repeat first | exact hBw | apply Below.drew | (refine Below.alloc ?_ hwsz _))).mono ?_; rintro e w3 ⟨rfl, hb3⟩)
                all_goals
                  have m1 : w3.cell? ⟨wr.heap.size, 1, none⟩ = some (.int .i64 fr.p) := (hb3.cell (by show wr.heap.size < _; simp)).trans (by go_simp)
                  have B3 : Below w2.heap.size w2 w3 := (((hbi.alloc hisz _).drew).trans (hb3.mono (by simp; omega)))
                  clear hb3 CF
                  go_wp2
                  go_ret
                  exact ⟨ret_int HV.out.symm, B2.trans (B3.mono B2.size)⟩
              | false =>
                rw [hyf] at CF
                have HTF' : Hid (twFs [] c.fs = twFs ((c.fs.take (j + 1)).map (·.l)) (c.fs.drop (j + 1))) := twFs_step HTF.out HFK.out.1 hyf
                clear hyf
                go_wp2
                go_region_with (go_at_call 80; refine (CF _ (by with_reducible repeat first | exact hBw | apply Below.drew | (refine Below.alloc ?_ hwsz _))).mono ?_; rintro e w3 ⟨rfl, hb3⟩)
                all_goals
                  have m1 : w3.cell? ⟨wr.heap.size, 1, none⟩ = some (.int .i64 fr.p) := (hb3.cell (by show wr.heap.size < _; simp)).trans (by go_simp)
                  have B3 : Below w2.heap.size w2 w3 := (((hbi.alloc hisz _).drew).trans (hb3.mono (by simp; omega)))
                  clear hb3 CF
                  go_wp2
                  exact ⟨⟨j + 1, by omega, rfl, HTF', B3⟩, by simp [intOf]; omega⟩
            · have HN' : Hid (twCs [] cs = twCs ((cs.take (k + 1)).map (·.l)) (cs.drop (k + 1))) := twCs_step HT.out HK.out.1 HY.out (twFs_end HTF.out (by rw [← HM.out.2]; omega))
              go_wp2
              exact ⟨⟨k + 1, by omega, rfl, HN', hBw⟩, by simp [intOf]; omega⟩
    · go_wp2
      go_ret
      exact ⟨by rw [twCs_end HT.out (by rw [← HN.out.2]; omega)]; rfl, hb⟩
theorem gtwice_any {base : Nat} {v : Value} {rs : List RCd} {cs : List GCd} {w : World} (h : GCs w base v rs cs) :
    Calls Try.prog 59 #[v] w fun e w' => e = .returned (.int .i64 (gTwice cs)) ∧ Below w.heap.size w w' := by
  rcases h.cells with ⟨rfl, hr⟩ | ⟨g, cap, rfl, hg, hcap, hm, hc⟩
  · have : cs = [] := by have := h.len; rw [hr] at this; exact List.length_eq_zero_iff.1 this.symm
    subst this
    exact twice_nil w
  · exact gtwice_row g cap rs cs w hg (by unfold maxLen at hm; omega) hcap h.len hc (fun i r c h1 h2 => (h.el i r c h1 h2).mono (Nat.zero_le _))
end Go.Proofs.Ytbgilndohccicab
