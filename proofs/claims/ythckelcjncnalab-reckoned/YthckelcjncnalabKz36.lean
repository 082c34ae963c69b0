import Derived.Test.YthckelcjncnalabKz35
namespace Go.Proofs.Ythckelcjncnalab
open Go.RowKit

set_option maxHeartbeats 400000 in
theorem cwords_any (l : Int) (a : Option Addr) (n c : Nat) (w : World) (hn : n ≤ 1000) :
    Calls Try.prog 27 #[.agg #[.int .u8 l, .slice a n c]] w fun e w' => e = .returned (.int .i64 ((n : Int) + 1)) ∧ Below w.heap.size w w' := by
  go_enter Try.func27, Try.ntmps27
  go_wp2
  go_ret
  exact ⟨rfl, (Below.refl _ _).alloc (Nat.le_refl _) _⟩
/-- The words of some objects. -/
def wlist (cs : Sch) (K : Nat → Int) (L : List Nat) : Nat := (L.map fun a => wof cs (K a)).sum
theorem wlist_snoc (cs : Sch) (K : Nat → Int) (L : List Nat) (x : Nat) : wlist cs K (L ++ [x]) = wlist cs K L + wof cs (K x) := by simp [wlist]
theorem wlist_le {cs : Sch} (h6 : ∀ c ∈ cs, c.2.length ≤ 6) (K : Nat → Int) (L : List Nat) : wlist cs K L ≤ 7 * L.length := by
  induction L with
  | nil => simp [wlist]
  | cons x L ih => unfold wlist at ih ⊢; rw [List.map_cons, List.sum_cons, List.length_cons]; have := fof_le h6 (K x); have : wof cs (K x) ≤ 7 := by unfold wof; omega
                   omega
theorem clsV_len {w : World} {base : Nat} {v : Value} {vs : List (Int × SV)} {cs : List (Int × List (Int × Int))} (h : Cls w base v vs cs) (x : Int) : (findC vs x).2.n = (fof cs x).length := by
  obtain ⟨_, f2⟩ := h.find x
  rw [fcs_fof] at f2
  rcases f2.shape with ⟨e1, e2⟩ | ⟨g, cap, e1, _⟩
  · have e1' : Value.slice (findC vs x).2.a (findC vs x).2.n (findC vs x).2.c = .slice none 0 0 := e1
    injection e1' with _ e3 _
    rw [e2]; simpa using e3
  · have e1' : Value.slice (findC vs x).2.a (findC vs x).2.n (findC vs x).2.c = .slice (some ⟨g, 0, none⟩) (fof cs x).length cap := e1
    injection e1'
set_option maxRecDepth 20000 in
set_option maxHeartbeats 1000000 in
theorem wordsOf_any (hb : Nat) (sv : SV) (sz : Int) (p : PH) (base : Nat) (vs : List (Int × SV)) (cs : List (Int × List (Int × Int))) (w : World) (h : HP w hb sv sz p.R p.K p.N p.F) (hv : Cls w base (.slice sv.a sv.n sv.c) vs cs) (h6 : ∀ c ∈ cs, c.2.length ≤ 6)
    (L : List Nat) (lb : Nat) (v : Value) (hl : w.ownsRow lb 3 1 v L.length (L.map fun (x : Nat) => Value.int .i64 (x : Int))) (hL : ∀ x ∈ L, x < 201) (hlen : L.length ≤ 200) :
    Calls Try.prog 26 #[.pointer (some ⟨hb, 0, none⟩), v] w fun e w' => e = .returned (.int .i64 (wlist cs p.K L)) ∧ Below w.heap.size w w' := by
  have hbl := h.lt
  have HH : Hid (HP w hb sv sz p.R p.K p.N p.F) := h
  have HV : Hid (Cls w base (.slice sv.a sv.n sv.c) vs cs) := hv
  have H6 : Hid (∀ c ∈ cs, c.2.length ≤ 6) := h6
  obtain ⟨va, vc, hvs⟩ : ∃ a c, v = .slice a L.length c := by
    rcases hl.2 with ⟨rfl, hn⟩ | ⟨g, cap, cur, rfl, _⟩
    · exact ⟨none, 0, by rw [hn]⟩
    · exact ⟨_, _, rfl⟩
  subst hvs
  have HLC : Hid (∀ i, i < L.length → ∃ g, va = some ⟨g, 0, none⟩ ∧ g < w.heap.size ∧ w.cell? ⟨g, i, none⟩ = some (.int .i64 ((L[i]?.getD 0 : Nat) : Int)) ∧ L[i]?.getD 0 < 201) := by
    intro i hi
    rcases hl.2 with ⟨e, hn⟩ | ⟨g, cap, cur, e, _, hg, _⟩
    · omega
    · have ea : va = some ⟨g, 0, none⟩ := by injection e
      refine ⟨g, ea, (Array.getElem?_eq_some_iff.1 hg).1, ?_, ?_⟩
      · have c := World.ownsRow.cells hl (g := g) (by rw [ea]; rfl) i _ (by rw [List.getElem?_map, List.getElem?_eq_getElem hi]; rfl)
        have e2 : (⟨g, 0, none⟩ : Addr).add i = ⟨g, i, none⟩ := by unfold Addr.add; split <;> simp_all
        rw [e2] at c
        rw [c, List.getElem?_eq_getElem hi]; rfl
      · rw [List.getElem?_eq_getElem hi]; exact hL _ (List.getElem_mem hi)
  obtain ⟨n, hn⟩ : ∃ n, n = L.length := ⟨_, rfl⟩
  have HN : Hid (n = L.length) := hn
  rw [← hn] at hlen ⊢
  clear h hv h6 hl hL hn
  go_enter Try.func26, Try.ntmps26
  go_wp2
  go_loopw [5, 11] (fun sv' iv wr => ∃ i : Nat, i ≤ n ∧ iv = .int .i64 i ∧ sv' = .int .i64 (wlist cs p.K (L.take i)) ∧ Below w.heap.size w wr) (fun _ iv _ => n - (intOf iv).toNat)
  case atStart => exact ⟨0, by omega, rfl, by simp [wlist], Below.refl _ _⟩
  case round =>
    obtain ⟨i, hi, rfl, rfl, hb'⟩ := hrel
    by_cases hlt : i < n
    · obtain ⟨g, ea, hg, hc, hx⟩ := HLC.out i (by rw [← HN.out]; exact hlt)
      obtain ⟨x, hxx⟩ : ∃ x, x = L[i]?.getD 0 := ⟨_, rfl⟩
      rw [← hxx] at hc hx
      have hc1 : wr.cell? ⟨g, i, none⟩ = some (.int .i64 (x : Int)) := (hb'.cell (by exact hg)).trans hc
      have HP1 := HH.out.below hb'
      have HV1 := HV.out.below hb'
      have CC := classOf_any hb x sv sz p.R p.K p.N p.F vs wr HP1 HV1.cv hx
      have hfl := clsV_len HV1 (p.K x)
      have hf6 := fof_le H6.out (p.K x)
      obtain ⟨l, sa, sn, sc, hf⟩ : ∃ l sa sn sc, findC vs (p.K x) = (l, ⟨sa, sn, sc⟩) := ⟨_, _, _, _, rfl⟩
      rw [hf] at CC hfl
      simp only [clsV] at CC hfl
      have hsl := wlist_le H6.out p.K (L.take i)
      have htk : (L.take i).length ≤ i := by simp; omega
      obtain ⟨s0, hs0⟩ : ∃ s0, s0 = wlist cs p.K (L.take i) := ⟨_, rfl⟩
      have HS : Hid (wlist cs p.K (L.take (i + 1)) = s0 + sn + 1) := by
        show _ = _
        have hil : i < L.length := by rw [← HN.out]; exact hlt
        rw [List.take_add_one, List.getElem?_eq_getElem hil, Option.toList_some, wlist_snoc, ← hs0, wof]
        have : L[i] = x := by rw [hxx, List.getElem?_eq_getElem hil]; rfl
        rw [this, hfl]; omega
      rw [← hs0] at hsl ⊢
      have hs7 : s0 ≤ 1400 := by omega
      have hsn : sn ≤ 6 := by omega
      rw [ea]
      have hib : (0 : Int) ≤ (i : Int) ∧ (i : Int) < (n : Int) := by omega
      have HBR : Hid (Below w.heap.size w wr) := hb'
      have hszr := hb'.size
      clear HP1 HV1 hf hfl hf6 hs0 hsl htk hxx hc ea
      rename World => wo
      go_wp2_with fail
      refine CC.mono ?_
      rintro e w1 ⟨rfl, B1⟩
      have HB1 : Hid (Below w.heap.size w (w1.alloc (.cells #[.int .u8 l, .slice sa sn sc] 69))) := (HBR.out.trans (B1.mono HBR.out.size)).alloc (Nat.le_trans hszr B1.size) _
      have hs1 := B1.size
      clear CC B1
      go_wp2_with fail
      refine (cwords_any l sa sn sc _ (by omega)).mono ?_
      rintro e w2 ⟨rfl, B2⟩
      have HB2 : Hid (Below w.heap.size w w2) := HB1.out.trans (B2.mono HB1.out.size)
      clear B2
      go_wp2
      go_roundw
      case rel => exact ⟨i + 1, by omega, by go_num, by rw [HS.out]; go_num, HB2.out⟩
      case measure => simp [intOf]; omega
    · have ei : i = n := by omega
      have hge : n ≤ i := by omega
      have HE : Hid (L.take i = L) := by
        show _ = _
        rw [ei, HN.out]; exact List.take_length
      clear hlt ei
      go_wp2
      go_ret
      exact ⟨by rw [HE.out]; rfl, hb'⟩
end Go.Proofs.Ythckelcjncnalab
