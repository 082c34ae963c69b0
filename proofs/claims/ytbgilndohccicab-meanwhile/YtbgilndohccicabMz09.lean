import Derived.Test.YtbgilndohccicabMz08
namespace Go.Proofs.Ytbgilndohccicab
open Go.RowKit

def PWPost (cs : Sch) (p : PH) (w : World) (e : Ending) (w' : World) : Prop := ∃ L, e = .returned (.int .i64 (wlist cs p.K L)) ∧ L.Nodup ∧ (∀ a, a ∈ L ↔ p.in a) ∧ Below w.heap.size w w'
set_option maxRecDepth 20000 in
set_option maxHeartbeats 1000000 in
theorem pwords_any (hb : Nat) (sv : SV) (sz : Int) (p : PH) (base : Nat) (vs : List (Int × SV)) (cs : List (Int × List (Int × Int))) (w : World) (h : HP w hb sv sz p.R p.K p.N p.F) (hv : Cls w base (.slice sv.a sv.n sv.c) vs cs) (hP : Pw p) (h6 : ∀ c ∈ cs, c.2.length ≤ 6) :
    Calls Try.prog 56 #[.pointer (some ⟨hb, 0, none⟩)] w (PWPost cs p w) := by
  have hbl := h.lt
  have RE := reached_any hb sv sz p w h hP
  have HH : Hid (HP w hb sv sz p.R p.K p.N p.F) := h
  have HV : Hid (Cls w base (.slice sv.a sv.n sv.c) vs cs) := hv
  have H6 : Hid (∀ c ∈ cs, c.2.length ≤ 6) := h6
  obtain ⟨hz, hsz⟩ := zero_of_info Try.infoReach
  obtain ⟨Z, hZ⟩ : ∃ Z, Z = rarr (fun _ => false) (.slice none 0 0) := ⟨_, rfl⟩
  have hZ202 : Z.size = 202 := by rw [hZ]; exact rarr_size _ _
  rw [← hZ] at hz
  clear h hv hP h6 hZ
  go_enter Try.func56, Try.ntmps56
  go_wp2_with fail
  refine RE.mono ?_
  rintro e w1 ⟨S, v, L, rfl, own, PI1, hm, B1⟩
  obtain ⟨RA, hRA⟩ : ∃ RA, RA = rarr S v := ⟨_, rfl⟩
  have h202 : RA.size = 202 := by rw [hRA]; exact rarr_size _ _
  obtain ⟨va, vc, hvs⟩ : ∃ a c, v = .slice a L.length c := by
    rcases own.2 with ⟨e, hn⟩ | ⟨g, cap, cur, e, _⟩
    · exact ⟨none, 0, by rw [hn]; exact e⟩
    · exact ⟨_, _, e⟩
  have hone : RA.all (·.oneCell') = true := by rw [hRA, hvs]; exact rarr_one _ _ _ _
  have hl201 : RA[201]? = some v := by rw [hRA]; exact rarr_last _ _
  rw [← hRA]
  subst hvs
  have HL : Hid (L.Nodup ∧ (∀ a, a ∈ L ↔ p.in a)) := ⟨PI1.nd, hm⟩
  have hWe : (w1.alloc (.cells Z 93)).setRow w1.heap.size RA = w1.alloc (.cells RA 93) := World.setRow_alloc_new w1 Z RA _
  have hg1 := heap_alloc_new w1 (.cells Z 93)
  have hg2 := heap_alloc_new w1 (.cells RA 93)
  have k1 : (w1.alloc (.cells RA 93)).cell? ⟨w1.heap.size, 201, none⟩ = some (.slice va L.length vc) := (cell_of_row _ _ 201 _ _ _ hg2).trans hl201
  have BA : Below w1.heap.size w1 (w1.alloc (.cells RA 93)) := (Below.refl _ _).alloc (Nat.le_refl _) _
  have WC := wordsOf_any hb sv sz p base vs cs (w1.alloc (.cells RA 93)) ((HH.out.below B1).below BA) ((HV.out.below B1).below BA) H6.out L w.heap.size _ (own.alloc _) (fun x hx => (PI1.bd x hx).2) PI1.len
  have HB : Hid (Below w.heap.size w (w1.alloc (.cells RA 93))) := B1.alloc B1.size _
  clear RE own PI1 hm B1 hRA hl201 BA
  go_wp2_with (first | (refine wpList_store_row rfl 93 _ _ rfl w1.heap.size RA rfl rfl 93 Z hg1 (by rw [hsz, h202]) (by rw [hZ202, h202]) hone ?_; rw [hWe]) | fail)
  refine WC.mono ?_
  rintro e w2 ⟨rfl, B2⟩
  clear WC
  go_wp2
  go_ret
  exact ⟨L, rfl, HL.out.1, HL.out.2, HB.out.trans (B2.mono HB.out.size)⟩
end Go.Proofs.Ytbgilndohccicab
namespace Go.Proofs.Ytbgilndohccicab
open Go.RowKit

theorem HP.congr {w : World} {hb : Nat} {sv : SV} {sz : Int} {R R' : Nat → Nat} {K K' : Nat → Int} {N N' : Nat → Nat → Int} {F F' : Nat → Nat → Nat} (h : HP w hb sv sz R K N F) (hR : ∀ i, i < 8 → R i = R' i) (hK : ∀ i, i < 201 → K i = K' i) (hN : ∀ i j, i < 201 → j < 6 → N i j = N' i j) (hF : ∀ i j, i < 201 → j < 6 → F i j = F' i j) (hT : ∀ j, N 201 j = N' 201 j) : HP w hb sv sz R' K' N' F' :=
  ⟨h.sch, h.size, fun i hi => by rw [← hR i hi]; exact h.root i hi, fun i hi => by rw [← hK i hi]; exact h.cls i hi, fun i j hi hj => by rw [← hN i j hi hj]; exact h.num i j hi hj, fun i j hi hj => by rw [← hF i j hi hj]; exact h.ref i j hi hj, h.frz, by rw [← hT]; exact h.pend, by have := h.upd; unfold updV at this ⊢; rw [← hT, ← hT, ← hT, ← hT]; exact this⟩
theorem HP.setCls {w : World} {hb : Nat} {sv : SV} {sz : Int} {R : Nat → Nat} {K : Nat → Int} {N : Nat → Nat → Int} {F : Nat → Nat → Nat} (h : HP w hb sv sz R K N F) {n : Nat} (hn : n < 201) (c : Int) : HP (w.setCell ⟨hb, 10 + n * 13, none⟩ (.int .u8 c)) hb sv sz R (set1 K n c) N F := by
  have ne : ∀ o, o ≠ 10 + n * 13 → (w.setCell ⟨hb, 10 + n * 13, none⟩ (.int .u8 c)).cell? ⟨hb, o, none⟩ = w.cell? ⟨hb, o, none⟩ := by
    intro o ho; exact World.cell?_setCell_other _ _ _ _ (by intro e; injection e with _ e2 _; exact ho e2.symm)
  refine ⟨by rw [ne _ (by omega)]; exact h.sch, by rw [ne _ (by omega)]; exact h.size, fun a ha => by rw [ne _ (by omega)]; exact h.root a ha, fun a ha => ?_, fun a b ha hb' => by rw [ne _ (by omega)]; exact h.num a b ha hb', fun a b ha hb' => by rw [ne _ (by omega)]; exact h.ref a b ha hb', fun o => by have := h.frz o; go_simp, by rw [ne _ (by omega)]; exact h.pend, by rw [ne _ (by omega)]; exact h.upd⟩
  by_cases e : a = n
  · subst e
    have := h.cls a ha
    rw [set1_self]
    go_simp
  · rw [ne _ (by omega), set1_ne _ _ e]; exact h.cls a ha
/-- The program's heap with a new object at a. -/
def mkP (p : PH) (a : Nat) (c : Int) (i : Nat) : PH := ⟨set1 p.R i a, set1 p.K a c, fun x j => if x = a then 0 else p.N x j, fun x j => if x = a then 0 else p.F x j⟩
theorem HP.setObj {w : World} {hb : Nat} {sv : SV} {sz : Int} {R : Nat → Nat} {K : Nat → Int} {N : Nat → Nat → Int} {F : Nat → Nat → Nat} (h : HP w hb sv sz R K N F) {n : Nat} (hn : n < 201) (c : Int) :
    HP (((((((((((((w.setCell ⟨hb, 10 + n * 13, none⟩ (.int .u8 c)).setCell ⟨hb, 10 + n * 13 + 1 + 0, none⟩ (.int .i64 0)).setCell ⟨hb, 10 + n * 13 + 1 + 1, none⟩ (.int .i64 0)).setCell ⟨hb, 10 + n * 13 + 1 + 2, none⟩ (.int .i64 0)).setCell ⟨hb, 10 + n * 13 + 1 + 3, none⟩ (.int .i64 0)).setCell ⟨hb, 10 + n * 13 + 1 + 4, none⟩ (.int .i64 0)).setCell ⟨hb, 10 + n * 13 + 1 + 5, none⟩ (.int .i64 0)).setCell ⟨hb, 10 + n * 13 + 7 + 0, none⟩ (.int .i64 (0 : Nat))).setCell ⟨hb, 10 + n * 13 + 7 + 1, none⟩ (.int .i64 (0 : Nat))).setCell ⟨hb, 10 + n * 13 + 7 + 2, none⟩ (.int .i64 (0 : Nat))).setCell ⟨hb, 10 + n * 13 + 7 + 3, none⟩ (.int .i64 (0 : Nat))).setCell ⟨hb, 10 + n * 13 + 7 + 4, none⟩ (.int .i64 (0 : Nat))).setCell ⟨hb, 10 + n * 13 + 7 + 5, none⟩ (.int .i64 (0 : Nat))) hb sv sz R (set1 K n c) (fun x j => if x = n then 0 else N x j) (fun x j => if x = n then 0 else F x j) := by
  have h1 := ((((((h.setCls hn c).setNum hn (i := 0) (by omega) 0).setNum hn (i := 1) (by omega) 0).setNum hn (i := 2) (by omega) 0).setNum hn (i := 3) (by omega) 0).setNum hn (i := 4) (by omega) 0).setNum hn (i := 5) (by omega) 0
  have h2 := (((((h1.setRef hn (i := 0) (by omega) 0).setRef hn (i := 1) (by omega) 0).setRef hn (i := 2) (by omega) 0).setRef hn (i := 3) (by omega) 0).setRef hn (i := 4) (by omega) 0).setRef hn (i := 5) (by omega) 0
  refine h2.congr (fun _ _ => rfl) (fun _ _ => rfl) (fun x j _ hj => ?_) (fun x j _ hj => ?_) (fun j => by rw [if_neg (by omega)]; simp only [set2]; rw [if_neg (by omega), if_neg (by omega), if_neg (by omega), if_neg (by omega), if_neg (by omega), if_neg (by omega)])
  · by_cases e : x = n
    · subst e
      rw [if_pos rfl]
      have : j = 0 ∨ j = 1 ∨ j = 2 ∨ j = 3 ∨ j = 4 ∨ j = 5 := by omega
      rcases this with rfl | rfl | rfl | rfl | rfl | rfl <;> simp [set2]
    · rw [if_neg e]; simp [set2, e]
  · by_cases e : x = n
    · subst e
      rw [if_pos rfl]
      have : j = 0 ∨ j = 1 ∨ j = 2 ∨ j = 3 ∨ j = 4 ∨ j = 5 := by omega
      rcases this with rfl | rfl | rfl | rfl | rfl | rfl <;> simp [set2]
    · rw [if_neg e]; simp [set2, e]
def pmE (cs : Sch) (sz root c : Int) (W : Nat) : Int := if rtB root = false then 8 else if (cs.any fun x => x.1 == c) = false then 4 else if sz < (W : Int) + (wof cs c : Int) then 10 else 0
def PMPost (hb : Nat) (sv : SV) (cs : Sch) (sz : Int) (p : PH) (root c : Int) (w : World) (e : Ending) (w' : World) : Prop := ∃ L, L.Nodup ∧ (∀ a, a ∈ L ↔ p.in a) ∧
  e = .returned (.int .i64 (pmE cs sz root c (wlist cs p.K L))) ∧ w.grownBy w' (some hb) ∧ (pmE cs sz root c (wlist cs p.K L) ≠ 0 → HP w' hb sv sz p.R p.K p.N p.F) ∧
  (pmE cs sz root c (wlist cs p.K L) = 0 → ∃ a, 0 < a ∧ a < 201 ∧ ¬ p.in a ∧ HP w' hb sv sz (mkP p a c root.toNat).R (mkP p a c root.toNat).K (mkP p a c root.toNat).N (mkP p a c root.toNat).F)
theorem pthere_ex {p : PH} (hP : Pw p) : ∃ L : List Nat, L.Nodup ∧ ∀ a, a ∈ L ↔ p.in a := by
  refine ⟨(List.range 201).filter (fun a => @decide (p.in a) (Classical.propDecidable _)), List.Pairwise.filter _ List.nodup_range, fun a => ?_⟩
  rw [List.mem_filter]
  constructor
  · rintro ⟨_, h⟩; simpa using h
  · intro h; exact ⟨List.mem_range.2 (hP.in_lt h).2, by simpa using h⟩
theorem hasC_any {w : World} {base : Nat} {v : Value} {vs : List (Int × SV)} {cs : List (Int × List (Int × Int))} (h : Cls w base v vs cs) (x : Int) : hasC vs x = cs.any (fun c => c.1 == x) := by
  rw [hasC_map, h.ls, List.any_map]; rfl

set_option maxRecDepth 20000 in
set_option maxHeartbeats 2000000 in
theorem pmake_any (hb : Nat) (sv : SV) (sz : Int) (p : PH) (base : Nat) (vs : List (Int × SV)) (cs : List (Int × List (Int × Int))) (w : World) (h : HP w hb sv sz p.R p.K p.N p.F) (hv : Cls w base (.slice sv.a sv.n sv.c) vs cs) (hP : Pw p) (h6 : ∀ c ∈ cs, c.2.length ≤ 6) (hs0 : 0 ≤ sz) (hs1 : sz ≤ 200) (root c : Int) :
    Calls Try.prog 14 #[.pointer (some ⟨hb, 0, none⟩), .int .i64 root, .int .u8 c] w (PMPost hb sv cs sz p root c w) := by
  have hbl := h.lt
  have HH : Hid (HP w hb sv sz p.R p.K p.N p.F) := h
  cases h1 : rtB root with
  | false =>
    have HE : Hid (∀ W, pmE cs sz root c W = 8) := fun W => by unfold pmE; rw [if_pos h1]
    have HT : Hid (∃ L : List Nat, L.Nodup ∧ ∀ a, a ∈ L ↔ p.in a) := pthere_ex hP
    clear h hv hP h6
    go_enter Try.func14, Try.ntmps14
    go_wp2_with fail
    refine (isRoot_rs (x := root) false h1).mono ?_
    rintro e w' ⟨rfl, rfl⟩
    go_wp2
    go_ret
    obtain ⟨L, hL⟩ := HT.out
    exact ⟨L, hL.1, hL.2, by rw [HE.out]; rfl, gb_drewN _ 0 _, fun _ => HH.out, fun h0 => by rw [HE.out] at h0; exact absurd h0 (by decide)⟩
  | true =>
  have c0 := h.sch
  have FC := find_any c _ vs w hv.cv
  rw [hasC_any hv] at FC
  have hfl := clsV_len hv c
  obtain ⟨l, sa, sn, sc, hf⟩ : ∃ l sa sn sc, findC vs c = (l, ⟨sa, sn, sc⟩) := ⟨_, _, _, _, rfl⟩
  rw [hf] at FC hfl
  simp only [clsV] at FC hfl
  cases h2 : (cs.any fun y => y.1 == c) with
  | false =>
    have HE : Hid (∀ W, pmE cs sz root c W = 4) := fun W => by unfold pmE; rw [if_neg (by rw [h1]; decide), if_pos h2]
    have HT : Hid (∃ L : List Nat, L.Nodup ∧ ∀ a, a ∈ L ↔ p.in a) := pthere_ex hP
    rw [h2] at FC
    clear h hv hP h6 hf hfl
    go_enter Try.func14, Try.ntmps14
    go_wp2_with fail
    refine (isRoot_rs (x := root) true h1).mono ?_
    rintro e w' ⟨rfl, rfl⟩
    go_wp2_with fail
    refine FC.mono ?_
    rintro e w1 ⟨rfl, B1⟩
    clear FC
    go_wp2
    go_ret
    obtain ⟨L, hL⟩ := HT.out
    exact ⟨L, hL.1, hL.2, by rw [HE.out]; rfl, gb_alloc (gb_below B1 _) _, fun _ => (HH.out.below B1).alloc _, fun h0 => by rw [HE.out] at h0; exact absurd h0 (by decide)⟩
  | true =>
    rw [h2] at FC
    have HE : Hid (∀ W : Nat, pmE cs sz root c W = if sz < (W : Int) + (wof cs c : Int) then 10 else 0) := fun W => by unfold pmE; rw [if_neg (by rw [h1]; decide), if_neg (by rw [h2]; decide)]
    have HFL : Hid (wof cs c = sn + 1) := by show _ = _; unfold wof; rw [hfl]
    have hf6 : sn ≤ 6 := by rw [hfl]; exact fof_le h6 c
    have HV : Hid (Cls w base (.slice sv.a sv.n sv.c) vs cs) := hv
    have H6 : Hid (∀ c ∈ cs, c.2.length ≤ 6) := h6
    have HPw : Hid (Pw p) := hP
    obtain ⟨hz, hsz⟩ := zero_of_info Try.infoReach
    obtain ⟨Z, hZ⟩ : ∃ Z, Z = rarr (fun _ => false) (.slice none 0 0) := ⟨_, rfl⟩
    have hZ202 : Z.size = 202 := by rw [hZ]; exact rarr_size _ _
    rw [← hZ] at hz
    obtain ⟨q, rfl, hq8⟩ := rtB_nat h1
    have hqb : (0 : Int) ≤ (q : Int) ∧ (q : Int) < 8 := by omega
    clear h hv hP h6 hf hfl hZ h2
    go_enter Try.func14, Try.ntmps14
    go_wp2_with fail
    refine (isRoot_rs (x := q) true h1).mono ?_
    rintro e w' ⟨rfl, rfl⟩
    go_wp2_with fail
    refine FC.mono ?_
    rintro e w1 ⟨rfl, B1⟩
    have HBa : Hid (Below w'.heap.size w' (w1.alloc (.cells #[.int .u8 l, .slice sa sn sc] 88))) := B1.alloc B1.size _
    have RE := reached_any hb sv sz p (w1.alloc (.cells #[.int .u8 l, .slice sa sn sc] 88)) (HH.out.below HBa.out) HPw.out
    have hs1' := B1.size
    clear FC B1
    go_wp2_with fail
    refine RE.mono ?_
    rintro e w2 ⟨S, v, L, rfl, own, PI1, hm, B2⟩
    obtain ⟨RA, hRA⟩ : ∃ RA, RA = rarr S v := ⟨_, rfl⟩
    have h202 : RA.size = 202 := by rw [hRA]; exact rarr_size _ _
    obtain ⟨va, vc, hvs⟩ : ∃ a c, v = .slice a L.length c := by
      rcases own.2 with ⟨e, hn⟩ | ⟨g, cap, cur, e, _⟩
      · exact ⟨none, 0, by rw [hn]; exact e⟩
      · exact ⟨_, _, e⟩
    have hone : RA.all (·.oneCell') = true := by rw [hRA, hvs]; exact rarr_one _ _ _ _
    have hl201 : RA[201]? = some v := by rw [hRA]; exact rarr_last _ _
    have HRA : Hid (RA = rarr S v) := hRA
    rw [← hRA]
    subst hvs
    have HL : Hid (L.Nodup ∧ (∀ a, a ∈ L ↔ p.in a)) := ⟨PI1.nd, hm⟩
    have HPI : Hid (PI p L S) := PI1
    have hWe : (w2.alloc (.cells Z 93)).setRow w2.heap.size RA = w2.alloc (.cells RA 93) := World.setRow_alloc_new w2 Z RA _
    have hg1 := heap_alloc_new w2 (.cells Z 93)
    have hg2 := heap_alloc_new w2 (.cells RA 93)
    have k1 : (w2.alloc (.cells RA 93)).cell? ⟨w2.heap.size, 201, none⟩ = some (.slice va L.length vc) := (cell_of_row _ _ 201 _ _ _ hg2).trans hl201
    have BA : Below w2.heap.size w2 (w2.alloc (.cells RA 93)) := (Below.refl _ _).alloc (Nat.le_refl _) _
    have B2s := B2.size
    rw [show (w1.alloc (.cells #[.int .u8 l, .slice sa sn sc] 88)).heap.size = w1.heap.size + 1 by simp] at B2s
    have HB2 : Hid (Below w'.heap.size w' w2) := HBa.out.trans (B2.mono HBa.out.size)
    have HB3 : Hid (Below w'.heap.size w' (w2.alloc (.cells RA 93))) := HB2.out.alloc HB2.out.size _
    have WC := wordsOf_any hb sv sz p base vs cs (w2.alloc (.cells RA 93)) (HH.out.below HB3.out) (HV.out.below HB3.out) H6.out L _ _ (own.alloc _) (fun x hx => (PI1.bd x hx).2) PI1.len
    have HRB : Hid (RB (w2.alloc (.cells RA 93)) w2.heap.size S (.slice va L.length vc) L 0) := ⟨by rw [hg2, hRA], row_mono (own.alloc _) (Nat.zero_le _)⟩
    have e0 : w2.cell? ⟨w1.heap.size, 0, none⟩ = some (.int .u8 l) := (B2.cell (by show w1.heap.size < _; simp)).trans (by go_simp)
    have e1 : w2.cell? ⟨w1.heap.size, 1, none⟩ = some (.slice sa sn sc) := (B2.cell (by show w1.heap.size < _; simp)).trans (by go_simp)
    have hsl := wlist_le H6.out p.K L
    have hll := PI1.len
    have hlw : L.length ≤ wlist cs p.K L := len_words L
    obtain ⟨s0, hs⟩ : ∃ s0, s0 = wlist cs p.K L := ⟨_, rfl⟩
    have HS : Hid (s0 = wlist cs p.K L) := hs
    rw [← hs] at WC hsl hlw
    have hs7 : s0 ≤ 1400 := by omega
    clear RE own PI1 hm B2 hRA hl201 hs
    go_wp2_with (first | (refine wpList_store_row rfl 93 _ _ rfl w2.heap.size RA rfl rfl 93 Z hg1 (by rw [hsz, h202]) (by rw [hZ202, h202]) hone ?_; rw [hWe]) | fail)
    refine WC.mono ?_
    rintro e w4 ⟨rfl, B4⟩
    have B4s := B4.size
    rw [show (w2.alloc (.cells RA 93)).heap.size = w2.heap.size + 1 by simp] at B4s
    have g0 : w4.cell? ⟨w1.heap.size, 0, none⟩ = some (.int .u8 l) := (B4.cell (by show w1.heap.size < _; simp; omega)).trans ((BA.cell (by show w1.heap.size < _; omega)).trans e0)
    have g1 : w4.cell? ⟨w1.heap.size, 1, none⟩ = some (.slice sa sn sc) := (B4.cell (by show w1.heap.size < _; simp; omega)).trans ((BA.cell (by show w1.heap.size < _; omega)).trans e1)
    have HB4 : Hid (Below w'.heap.size w' w4) := HB3.out.trans (B4.mono HB3.out.size)
    have HRB4 : Hid (RB w4 w2.heap.size S (.slice va L.length vc) L 0) := HRB.out.below B4
    have hsz4 := (HH.out.below HB4.out).size
    have hbl4 : hb < w4.heap.size := Nat.lt_of_lt_of_le hbl HB4.out.size
    have hw14 : w1.heap.size < w4.heap.size := by omega
    have hw8 : IntKind.i64.wrap ((s0 : Int) + ((sn : Int) + 1)) = (s0 : Int) + ((sn : Int) + 1) := by rw [IntKind.wrap_i64]; omega
    clear WC B4 k1 hg1 hg2 hWe e0 e1 BA
    go_wp2
    go_region_with (go_at_call 37; refine (cwords_any l sa sn sc _ (by omega)).mono ?_; rintro e w5 ⟨rfl, B5'⟩; have z5 : w5.cell? ⟨hb, 1, none⟩ = some (.int .i64 sz) := (B5'.cell (by exact hbl4)).trans hsz4; have hbl5 : hb < w5.heap.size := Nat.lt_of_lt_of_le hbl4 B5'.size)
    all_goals
      have B5 : Below w4.heap.size w4 w5 := ((Below.refl _ w4).drew).trans B5'
      have HB5 : Hid (Below w'.heap.size w' w5) := HB4.out.trans (B5.mono HB4.out.size)
      have HRB5 : Hid (RB w5 w2.heap.size S (.slice va L.length vc) L 0) := HRB4.out.below B5
      clear B5'
      by_cases hfull : sz < (s0 : Int) + ((sn : Int) + 1)
      · have HE2 : Hid (pmE cs sz q c (wlist cs p.K L) = 10) := by
          show _ = _
          rw [HE.out, ← HS.out, if_pos (by rw [HFL.out]; simp; omega)]
        go_wp2
        go_ret
        exact ⟨L, HL.out.1, HL.out.2, by rw [HE2.out]; rfl, gb_below HB5.out _, fun _ => HH.out.below HB5.out, fun h0 => by rw [HE2.out] at h0; exact absurd h0 (by decide)⟩
      · have HE2 : Hid (pmE cs sz q c (wlist cs p.K L) = 0) := by
          show _ = _
          rw [HE.out, ← HS.out, if_neg (by rw [HFL.out]; simp; omega)]
        have hlt200 : L.length < 200 := by omega
        go_wp2_with fail
        refine (free_any w2.heap.size S _ L 0 w5 HRB5.out).mono ?_
        rintro e w6 ⟨rfl, a, rfl, ha⟩
        obtain ⟨ha1, ha2, ha3⟩ : 0 < a ∧ a < 201 ∧ S a = false := by
          rcases ha with ⟨_, hall⟩ | ha
          · obtain ⟨y, y1, y2, y3⟩ := free_ex HPI.out.sm hlt200
            rw [hall y y1 y2] at y3; cases y3
          · exact ha
        have HNI : Hid (¬ p.in a) := fun hin => by
          have := (HPI.out.sm a ha2).2 ((HL.out.2 a).2 hin)
          rw [ha3] at this; cases this
        have HP5 := HH.out.below HB5.out
        have HHP5 : Hid (HP w6 hb sv sz p.R p.K p.N p.F) := HP5
        have m0 : w6.cell? ⟨hb, 10 + a * 13, none⟩ = some (.int .u8 (p.K a)) := HP5.cls a ha2
        have mz : w6.frozen? ⟨hb, 10 + a * 13, none⟩ = false := HP5.frz _
        have n0 : w6.cell? ⟨hb, 10 + a * 13 + 1, none⟩ = some (.int .i64 (p.N a 0)) := HP5.num a 0 ha2 (by omega)
        have n1 : w6.cell? ⟨hb, 10 + a * 13 + 2, none⟩ = some (.int .i64 (p.N a 1)) := HP5.num a 1 ha2 (by omega)
        have n2 : w6.cell? ⟨hb, 10 + a * 13 + 3, none⟩ = some (.int .i64 (p.N a 2)) := HP5.num a 2 ha2 (by omega)
        have n3 : w6.cell? ⟨hb, 10 + a * 13 + 4, none⟩ = some (.int .i64 (p.N a 3)) := HP5.num a 3 ha2 (by omega)
        have n4 : w6.cell? ⟨hb, 10 + a * 13 + 5, none⟩ = some (.int .i64 (p.N a 4)) := HP5.num a 4 ha2 (by omega)
        have n5 : w6.cell? ⟨hb, 10 + a * 13 + 6, none⟩ = some (.int .i64 (p.N a 5)) := HP5.num a 5 ha2 (by omega)
        have r0 : w6.cell? ⟨hb, 10 + a * 13 + 7, none⟩ = some (.int .i64 (p.F a 0)) := HP5.ref a 0 ha2 (by omega)
        have r1 : w6.cell? ⟨hb, 10 + a * 13 + 8, none⟩ = some (.int .i64 (p.F a 1)) := HP5.ref a 1 ha2 (by omega)
        have r2 : w6.cell? ⟨hb, 10 + a * 13 + 9, none⟩ = some (.int .i64 (p.F a 2)) := HP5.ref a 2 ha2 (by omega)
        have r3 : w6.cell? ⟨hb, 10 + a * 13 + 10, none⟩ = some (.int .i64 (p.F a 3)) := HP5.ref a 3 ha2 (by omega)
        have r4 : w6.cell? ⟨hb, 10 + a * 13 + 11, none⟩ = some (.int .i64 (p.F a 4)) := HP5.ref a 4 ha2 (by omega)
        have r5 : w6.cell? ⟨hb, 10 + a * 13 + 12, none⟩ = some (.int .i64 (p.F a 5)) := HP5.ref a 5 ha2 (by omega)
        have z11 : w6.frozen? ⟨hb, 10 + a * 13 + 1, none⟩ = false := HP5.frz _
        have z12 : w6.frozen? ⟨hb, 10 + a * 13 + 2, none⟩ = false := HP5.frz _
        have z13 : w6.frozen? ⟨hb, 10 + a * 13 + 3, none⟩ = false := HP5.frz _
        have z14 : w6.frozen? ⟨hb, 10 + a * 13 + 4, none⟩ = false := HP5.frz _
        have z15 : w6.frozen? ⟨hb, 10 + a * 13 + 5, none⟩ = false := HP5.frz _
        have z16 : w6.frozen? ⟨hb, 10 + a * 13 + 6, none⟩ = false := HP5.frz _
        have z17 : w6.frozen? ⟨hb, 10 + a * 13 + 7, none⟩ = false := HP5.frz _
        have z18 : w6.frozen? ⟨hb, 10 + a * 13 + 8, none⟩ = false := HP5.frz _
        have z19 : w6.frozen? ⟨hb, 10 + a * 13 + 9, none⟩ = false := HP5.frz _
        have z20 : w6.frozen? ⟨hb, 10 + a * 13 + 10, none⟩ = false := HP5.frz _
        have z21 : w6.frozen? ⟨hb, 10 + a * 13 + 11, none⟩ = false := HP5.frz _
        have z22 : w6.frozen? ⟨hb, 10 + a * 13 + 12, none⟩ = false := HP5.frz _
        have cq : w6.cell? ⟨hb, 2 + q, none⟩ = some (.int .i64 (p.R q)) := HP5.root q hq8
        have cqf : w6.frozen? ⟨hb, 2 + q, none⟩ = false := HP5.frz _
        have hab : (0 : Int) ≤ (a : Int) ∧ (a : Int) < 201 := by omega
        have hap : (0 : Int) < (a : Int) := by omega
        clear HP5 ha ha3
        go_wp2
        go_ret
        refine ⟨L, HL.out.1, HL.out.2, by rw [HE2.out]; rfl, ?_, fun h0 => absurd HE2.out h0, fun _ => ⟨a, ha1, ha2, HNI.out, ?_⟩⟩
        · with_reducible repeat first | exact gb_below HB5.out _ | apply gb_setB
        · exact (HHP5.out.setObj ha2 c).setRoot hq8 a
end Go.Proofs.Ytbgilndohccicab
