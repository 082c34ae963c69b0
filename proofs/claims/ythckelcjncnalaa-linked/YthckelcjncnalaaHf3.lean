import Derived.Test.YthckelcjncnalaaHf2
namespace Go.Proofs.Ythckelcjncnalaa
open Go.RowKit

def PWPost (cs : Sch) (p : PH) (w : World) (e : Ending) (w' : World) : Prop := ∃ L, e = .returned (.int .i64 (wlist cs p.K L)) ∧ L.Nodup ∧ (∀ a, a ∈ L ↔ p.in a) ∧ Below w.heap.size w w'
set_option maxRecDepth 20000 in
set_option maxHeartbeats 1000000 in
theorem pwords_any (hb : Nat) (sv : SV) (sz : Int) (p : PH) (base : Nat) (vs : List (Int × SV)) (cs : List (Int × List (Int × Int))) (w : World) (h : HP w hb sv sz p.R p.K p.N p.F) (hv : Cls w base (.slice sv.a sv.n sv.c) vs cs) (hP : Pw p) (h6 : ∀ c ∈ cs, c.2.length ≤ 6) :
    Calls Try.prog 27 #[.pointer (some ⟨hb, 0, none⟩)] w (PWPost cs p w) := by
  have hbl := h.lt
  have RE := reached_any hb sv sz p w h hP
  have HH : Hid (HP w hb sv sz p.R p.K p.N p.F) := h
  have HV : Hid (Cls w base (.slice sv.a sv.n sv.c) vs cs) := hv
  have H6 : Hid (∀ c ∈ cs, c.2.length ≤ 6) := h6
  obtain ⟨hz, hsz⟩ := zero_of_info Try.infoReach
  obtain ⟨Z, hZ⟩ : ∃ Z, Z = rarr (fun _ => false) (.slice none 0 0) := ⟨_, rfl⟩
  have hZ202 : Z.size = 202 := by rw [hZ]; exact rarr_size _ _
  rw [← hZ] at hz
  clear h hv hP h6 hZ
  go_enter Try.func27, Try.ntmps27
  go_wp2_with fail
  refine RE.mono ?_
  rintro e w1 ⟨S, v, L, rfl, own, PI1, hm, B1⟩
  obtain ⟨RA, hRA⟩ : ∃ RA, RA = rarr S v := ⟨_, rfl⟩
  have h202 : RA.size = 202 := by rw [hRA]; exact rarr_size _ _
  obtain ⟨va, vc, hvs⟩ : ∃ a c, v = .slice a L.length c := by
    rcases own.2 with ⟨e, hn⟩ | ⟨g, cap, cur, e, _⟩
    · exact ⟨none, 0, by rw [hn]; exact e⟩
    · exact ⟨_, _, e⟩
  have hone : RA.all (·.oneCell') = true := by rw [hRA, hvs]; exact rarr_one _ _ _ _
  have hl201 : RA[201]? = some v := by rw [hRA]; exact rarr_last _ _
  rw [← hRA]
  subst hvs
  have HL : Hid (L.Nodup ∧ (∀ a, a ∈ L ↔ p.in a)) := ⟨PI1.nd, hm⟩
  have hWe : (w1.alloc (.cells Z 85)).setRow w1.heap.size RA = w1.alloc (.cells RA 85) := World.setRow_alloc_new w1 Z RA _
  have hg1 := heap_alloc_new w1 (.cells Z 85)
  have hg2 := heap_alloc_new w1 (.cells RA 85)
  have k1 : (w1.alloc (.cells RA 85)).cell? ⟨w1.heap.size, 201, none⟩ = some (.slice va L.length vc) := (cell_of_row _ _ 201 _ _ _ hg2).trans hl201
  have BA : Below w1.heap.size w1 (w1.alloc (.cells RA 85)) := (Below.refl _ _).alloc (Nat.le_refl _) _
  have WC := wordsOf_any hb sv sz p base vs cs (w1.alloc (.cells RA 85)) ((HH.out.below B1).below BA) ((HV.out.below B1).below BA) H6.out L w.heap.size _ (own.alloc _) (fun x hx => (PI1.bd x hx).2) PI1.len
  have HB : Hid (Below w.heap.size w (w1.alloc (.cells RA 85))) := B1.alloc B1.size _
  clear RE own PI1 hm B1 hRA hl201 BA
  go_wp2_with (first | (refine wpList_store_row rfl 85 _ _ rfl w1.heap.size RA rfl rfl 85 Z hg1 (by rw [hsz, h202]) (by rw [hZ202, h202]) hone ?_; rw [hWe]) | fail)
  refine WC.mono ?_
  rintro e w2 ⟨rfl, B2⟩
  clear WC
  go_wp2
  go_ret
  exact ⟨L, rfl, HL.out.1, HL.out.2, HB.out.trans (B2.mono HB.out.size)⟩
end Go.Proofs.Ythckelcjncnalaa
