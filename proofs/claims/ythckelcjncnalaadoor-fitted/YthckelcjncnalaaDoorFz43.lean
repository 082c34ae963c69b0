import Derived.Test.YthckelcjncnalaaDoorFz40
import Derived.Test.YthckelcjncnalaaDoorFz42
namespace Go.Proofs.YthckelcjncnalaaDoor
open Go.RowKit

set_option maxHeartbeats 4000000 in
set_option maxRecDepth 100000 in
theorem judge_f2 (x : KX) (os : Sch) (c : HC) (fa : Option Addr) (m fc base : Nat) (at_ : Int) (w : World) (K : KC w x os) (hU : Uq os) (hV : UV w base (.slice fa m fc) c.l) (hq1 : (c.s != 0) = true) (hq2 : (c.sa == at_) = false) (hat : 0 ≤ at_) (hat' : at_ ≤ 1000) (hF : ∀ f ∈ c.l, 0 ≤ f.sa ∧ f.sa ≤ 1004 ∧ f.su.size ≤ 400) (hl : c.l.length ≤ 6) :
    Calls Tryd.prog 25 #[.agg #[.int .u8 c.n, .int .u8 c.s, .int .i64 c.p, .int .i64 c.sa, .slice fa m fc], .slice (some ⟨x.g, 0, none⟩) os.length x.cap, .int .i64 at_] w fun e w' => e = .returned (.int .i64 (jFs (fof os (srcI (vsO os) c.n c.s)) at_ c.l)) ∧ Below w.heap.size w w' := by
  obtain ⟨hmn, hcx⟩ := hV.cellsX
  have HM : Hid (m = c.l.length) := hmn
  have hm6 : m ≤ 6 := by omega
  have HC : Hid (∀ i, i < m → ∃ g, fa = some ⟨g, 0, none⟩ ∧ g < w.heap.size ∧ UCell w g i (c.l[i]?.getD noGU)) := hcx
  have HF : Hid (∀ f ∈ c.l, 0 ≤ f.sa ∧ f.sa ≤ 1004 ∧ f.su.size ≤ 400) := hF
  have HK : Hid (KC w x os) := K
  have HU : Hid (Uq os) := hU
  obtain ⟨src, hsrc⟩ : ∃ src, src = srcI (vsO os) c.n c.s := ⟨_, rfl⟩
  rw [← hsrc]
  obtain ⟨W, hW⟩ : ∃ W, W = w.alloc (.cells #[.int .u8 c.n, .int .u8 c.s, .int .i64 c.p, .int .i64 c.sa, .slice fa m fc] 53) := ⟨_, rfl⟩
  have B0 : Below w.heap.size w W := by rw [hW]; exact (Below.refl _ _).alloc (Nat.le_refl _) _
  have z0 : w.heap.size < W.heap.size := by rw [hW]; simp
  have C1 := umade_of c.n c.s c.p c.sa fa m fc x.g x.cap os.length _ W ((K.below B0).oldN hU.s) src (by rw [madeI_src, hsrc])
  obtain ⟨fs, hfs⟩ : ∃ fs, fs = fof os src := ⟨_, rfl⟩
  rw [← hfs]
  have HFS : Hid (fs = fof os src) := hfs
  obtain ⟨R, hR⟩ : ∃ R, R = jFs fs at_ c.l := ⟨_, rfl⟩
  rw [← hR]
  have HR : Hid (R = jFs fs at_ c.l) := hR
  have y0 : W.cell? ⟨w.heap.size, 1, none⟩ = some (.int .u8 c.s) := by rw [hW]; go_simp
  have y1 : W.cell? ⟨w.heap.size, 3, none⟩ = some (.int .i64 c.sa) := by rw [hW]; go_simp
  have y2 : W.cell? ⟨w.heap.size, 4, none⟩ = some (.slice fa m fc) := by rw [hW]; go_simp
  obtain ⟨ol, hol⟩ : ∃ ol, ol = os.length := ⟨_, rfl⟩
  rw [← hol] at C1 ⊢
  have HOL : Hid (ol = os.length) := hol
  have hol6 : ol ≤ 6 := by rw [hol]; exact hU.s
  clear hmn hcx hF K hU hsrc hfs hR hV hl hol
  go_enter Tryd.func25, Tryd.ntmps25
  go_wp2_with fail
  rw [← hW]
  clear hW
  refine C1.mono ?_
  rintro e w1 ⟨rfl, B1⟩
  have BW1 : Below w.heap.size w w1 := B0.trans (B1.mono B0.size)
  have x0 : w1.cell? ⟨w.heap.size, 1, none⟩ = some (.int .u8 c.s) := (B1.cell (p := ⟨w.heap.size, 1, none⟩) z0).trans y0
  have x1 : w1.cell? ⟨w.heap.size, 3, none⟩ = some (.int .i64 c.sa) := (B1.cell (p := ⟨w.heap.size, 3, none⟩) z0).trans y1
  have x2 : w1.cell? ⟨w.heap.size, 4, none⟩ = some (.slice fa m fc) := (B1.cell (p := ⟨w.heap.size, 4, none⟩) z0).trans y2
  have z1 : w.heap.size < w1.heap.size := Nat.lt_of_lt_of_le z0 B1.size
  clear C1 B1 y0 y1 y2
  go_wp2
  go_loopw [9] (fun i wr => ∃ j : Nat, j ≤ m ∧ i = .int .i64 j ∧ Hid (R = jFs fs at_ (c.l.drop j)) ∧ Below w1.heap.size w1 wr) (fun i _ => m - (intOf i).toNat)
  case atStart => exact ⟨0, Nat.zero_le _, rfl, HR.out, Below.refl _ _⟩
  case round =>
    obtain ⟨j, hj, rfl, HT, hb⟩ := hrel
    have hsz := hb.size
    have p2 : wr.cell? ⟨w.heap.size, 4, none⟩ = some (.slice fa m fc) := (hb.cell (p := ⟨w.heap.size, 4, none⟩) z1).trans x2
    have zr : w.heap.size < wr.heap.size := by omega
    have BW : Below w.heap.size w wr := BW1.trans (hb.mono BW1.size)
    by_cases hjl : j < m
    · obtain ⟨g, hga, hgs, hgc⟩ := HC.out j hjl
      subst hga
      obtain ⟨f, hf⟩ : ∃ f, f = c.l[j]?.getD noGU := ⟨_, rfl⟩
      have hfk : c.l[j]? = some f := by rw [hf]; exact getD_of (by rw [← HM.out]; exact hjl) noGU
      obtain ⟨f0, f1, f2, f3, f4, f5, f6⟩ := hgc.below BW hgs
      rw [← hf] at f0 f1 f2 f3 f4 f5 f6
      obtain ⟨hs0, hs1, hs2⟩ := HF.out f (List.mem_of_getElem? hfk)
      have hgr : g < wr.heap.size := by omega
      have hst := HT.out
      rw [drop_cons hfk, jFs] at hst
      obtain ⟨fn, fk, fp, sa, sm, bg, su⟩ := f
      simp only [] at f0 f1 f2 f3 f4 f5 f6 hs0 hs1 hs2
      have BA : Below w1.heap.size w1 (wr.alloc (.cells #[.int .u8 fn, .int .u8 fk, .int .i64 fp, .int .i64 sa, .bool sm, .bool bg, .string su] 59)) := hb.alloc hsz _
      have BAW : Below w.heap.size w (wr.alloc (.cells #[.int .u8 fn, .int .u8 fk, .int .i64 fp, .int .i64 sa, .bool sm, .bool bg, .string su] 59)) := BW.alloc (by omega) _
      clear hf hfk hgc HT
      by_cases hsk : sm = false ∨ at_ < sa ∨ sa + su.size ≤ at_
      · have HN : Hid (R = jFs fs at_ (c.l.drop (j + 1))) := by
          show R = _
          rw [hst, jF1, if_pos hsk, if_neg (by simp)]
        clear hst
        cases sm with
        | false =>
          clear hsk
          go_wp2
          exact ⟨⟨j + 1, by omega, rfl, HN, BA⟩, by simp [intOf]; omega⟩
        | true =>
          by_cases h1 : at_ < sa
          · clear hsk
            go_wp2
            exact ⟨⟨j + 1, by omega, rfl, HN, BA⟩, by simp [intOf]; omega⟩
          · have h2 : sa + su.size ≤ at_ := by simpa [h1] using hsk
            clear hsk
            go_wp2
            exact ⟨⟨j + 1, by omega, rfl, HN, BA⟩, by simp [intOf]; omega⟩
      · have hsm : sm = true := by cases sm with
          | true => rfl
          | false => exact absurd (.inl rfl) hsk
        subst hsm
        have h1 : ¬ at_ < sa := fun h => hsk (.inr (.inl h))
        have h2 : ¬ sa + su.size ≤ at_ := fun h => hsk (.inr (.inr h))
        obtain ⟨k, hk⟩ : ∃ k : Nat, at_ - sa = k := ⟨(at_ - sa).toNat, by omega⟩
        have hkl : k < su.size := by omega
        have hbk : (su[k].toNat : Int) = nextB su k := (nextB_in hkl).symm
        rw [jF1] at hst
        simp only [] at hst
        rw [if_neg hsk, hk, Int.toNat_natCast] at hst
        obtain ⟨b, hbb⟩ : ∃ b, b = nextB su k := ⟨_, rfl⟩
        rw [← hbb] at hbk hst
        clear hbb hsk
        go_wp2_with fail
        cases hlw : isLw b with
        | true =>
          refine (among_any b 97 122 _ true hlw).mono ?_
          rintro e w2 ⟨rfl, rfl⟩
          obtain ⟨kd, hkd⟩ : ∃ kd, kd = (kdF fs b).1 := ⟨_, rfl⟩
          have ekd : jKd fs b = kd := by unfold jKd; rw [if_pos hlw, hkd]
          rw [ekd] at hst
          have C2 := kindOf_kc (HK.out.below BAW) HU.out src b kd (by rw [← HFS.out, hkd])
          rw [← HOL.out] at C2
          have HJ : Hid (R = jsel (isLw b) kd fk at_ sa bg su (jFs fs at_ (c.l.drop (j + 1)))) := hst
          rw [hlw] at HJ
          clear hkd ekd hst hlw
          go_wp2_with fail
          refine C2.mono ?_
          rintro e w3 ⟨rfl, B3⟩
          have BB : Below w1.heap.size w1 w3 := BA.trans (B3.mono BA.size)
          have BW3 : Below w.heap.size w w3 := BAW.trans (B3.mono BAW.size)
          have g1 : w3.cell? ⟨wr.heap.size, 1, none⟩ = some (.int .u8 fk) := (B3.cell (p := ⟨wr.heap.size, 1, none⟩) (by simp)).trans (by go_simp)
          have g3 : w3.cell? ⟨wr.heap.size, 3, none⟩ = some (.int .i64 sa) := (B3.cell (p := ⟨wr.heap.size, 3, none⟩) (by simp)).trans (by go_simp)
          have g5 : w3.cell? ⟨wr.heap.size, 5, none⟩ = some (.bool bg) := (B3.cell (p := ⟨wr.heap.size, 5, none⟩) (by simp)).trans (by go_simp)
          have g6 : w3.cell? ⟨wr.heap.size, 6, none⟩ = some (.string su) := (B3.cell (p := ⟨wr.heap.size, 6, none⟩) (by simp)).trans (by go_simp)
          have gz : wr.heap.size < w3.heap.size := by have := B3.size; simp at this; omega
          clear C2 B3 f0 f1 f2 f3 f4 f5 f6 p2 BA BAW hb BW
          by_cases h0 : kd = 0
          · have e0 : (kd == 0) = true := by simp [h0]
            have HN : Hid (R = 5) := by show R = _; rw [HJ.out]; exact jsel5 h0
            clear h0 HJ
            go_wp2
            go_ret
            rw [HN.out]
            exact ⟨rfl, BW3⟩
          have e0 : (kd == 0) = false := by simp [h0]
          by_cases h3 : fk = 114
          · have e3 : (fk != 114) = false := by simp [h3]
            have e3' : (fk == 114) = true := by simp [h3]
            by_cases h4 : at_ = sa
            · have e4 : (at_ == sa) = true := by simp [h4]
              cases bg with
              | true =>
                have HN : Hid (R = 6) := by show R = _; rw [HJ.out]; exact jsel6 (.inr ⟨h3, h4, .inl rfl⟩) (.inr h0)
                clear h3 h4 HJ
                go_wp2
                go_ret
                rw [HN.out]
                exact ⟨rfl, BW3⟩
              | false =>
                by_cases h5 : su = ⟨#[48]⟩
                · have e5' : su.toList = [48] := su48.2 h5
                  have e5 : (su.toList == [48]) = true := by simp [e5']
                  have HN : Hid (R = jFs fs at_ (c.l.drop (j + 1))) := by show R = _; rw [HJ.out]; exact jsel0 (.inr h0) (fun h => h.1 h3) (fun h => by rcases h.2.2 with h | h; cases h; exact h.1 h5)
                  clear h3 h4 h5 HJ
                  go_wp2
                  exact ⟨⟨j + 1, by omega, rfl, HN, BB⟩, by simp [intOf]; omega⟩
                · have e5' : ¬ su.toList = [48] := fun h => h5 (su48.1 h)
                  have e5 : (su.toList == [48]) = false := by simpa using e5'
                  by_cases h6 : su.size = 1
                  · have e6' : (su.size : Int) = 1 := by omega
                    have e6 : ((su.size : Int) != 1) = false := by simp [h6]
                    by_cases h7 : kd = 114
                    · have e7 : (kd != 114) = false := by simp [h7]
                      have HN : Hid (R = jFs fs at_ (c.l.drop (j + 1))) := by show R = _; rw [HJ.out]; exact jsel0 (.inr h0) (fun h => h.1 h3) (fun h => by rcases h.2.2 with h | h; cases h; rcases h.2 with h | h; exact h h6; exact h h7)
                      clear h3 h4 h5 h6 h7 HJ
                      go_wp2
                      exact ⟨⟨j + 1, by omega, rfl, HN, BB⟩, by simp [intOf]; omega⟩
                    · have e7 : (kd != 114) = true := by simp [h7]
                      have HN : Hid (R = 6) := by show R = _; rw [HJ.out]; exact jsel6 (.inr ⟨h3, h4, .inr ⟨h5, .inr h7⟩⟩) (.inr h0)
                      clear h3 h4 h5 h6 h7 HJ
                      go_wp2
                      go_ret
                      rw [HN.out]
                      exact ⟨rfl, BW3⟩
                  · have e6' : ¬ (su.size : Int) = 1 := by omega
                    have e6 : ((su.size : Int) != 1) = true := by simp; omega
                    have HN : Hid (R = 6) := by show R = _; rw [HJ.out]; exact jsel6 (.inr ⟨h3, h4, .inr ⟨h5, .inl h6⟩⟩) (.inr h0)
                    clear h3 h4 h5 h6 HJ
                    go_wp2
                    go_ret
                    rw [HN.out]
                    exact ⟨rfl, BW3⟩
            · have e4 : (at_ == sa) = false := by simp [h4]
              have HN : Hid (R = jFs fs at_ (c.l.drop (j + 1))) := by show R = _; rw [HJ.out]; exact jsel0 (.inr h0) (fun h => h.1 h3) (fun h => h4 h.2.1)
              clear h3 h4 HJ
              go_wp2
              exact ⟨⟨j + 1, by omega, rfl, HN, BB⟩, by simp [intOf]; omega⟩
          · have e3 : (fk != 114) = true := by simp [h3]
            have e3' : (fk == 114) = false := by simp [h3]
            by_cases h7 : kd = 114
            · have e7 : (kd == 114) = true := by simp [h7]
              have HN : Hid (R = 6) := by show R = _; rw [HJ.out]; exact jsel6 (.inl ⟨h3, h7⟩) (.inr h0)
              clear h3 h7 HJ
              go_wp2
              go_ret
              rw [HN.out]
              exact ⟨rfl, BW3⟩
            · have e7 : (kd == 114) = false := by simp [h7]
              have HN : Hid (R = jFs fs at_ (c.l.drop (j + 1))) := by show R = _; rw [HJ.out]; exact jsel0 (.inr h0) (fun h => h7 h.2) (fun h => h3 h.1)
              clear h3 h7 HJ
              go_wp2
              exact ⟨⟨j + 1, by omega, rfl, HN, BB⟩, by simp [intOf]; omega⟩
        | false =>
          refine (among_any b 97 122 _ false hlw).mono ?_
          rintro e w3 ⟨rfl, rfl⟩
          obtain ⟨kd, hkd⟩ : ∃ kd : Int, kd = 0 := ⟨_, rfl⟩
          have ekd : jKd fs b = kd := by unfold jKd; rw [hlw, hkd]; rfl
          rw [ekd] at hst
          have HJ : Hid (R = jsel (isLw b) kd fk at_ sa bg su (jFs fs at_ (c.l.drop (j + 1)))) := hst
          rw [hlw] at HJ
          subst hkd
          have h0 : False = True → True := fun _ => trivial
          clear ekd hst hlw h0
          have BB := BA
          have BW3 := BAW
          clear BA BAW hb BW
          by_cases h3 : fk = 114
          · have e3 : (fk != 114) = false := by simp [h3]
            have e3' : (fk == 114) = true := by simp [h3]
            by_cases h4 : at_ = sa
            · have e4 : (at_ == sa) = true := by simp [h4]
              cases bg with
              | true =>
                have HN : Hid (R = 6) := by show R = _; rw [HJ.out]; exact jsel6 (.inr ⟨h3, h4, .inl rfl⟩) (.inl rfl)
                clear h3 h4 HJ
                go_wp2
                go_ret
                rw [HN.out]
                exact ⟨rfl, BW3⟩
              | false =>
                by_cases h5 : su = ⟨#[48]⟩
                · have e5' : su.toList = [48] := su48.2 h5
                  have e5 : (su.toList == [48]) = true := by simp [e5']
                  have HN : Hid (R = jFs fs at_ (c.l.drop (j + 1))) := by show R = _; rw [HJ.out]; exact jsel0 (.inl rfl) (fun h => h.1 h3) (fun h => by rcases h.2.2 with h | h; cases h; exact h.1 h5)
                  clear h3 h4 h5 HJ
                  go_wp2
                  exact ⟨⟨j + 1, by omega, rfl, HN, BB⟩, by simp [intOf]; omega⟩
                · have e5' : ¬ su.toList = [48] := fun h => h5 (su48.1 h)
                  have e5 : (su.toList == [48]) = false := by simpa using e5'
                  by_cases h6 : su.size = 1
                  · have e6' : (su.size : Int) = 1 := by omega
                    have e6 : ((su.size : Int) != 1) = false := by simp [h6]
                    by_cases h7 : (0 : Int) = 114
                    · exact absurd h7 (by decide)
                    · have e7 : ((0 : Int) != 114) = true := by decide
                      have HN : Hid (R = 6) := by show R = _; rw [HJ.out]; exact jsel6 (.inr ⟨h3, h4, .inr ⟨h5, .inr h7⟩⟩) (.inl rfl)
                      clear h3 h4 h5 h6 h7 HJ
                      go_wp2
                      go_ret
                      rw [HN.out]
                      exact ⟨rfl, BW3⟩
                  · have e6' : ¬ (su.size : Int) = 1 := by omega
                    have e6 : ((su.size : Int) != 1) = true := by simp; omega
                    have HN : Hid (R = 6) := by show R = _; rw [HJ.out]; exact jsel6 (.inr ⟨h3, h4, .inr ⟨h5, .inl h6⟩⟩) (.inl rfl)
                    clear h3 h4 h5 h6 HJ
                    go_wp2
                    go_ret
                    rw [HN.out]
                    exact ⟨rfl, BW3⟩
            · have e4 : (at_ == sa) = false := by simp [h4]
              have HN : Hid (R = jFs fs at_ (c.l.drop (j + 1))) := by show R = _; rw [HJ.out]; exact jsel0 (.inl rfl) (fun h => h.1 h3) (fun h => h4 h.2.1)
              clear h3 h4 HJ
              go_wp2
              exact ⟨⟨j + 1, by omega, rfl, HN, BB⟩, by simp [intOf]; omega⟩
          · have e3 : (fk != 114) = true := by simp [h3]
            have e3' : (fk == 114) = false := by simp [h3]
            by_cases h7 : (0 : Int) = 114
            · exact absurd h7 (by decide)
            · have e7 : ((0 : Int) == 114) = false := by decide
              have HN : Hid (R = jFs fs at_ (c.l.drop (j + 1))) := by show R = _; rw [HJ.out]; exact jsel0 (.inl rfl) (fun h => h7 h.2) (fun h => h3 h.1)
              clear h3 h7 HJ
              go_wp2
              exact ⟨⟨j + 1, by omega, rfl, HN, BB⟩, by simp [intOf]; omega⟩
    · have HN : Hid (R = 0) := by show R = _; rw [HT.out, List.drop_eq_nil_of_le (by rw [← HM.out]; omega)]; rfl
      go_wp2
      go_ret
      rw [HN.out]
      exact ⟨rfl, BW⟩
end Go.Proofs.YthckelcjncnalaaDoor
namespace Go.Proofs.YthckelcjncnalaaDoor
open Go.RowKit

theorem hasO_hit {os : Sch} {x : Int} {i : Nat} (hi : i < os.length) (h : (cat os i).1 = x) : hasC (vsO os) x = true := by
  unfold hasC vsO
  rw [List.any_map, List.any_eq_true]
  exact ⟨os[i], List.getElem_mem hi, by simpa [cat, List.getElem?_eq_getElem hi] using h⟩
theorem hasO_none {os : Sch} {x : Int} (h : ∀ i, i < os.length → (cat os i).1 ≠ x) : hasC (vsO os) x = false := by
  unfold hasC vsO
  rw [List.any_map, List.any_eq_false]
  intro p hp
  obtain ⟨i, hi, rfl⟩ := List.getElem_of_mem hp
  have := h i hi
  simpa [cat, List.getElem?_eq_getElem hi] using this
set_option maxHeartbeats 1000000 in
set_option maxRecDepth 100000 in
theorem judge_src (x : KX) (os : Sch) (c : HC) (fa : Option Addr) (m fc : Nat) (at_ : Int) (w : World) (K : KC w x os) (hU : Uq os) (h0 : c.s ≠ 0) (h1 : c.sa = at_) :
    Calls Tryd.prog 25 #[.agg #[.int .u8 c.n, .int .u8 c.s, .int .i64 c.p, .int .i64 c.sa, .slice fa m fc], .slice (some ⟨x.g, 0, none⟩) os.length x.cap, .int .i64 at_] w fun e w' => e = .returned (.int .i64 (if hasC (vsO os) c.s = true then 0 else 4)) ∧ Below w.heap.size w w' := by
  have HK : Hid (KC w x os) := K
  obtain ⟨src, hsrc⟩ : ∃ src, src = srcI (vsO os) c.n c.s := ⟨_, rfl⟩
  obtain ⟨W, hW⟩ : ∃ W, W = w.alloc (.cells #[.int .u8 c.n, .int .u8 c.s, .int .i64 c.p, .int .i64 c.sa, .slice fa m fc] 53) := ⟨_, rfl⟩
  have B0 : Below w.heap.size w W := by rw [hW]; exact (Below.refl _ _).alloc (Nat.le_refl _) _
  have z0 : w.heap.size < W.heap.size := by rw [hW]; simp
  have C1 := umade_of c.n c.s c.p c.sa fa m fc x.g x.cap os.length _ W ((K.below B0).oldN hU.s) src (by rw [madeI_src, hsrc])
  have y0 : W.cell? ⟨w.heap.size, 1, none⟩ = some (.int .u8 c.s) := by rw [hW]; go_simp
  have y1 : W.cell? ⟨w.heap.size, 3, none⟩ = some (.int .i64 c.sa) := by rw [hW]; go_simp
  have q1 : (c.s != 0) = true := by simp [h0]
  have q2 : (c.sa == at_) = true := by simp [h1]
  obtain ⟨R, hR⟩ : ∃ R : Int, R = if hasC (vsO os) c.s = true then 0 else 4 := ⟨_, rfl⟩
  rw [← hR]
  have HR : Hid (R = if hasC (vsO os) c.s = true then 0 else 4) := hR
  obtain ⟨ol, hol⟩ : ∃ ol, ol = os.length := ⟨_, rfl⟩
  rw [← hol] at C1 ⊢
  have HOL : Hid (ol = os.length) := hol
  have hol6 : ol ≤ 6 := by rw [hol]; exact hU.s
  clear K hU hsrc hR h0 h1 hol
  go_enter Tryd.func25, Tryd.ntmps25
  go_wp2_with fail
  rw [← hW]
  clear hW
  refine C1.mono ?_
  rintro e w1 ⟨rfl, B1⟩
  have BW1 : Below w.heap.size w w1 := B0.trans (B1.mono B0.size)
  have x0 : w1.cell? ⟨w.heap.size, 1, none⟩ = some (.int .u8 c.s) := (B1.cell (p := ⟨w.heap.size, 1, none⟩) z0).trans y0
  have x1 : w1.cell? ⟨w.heap.size, 3, none⟩ = some (.int .i64 c.sa) := (B1.cell (p := ⟨w.heap.size, 3, none⟩) z0).trans y1
  have z1 : w.heap.size < w1.heap.size := Nat.lt_of_lt_of_le z0 B1.size
  clear C1 B1 y0 y1
  go_wp2
  go_loopw [8] (fun i wr => ∃ j : Nat, j ≤ ol ∧ i = .int .i64 j ∧ Hid (∀ i', i' < j → (cat os i').1 ≠ c.s) ∧ Below w1.heap.size w1 wr) (fun i _ => ol - (intOf i).toNat)
  case atStart => exact ⟨0, Nat.zero_le _, rfl, fun i' h => by omega, Below.refl _ _⟩
  case round =>
    obtain ⟨j, hj, rfl, HT, hb⟩ := hrel
    have hsz := hb.size
    have p0 : wr.cell? ⟨w.heap.size, 1, none⟩ = some (.int .u8 c.s) := (hb.cell (p := ⟨w.heap.size, 1, none⟩) z1).trans x0
    have zr : w.heap.size < wr.heap.size := by omega
    have BW : Below w.heap.size w wr := BW1.trans (hb.mono BW1.size)
    by_cases hjl : j < ol
    · have hk : wr.cell? ⟨x.g, j * 5, none⟩ = some (.int .u8 (cat os j).1) := ((HK.out.below BW).row j (by rw [← HOL.out]; exact hjl)).c0
      have hg : x.g < wr.heap.size := (HK.out.below BW).lt
      obtain ⟨nm, hnm⟩ : ∃ nm, nm = (cat os j).1 := ⟨_, rfl⟩
      rw [← hnm] at hk
      have HNM : Hid (nm = (cat os j).1) := hnm
      clear hnm
      by_cases he : nm = c.s
      · have e1 : (nm == c.s) = true := by simp [he]
        have HN : Hid (R = 0) := by show R = _; rw [HR.out, if_pos (hasO_hit (i := j) (by rw [← HOL.out]; exact hjl) (by rw [← HNM.out, he]))]
        clear he
        go_wp2
        go_quiet (fail)
        go_wp2
        go_ret
        rw [HN.out]
        exact ⟨rfl, BW.trans ((gb_below_drew _ _).mono BW.size)⟩
      · have e1 : (nm == c.s) = false := by simp [he]
        have HN : Hid (∀ i', i' < j + 1 → (cat os i').1 ≠ c.s) := by
          intro i' hi'
          rcases Nat.lt_succ_iff_lt_or_eq.1 hi' with h | rfl
          · exact HT.out i' h
          · rw [← HNM.out]; exact he
        clear he HT
        go_wp2
        go_quiet (fail)
        go_wp2
        exact ⟨⟨j + 1, by omega, rfl, HN, hb.trans ((gb_below_drew _ _).mono hsz)⟩, by simp [intOf]; omega⟩
    · have HN : Hid (R = 4) := by show R = _; rw [HR.out, hasO_none fun i hi => HT.out i (by rw [← HOL.out] at hi; omega), if_neg (by decide)]
      go_wp2
      go_ret
      rw [HN.out]
      exact ⟨rfl, BW⟩
/-- judge. -/
theorem judge_any {x : KX} {os : Sch} {c : HC} {fa : Option Addr} {m fc base : Nat} {at_ : Int} {w : World} (K : KC w x os) (hU : Uq os) (hV : UV w base (.slice fa m fc) c.l) (hat : 0 ≤ at_) (hat' : at_ ≤ 1000) (hF : ∀ f ∈ c.l, 0 ≤ f.sa ∧ f.sa ≤ 1004 ∧ f.su.size ≤ 400) (hl : c.l.length ≤ 6) :
    Calls Tryd.prog 25 #[.agg #[.int .u8 c.n, .int .u8 c.s, .int .i64 c.p, .int .i64 c.sa, .slice fa m fc], .slice (some ⟨x.g, 0, none⟩) os.length x.cap, .int .i64 at_] w fun e w' => e = .returned (.int .i64 (jC os c at_)) ∧ Below w.heap.size w w' := by
  unfold jC
  by_cases h : c.s ≠ 0 ∧ c.sa = at_
  · rw [if_pos h]
    exact judge_src x os c fa m fc at_ w K hU h.1 h.2
  · rw [if_neg h]
    by_cases h0 : c.s = 0
    · exact judge_f1 x os c fa m fc base at_ w K hU hV (by simp [h0]) hat hat' hF hl
    · exact judge_f2 x os c fa m fc base at_ w K hU hV (by simp [h0]) (by simp only [beq_eq_false_iff_ne]; exact fun h' => h ⟨h0, h'⟩) hat hat' hF hl
end Go.Proofs.YthckelcjncnalaaDoor
