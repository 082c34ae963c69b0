import Derived.Test.YtbgilndohccicaaGreatDoorRh2
import Derived.Deep.OwnRows
namespace Go.Proofs.YtbgilndohccicaaGreatDoor
open Go.RowKit

/-- The marks in block ib. -/
structure TB (w : World) (ib n : Nat) (T : Nat → Bool) : Prop where
  lt : ib < w.heap.size
  c : ∀ o, o < n → w.cell? ⟨ib, o, none⟩ = some (.bool (T o))
  f : ∀ o, w.frozen? ⟨ib, o, none⟩ = false
theorem TB.new (w : World) (n : Nat) (e : TypeId) : TB (w.alloc (.cells (madeCells #[.bool false] n) e)) w.heap.size n (fun _ => false) := by
  have hg := heap_alloc_new w (.cells (madeCells #[.bool false] n) e)
  refine ⟨by simp, fun o ho => ?_, fun o => frozen_of_row _ _ _ _ _ hg⟩
  rw [cell_of_row _ _ o _ e _ hg]
  simp [madeCells, ho, Nat.mod_one]
theorem TB.set {w : World} {ib n : Nat} {T : Nat → Bool} (h : TB w ib n T) (y : Nat) : TB (w.setCell ⟨ib, y, none⟩ (.bool true)) ib n (set1 T y true) := by
  refine ⟨by simpa [World.setCell] using h.lt, fun o ho => ?_, fun o => by rw [sc_frz]; exact h.f o⟩
  by_cases e : o = y
  · subst e
    have := h.c o ho
    rw [set1_self]
    go_simp
  · rw [set1_ne _ _ e, sc_off w _ e]; exact h.c o ho
theorem TB.drewN {w : World} {ib n : Nat} {T : Nat → Bool} (h : TB w ib n T) (k : Nat) : TB (w.drewN k) ib n T := ⟨h.lt, h.c, h.f⟩
theorem Tryz.infoBool : (Tryz.prog.info? 4).map (fun i => (i.zero, i.size, i.bytes)) = some (some (.bool false), 1, 1) := by kernel_rfl
def ThPost (cs : Sch) (r : DH) (w : World) (e : Ending) (w' : World) : Prop := ∃ T, e = .returned (.slice (some ⟨w.heap.size, 0, none⟩) r.n r.n) ∧ TB w' w.heap.size r.n T ∧ (∀ o, o < r.n → (T o = true ↔ r.in cs (o + 1))) ∧ Below w.heap.size w w'

set_option maxRecDepth 20000 in
set_option maxHeartbeats 2000000 in
theorem there_any (rb : Nat) (x : RX) (cs : Sch) (sz : Int) (r : DH) (w : World) (h : RP w rb x cs sz r) (hW : Wf cs r) (hcs : cs.length ≤ 1000) (h6 : ∀ c ∈ cs, c.2.length ≤ 6) (hn : r.n ≤ 4398046511104) :
    Calls Tryz.prog 79 #[.pointer (some ⟨rb, 0, none⟩)] w (ThPost cs r w) := by
  have hmk := run_make_row' (P := Tryz.prog) 127 4 (.bool false) 1 Tryz.underlying127 Tryz.infoBool rfl .i64 .i64 r.n (by omega) (by omega)
  have hrb := h.lt
  have HH : Hid (RP w rb x cs sz r) := h
  have HW : Hid (Wf cs r) := hW
  have H6 : Hid (∀ c ∈ cs, c.2.length ≤ 6) := h6
  have c2 := h.c2
  obtain ⟨n, hnn⟩ : ∃ n, n = r.n := ⟨_, rfl⟩
  have HN : Hid (n = r.n) := hnn
  rw [← hnn] at hmk hn c2
  have B0 : Below w.heap.size w (w.alloc (.cells (madeCells #[.bool false] n) 4)) := (Below.refl _ _).alloc (Nat.le_refl _) _
  have TB0 := TB.new w n 4
  clear h hW h6 hnn
  go_enter Tryz.func79, Tryz.ntmps79
  go_wp2
  go_loopw [4] (fun iv wr => ∃ (i : Nat) (T : Nat → Bool), i ≤ 8 ∧ iv = .int .i64 i ∧ TB wr w.heap.size n T ∧ Hid (RI cs r T i) ∧ Below w.heap.size w wr) (fun iv _ => 8 - (intOf iv).toNat)
  case atStart => exact ⟨0, _, by omega, rfl, TB0, RI.start cs r, B0⟩
  case round =>
    clear TB0 B0
    obtain ⟨i, T, hi, rfl, tb, HR, hb⟩ := hrel
    by_cases hlt : i < 8
    · have cr : wr.cell? ⟨rb, 3 + i, none⟩ = some (.int .i64 (r.R i)) := (hb.cell (by exact hrb)).trans (HH.out.root i hlt)
      have hib : (0 : Int) ≤ (i : Int) ∧ (i : Int) < 8 := by omega
      have hrb1 : rb < wr.heap.size := Nat.lt_of_lt_of_le hrb hb.size
      by_cases h0 : r.R i = 0
      · rw [h0] at cr
        have HR2 : Hid (RI cs r T (i + 1)) := HR.out.skip h0
        clear h0
        go_wp2
        go_roundw
        case rel => exact ⟨i + 1, T, by omega, by go_num, tb, HR2, hb⟩
        case measure => simp [intOf]; omega
      · have hle := HW.out.root i hlt
        rw [← HN.out] at hle
        obtain ⟨y, hy⟩ : ∃ y, r.R i = y + 1 := ⟨r.R i - 1, by omega⟩
        have HR2 : Hid (RI cs r (set1 T y true) (i + 1)) := by
          show RI cs r (set1 T y true) (i + 1)
          have := HR.out.mark hlt h0
          rw [hy, Nat.add_sub_cancel] at this
          exact this
        rw [hy] at cr hle
        have cr' : wr.cell? ⟨rb, 3 + i, none⟩ = some (.int .i64 ((y : Int) + 1)) := by rw [cr]; simp
        have hyb : (0 : Int) ≤ (y : Int) ∧ (y : Int) < (n : Int) := by omega
        have hpos : (0 : Int) < (y : Int) + 1 := by omega
        have ty := tb.c y (by omega)
        have tf := tb.f y
        have tl := tb.lt
        have tb2 := tb.set y
        clear h0 hy cr
        go_wp2
        go_roundw
        case rel => exact ⟨i + 1, _, by omega, by go_num, tb2, HR2, hb.setCell (Nat.le_refl _) _⟩
        case measure => simp [intOf]; omega
    · have HO : Hid (OI cs r T 0) := by
        show OI cs r T 0
        have e8 : i = 8 := by omega
        have := HR.out
        rw [e8] at this
        exact this.oi
      have hge8 : 8 ≤ i := by omega
      clear HR hlt
      go_wp2
      go_loopw [5] (fun iv wr => ∃ (m : Nat) (T : Nat → Bool), m ≤ n ∧ iv = .int .i64 m ∧ TB wr w.heap.size n T ∧ Hid (OI cs r T m) ∧ Below w.heap.size w wr) (fun iv _ => n - (intOf iv).toNat)
      case atStart => exact ⟨0, T, by omega, rfl, tb, HO, hb⟩
      case round =>
        clear tb HO hb T
        obtain ⟨m, T0, hm, rfl, tb, HO, hb⟩ := hrel
        by_cases hlt : m < n
        · have HO0 : Hid (OI cs r T0 m) := HO
          have HT : Hid (TI cs r T0 T0 0 0) := HO.out.ti
          go_wp2
          go_loopw [6] (fun iv wr => ∃ (o : Nat) (T : Nat → Bool), o ≤ n ∧ iv = .int .i64 o ∧ TB wr w.heap.size n T ∧ Hid (TI cs r T0 T o 0) ∧ Below w.heap.size w wr) (fun iv _ => n - (intOf iv).toNat)
          case atStart => exact ⟨0, T0, by omega, rfl, tb, HT, hb⟩
          case round =>
            clear tb HO hb HT
            obtain ⟨o, T, ho, rfl, tb, HT, hb⟩ := hrel
            by_cases hol : o < n
            · have ho' : o < r.n := by rw [← HN.out]; exact hol
              have HP := HH.out.below hb
              have HKC : Hid (KC wr x.kx cs) := HP.kc
              obtain ⟨g, hga, hg, hrow⟩ := HP.row (by omega)
              have HGA : Hid (x.ov.a = some ⟨g, 0, none⟩) := hga
              obtain ⟨o0, o1⟩ := hrow o ho'
              have d0 := HP.c0
              have d2 := HP.c2
              rw [hga, ← HN.out] at d2
              have hrb1 := HP.lt
              have hob : (0 : Int) ≤ (o : Int) ∧ (o : Int) < (n : Int) := by omega
              have FK : ∀ W : World, KC W x.kx cs → Calls Tryz.prog 72 #[.slice (some ⟨x.kx.g, 0, none⟩) cs.length x.kx.cap, .int .u8 (r.K (o + 1))] W fun e w' => e = .returned (.tuple #[.slice (knA x.kx cs (r.K (o + 1))) (fof cs (r.K (o + 1))).length (knC x.kx cs (r.K (o + 1))), .bool (cs.any fun y => y.1 == r.K (o + 1))]) ∧ w' = W :=
                fun W hW => known_any x.kx cs (r.K (o + 1)) W hW hcs
              have KF0 := (HH.out.kc.kf (r.K (o + 1))).1
              have hob2 := HP.ob o ho'
              have hf6 := fof_le H6.out (r.K (o + 1))
              have HWR : Hid (∀ j f, (fof cs (r.K (o + 1)))[j]? = some f → f.2 = 114 → 0 ≤ r.C (o + 1) j ∧ r.C (o + 1) j ≤ r.n) := HW.out.ref (o + 1) (by omega) (by omega)
              obtain ⟨fs, hfs⟩ : ∃ fs, fs = fof cs (r.K (o + 1)) := ⟨_, rfl⟩
              have HFS : Hid (fs = fof cs (r.K (o + 1))) := hfs
              have hcl := hob2.cell
              rw [← hfs] at KF0 hf6 FK o1 hcl
              obtain ⟨fl, hfl⟩ : ∃ fl, fl = fs.length := ⟨_, rfl⟩
              have HFL : Hid (fl = fs.length) := hfl
              rw [← hfl] at hf6 FK o1 hcl
              have HCL : Hid (∀ k, k < fl → wr.cell? ⟨x.G o, k, none⟩ = some (.int .i64 (r.C (o + 1) k))) := hcl
              have hGl := hob2.lt
              generalize knA x.kx cs (r.K (o + 1)) = fa at FK KF0
              generalize knC x.kx cs (r.K (o + 1)) = fcap at FK
              generalize x.kx.FG (kidx cs (r.K (o + 1))) = fg at KF0
              have HKF : Hid (KF w fa fg fs) := KF0
              have HW0 : Hid (Below w.heap.size w wr) := hb
              clear HP hrow hob2 hcl hfs hfl KF0 hga
              rename World => wo
              go_wp2
              go_quiet ((go_at_call 72; exact Calls.quiet_of_same (FK _ (HKC.out.drewN _))))
              clear FK HKC
              go_wp2
              go_loopw [9] (fun kv wr => ∃ (k : Nat) (T : Nat → Bool), k ≤ fl ∧ kv = .int .i64 k ∧ TB wr w.heap.size n T ∧ Hid (TI cs r T0 T o k) ∧ Below w.heap.size w wr) (fun kv _ => fl - (intOf kv).toNat)
              case atStart => exact ⟨0, T, by omega, rfl, tb.drewN nq, HT, hb.trans ((gb_bdN wo nq).mono hb.size)⟩
              case round =>
                clear tb HT hb T d0 d2 o0 o1 hg hrb1 hGl HCL HW0
                rename World => w9
                obtain ⟨k, T, hk, rfl, tb, HT, hb⟩ := hrel
                have cin := tb.c o hol
                have tl := tb.lt
                by_cases hkl : k < fl
                · cases hto : T o with
                  | true =>
                    rw [hto] at cin
                    have HP := HH.out.below hb
                    obtain ⟨g', hga', hg, hrow⟩ := HP.row (by omega)
                    have eg : g' = g := by rw [HGA.out] at hga'; injection hga' with e; injection e with e; exact e.symm
                    rw [eg] at hg hrow
                    clear eg hga'
                    obtain ⟨o0, o1⟩ := hrow o ho'
                    rw [← HFS.out, ← HFL.out] at o1
                    have d2 := HP.c2
                    rw [HGA.out, ← HN.out] at d2
                    have hrb1 := HP.lt
                    have hob2 := HP.ob o ho'
                    have hkf : k < fs.length := by rw [← HFL.out]; exact hkl
                    have ck := hob2.cell k (by rw [← HFS.out]; exact hkf)
                    have hGl := hob2.lt
                    have KF1 := HKF.out.below (w' := w9) (by exact hb)
                    obtain ⟨ea, hfg⟩ := KF1.a (by omega)
                    have k1 := (KF1.row k hkf).c1
                    rw [ea]
                    have HTO : Hid (T o = true) := hto
                    obtain ⟨kd, hkd⟩ : ∃ kd, kd = (fs[k]?.getD (0, 0)).2 := ⟨_, rfl⟩
                    have HKD : Hid (fs[k]? = some (fs[k]?.getD (0, 0)) ∧ (fs[k]?.getD (0, 0)).2 = kd) := ⟨by rw [List.getElem?_eq_getElem hkf]; rfl, hkd.symm⟩
                    rw [← hkd] at k1
                    obtain ⟨c, hc⟩ : ∃ c, c = r.C (o + 1) k := ⟨_, rfl⟩
                    have HC : Hid (c = r.C (o + 1) k) := hc
                    rw [← hc] at ck
                    have hkb : (0 : Int) ≤ (k : Int) ∧ (k : Int) < (fl : Int) := by omega
                    clear HP hrow hob2 KF1 hto hkd hc ea
                    by_cases h114 : kd = 114
                    · have hr := HWR.out k _ (by rw [← HFS.out]; exact HKD.out.1) (by rw [HKD.out.2]; exact h114)
                      rw [← HC.out, ← HN.out] at hr
                      subst h114
                      by_cases h0 : c = 0
                      · have HT2 : Hid (TI cs r T0 T o (k + 1)) := HT.out.skip (fun f hf hk2 y hy hy0 => by rw [← HC.out, h0] at hy; omega)
                        subst h0
                        go_wp2
                        go_roundw
                        case rel => exact ⟨k + 1, T, by omega, by go_num, tb, HT2, hb⟩
                        case measure => simp [intOf]; omega
                      · obtain ⟨y, hy⟩ : ∃ y : Nat, c = (y : Int) + 1 := ⟨(c - 1).toNat, by omega⟩
                        have HT2 : Hid (TI cs r T0 (set1 T y true) o (k + 1)) := by
                          show TI cs r T0 (set1 T y true) o (k + 1)
                          have := HT.out.mark ho' HTO.out _ (by rw [← HFS.out]; exact HKD.out.1) HKD.out.2 (y + 1) (by rw [← HC.out, hy]; simp) (by omega) (by rw [← HN.out]; omega)
                          rw [Nat.add_sub_cancel] at this
                          exact this
                        have hyb : (0 : Int) ≤ (y : Int) ∧ (y : Int) < (n : Int) := by omega
                        have hpos : (0 : Int) < (y : Int) + 1 := by omega
                        have ty := tb.c y (by omega)
                        have tf := tb.f y
                        have tb2 := tb.set y
                        rw [hy] at ck
                        clear h0 hr
                        go_wp2
                        go_roundw
                        case rel => exact ⟨k + 1, _, by omega, by go_num, tb2, HT2, hb.setCell (Nat.le_refl _) _⟩
                        case measure => simp [intOf]; omega
                    · have HT2 : Hid (TI cs r T0 T o (k + 1)) := HT.out.skip (fun f hf hk2 y hy hy0 => by
                        rw [← HFS.out, HKD.out.1] at hf
                        have := Option.some.inj hf
                        rw [← this, HKD.out.2] at hk2
                        exact absurd hk2 h114)
                      have h114' : (kd == 114) = false := by simpa using h114
                      go_wp2
                      go_roundw
                      case rel => exact ⟨k + 1, T, by omega, by go_num, tb, HT2, hb⟩
                      case measure => simp [intOf]; omega
                  | false =>
                    rw [hto] at cin
                    have HT2 : Hid (TI cs r T0 T (o + 1) 0) := HT.out.next (fun h => by rw [hto] at h; cases h)
                    clear hto
                    go_wp2
                    go_roundw
                    case rel => exact ⟨o + 1, T, by omega, by go_num, tb, HT2, hb⟩
                    case measure => simp [intOf]; omega
                · have HT2 : Hid (TI cs r T0 T (o + 1) 0) := HT.out.next (fun _ => by rw [← HFS.out, ← HFL.out]; omega)
                  have hge : fl ≤ k := by omega
                  clear hkl
                  go_wp2
                  go_roundw
                  case rel => exact ⟨o + 1, T, by omega, by go_num, tb, HT2, hb⟩
                  case measure => simp [intOf]; omega
            · have eo : o = n := by omega
              have HO2 : Hid (OI cs r T (m + 1)) := by
                show OI cs r T (m + 1)
                have := HT.out
                rw [eo, HN.out] at this
                exact this.done HO0.out
              have hge : n ≤ o := by omega
              clear hol eo
              go_wp2
              go_roundw
              case rel => exact ⟨m + 1, T, by omega, by go_num, tb, HO2, hb⟩
              case measure => simp [intOf]; omega
        · have em : m = n := by omega
          subst em
          have HF : Hid (∀ o, o < r.n → (T0 o = true ↔ r.in cs (o + 1))) := by
            show ∀ o, o < r.n → (T0 o = true ↔ r.in cs (o + 1))
            have := HO.out
            rw [HN.out] at this
            exact this.fin HW.out
          clear hlt
          go_wp2
          go_ret
          refine ⟨T0, ?_, ?_, HF.out, hb⟩
          · rw [HN.out]; rfl
          · rw [← HN.out]; exact tb
end Go.Proofs.YtbgilndohccicaaGreatDoor
