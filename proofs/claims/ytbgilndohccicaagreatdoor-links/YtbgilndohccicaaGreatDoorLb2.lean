import Derived.Test.YtbgilndohccicaaGreatDoorLb1
namespace Go.Proofs.YtbgilndohccicaaGreatDoor
open Go.RowKit

/-- The first heap's schema. -/
def firstS : ByteArray := ⟨#[80, 123, 120, 58, 119, 44, 110, 58, 114, 125, 81, 123, 98, 58, 98, 44, 104, 58, 104, 44, 108, 58, 108, 125]⟩
set_option maxRecDepth 100000 in
theorem first_ok : newE firstS 20 = 0 := by kernel_rfl
/-- The script's cells. -/
structure Sc (w : World) (a : Option Addr) (len : Nat) (O : Nat → OpV) : Prop where
  row : 0 < len → ∃ g o, a = some ⟨g, o, none⟩ ∧ g < w.heap.size ∧ ∀ i, i < len →
    w.cell? ⟨g, o + i * 8, none⟩ = some (.int .i64 (O i).k) ∧ w.cell? ⟨g, o + i * 8 + 1, none⟩ = some (.int .i64 (O i).m) ∧ w.cell? ⟨g, o + i * 8 + 2, none⟩ = some (.int .i64 (O i).a) ∧ w.cell? ⟨g, o + i * 8 + 3, none⟩ = some (.int .i64 (O i).b) ∧
    w.cell? ⟨g, o + i * 8 + 4, none⟩ = some (.int .u8 (O i).c) ∧ w.cell? ⟨g, o + i * 8 + 5, none⟩ = some (.int .i64 (O i).v) ∧ w.cell? ⟨g, o + i * 8 + 6, none⟩ = some (.string (O i).s) ∧ w.cell? ⟨g, o + i * 8 + 7, none⟩ = some (.string (O i).t)
  ok : ∀ i, i < len → (O i).ok
set_option maxRecDepth 20000 in
set_option maxHeartbeats 2000000 in
theorem plays_any (a : Option Addr) (len cap : Nat) (O : Nat → OpV) (lo hi most : Int) (w : World) (hS : Sc w a len O) (hlen : len ≤ 1759218604441) (hE : Ends w) (hmo : most ≤ 11) :
    Calls Tryz.prog 7 #[.slice a len cap, .int .i64 lo, .int .i64 hi, .int .i64 most] w fun e w' => e = .returned (.bool true) ∧ Below w.heap.size w w' := by
  have HS : Hid (Sc w a len O) := hS
  have HE : Hid (Ends w) := hE
  have BA : Below w.heap.size w (w.alloc (.cells #[.slice none 0 0] 28)) := (Below.refl _ _).alloc (Nat.le_refl _) _
  have hW : WS w.heap.size (w.alloc (.cells #[.slice none 0 0] 28)) w.heap.size (.slice none 0 0) [] 0 :=
    ⟨by go_simp, by go_simp, World.ownsRow_nil _ _ _ _, fun i q h => by simp at h, fun i q h => by simp at h, fun i j q q' _ h => by simp at h, Nat.le_refl _, by simp [Value.ownBlock]⟩
  have C := begin_any w.heap.size w.heap.size _ [] 0 firstS 20 _ hW (by show 24 ≤ _; omega) (hE.below BA) hE.1 (by simp)
  have HBA : Hid (Below w.heap.size w (w.alloc (.cells #[.slice none 0 0] 28))) := BA
  clear hS hE hW BA
  go_enter Tryz.func7, Tryz.ntmps7
  go_wp2_with fail
  refine C.mono ?_
  rintro e w1 ⟨rfl, B1, v, ps, W1, _, _, hl1⟩
  have hps : ps.length = 1 := hl1 first_ok
  have HW1 : Hid (WS w.heap.size w1 w.heap.size v ps 0) := W1
  have HB1 : Hid (Below w.heap.size w w1) := HBA.out.trans B1.1
  have cw := W1.c
  obtain ⟨va, vc, hv⟩ : ∃ a c, v = .slice a ps.length c := by
    rcases W1.own.2 with ⟨e, hn⟩ | ⟨g, cap, cur, e, _⟩
    · omega
    · exact ⟨_, _, e⟩
  rw [hv, hps] at cw
  have hwl := W1.lt
  clear C B1 W1 hl1
  go_wp2
  go_loopw [11] (fun iv wr => ∃ (i : Nat) (v : Value) (ps : List PQ), i ≤ len ∧ iv = .int .i64 i ∧ Hid (WS w.heap.size wr w.heap.size v ps i ∧ 0 < ps.length ∧ ps.length ≤ i + 1) ∧ Below w.heap.size w wr) (fun iv _ => len - (intOf iv).toNat)
  case atStart => exact ⟨0, v, ps, by omega, rfl, ⟨HW1.out, by omega, by omega⟩, HB1.out⟩
  case round =>
    clear HW1 HB1 hv hps cw
    obtain ⟨i, v, ps, hi, rfl, HW, hb⟩ := hrel
    by_cases hlt : i < len
    · obtain ⟨g, so, ea, hg, hcell⟩ := HS.out.row (by omega)
      obtain ⟨q0, q1, q2, q3, q4, q5, q6, q7⟩ := hcell i hlt
      have ok := HS.out.ok i hlt
      obtain ⟨o, ho⟩ : ∃ o, o = O i := ⟨_, rfl⟩
      rw [← ho] at q0 q1 q2 q3 q4 q5 q6 q7 ok
      have HOK : Hid (o.ok) := ok
      have z0 := (hb.cell (p := ⟨g, so + i * 8, none⟩) (by exact hg)).trans q0
      have z1 := (hb.cell (p := ⟨g, so + i * 8 + 1, none⟩) (by exact hg)).trans q1
      have z2 := (hb.cell (p := ⟨g, so + i * 8 + 2, none⟩) (by exact hg)).trans q2
      have z3 := (hb.cell (p := ⟨g, so + i * 8 + 3, none⟩) (by exact hg)).trans q3
      have z4 := (hb.cell (p := ⟨g, so + i * 8 + 4, none⟩) (by exact hg)).trans q4
      have z5 := (hb.cell (p := ⟨g, so + i * 8 + 5, none⟩) (by exact hg)).trans q5
      have z6 := (hb.cell (p := ⟨g, so + i * 8 + 6, none⟩) (by exact hg)).trans q6
      have z7 := (hb.cell (p := ⟨g, so + i * 8 + 7, none⟩) (by exact hg)).trans q7
      have hib : (0 : Int) ≤ (i : Int) ∧ (i : Int) < (len : Int) := by omega
      have hszr := hb.size
      have HBR : Hid (Below w.heap.size w wr) := hb
      have HEA : Hid (a = some ⟨g, so, none⟩) := ea
      rw [ea]
      clear q0 q1 q2 q3 q4 q5 q6 q7 hcell ok ho ea hb
      obtain ⟨okk, om, oa, ob, oc, ov, os, ot⟩ := o
      simp only [] at z0 z1 z2 z3 z4 z5 z6 z7
      rename World => wo
      by_cases hm : most < okk
      · have HW2 : Hid (WS w.heap.size (wo.alloc (.cells #[.int .i64 okk, .int .i64 om, .int .i64 oa, .int .i64 ob, .int .u8 oc, .int .i64 ov, .string os, .string ot] 31)) w.heap.size v ps (i + 1) ∧ 0 < ps.length ∧ ps.length ≤ i + 1 + 1) := ⟨HW.out.1.below ((Below.refl _ _).alloc (Nat.le_refl _) _) (by omega), HW.out.2.1, by have := HW.out.2.2; omega⟩
        have HB2 : Hid (Below w.heap.size w (wo.alloc (.cells #[.int .i64 okk, .int .i64 om, .int .i64 oa, .int .i64 ob, .int .u8 oc, .int .i64 ov, .string os, .string ot] 31))) := HBR.out.alloc hszr _
        go_wp2
        exact ⟨⟨i + 1, v, ps, by omega, by go_num, HW2, HB2.out⟩, by simp [intOf]; omega⟩
      · have BB : Below wo.heap.size wo (wo.alloc (.cells #[.int .i64 okk, .int .i64 om, .int .i64 oa, .int .i64 ob, .int .u8 oc, .int .i64 ov, .string os, .string ot] 31)) := (Below.refl _ _).alloc (Nat.le_refl _) _
        have hWS := HW.out.1.below BB (Nat.le_refl _)
        have SC := step_any w.heap.size w.heap.size v ps i ⟨okk, om, oa, ob, oc, ov, os, ot⟩ _ hWS HOK.out (by simp only []; omega) ((HE.out.below HBR.out).below BB) HE.out.1 (by have := HW.out.2.2; omega) (by omega) HW.out.2.1
        have hno : ¬ wsS w.heap.size v ps wo.heap.size := fun hh => by have := HW.out.1.s_lt hh; omega
        have HB3 : Hid (Below w.heap.size w (wo.alloc (.cells #[.int .i64 okk, .int .i64 om, .int .i64 oa, .int .i64 ob, .int .u8 oc, .int .i64 ov, .string os, .string ot] 31))) := HBR.out.alloc hszr _
        unfold StPost at SC
        simp only [OpV.val] at SC
        clear BB hWS
        go_wp2_with fail
        refine SC.mono ?_
        rintro e w2 ⟨rfl, ⟨B2, G2⟩, v', ps', W2, l1, l2⟩
        have eb : w2.heap[wo.heap.size]? = (wo.alloc (.cells #[.int .i64 okk, .int .i64 om, .int .i64 oa, .int .i64 ob, .int .u8 oc, .int .i64 ov, .string os, .string ot] 31)).heap[wo.heap.size]? := G2.block _ (by simp) hno
        have k0 : w2.cell? ⟨wo.heap.size, 0, none⟩ = some (.int .i64 okk) := (World.cell?_of_block (a := ⟨wo.heap.size, 0, none⟩) eb).trans (by go_simp)
        have hs2 : wo.heap.size < w2.heap.size := by have := G2.size; simp at this; omega
        have HW2 : Hid (WS w.heap.size w2 w.heap.size v' ps' (i + 1) ∧ 0 < ps'.length ∧ ps'.length ≤ i + 1 + 1) := ⟨W2, by have := HW.out.2.1; omega, by have := HW.out.2.2; omega⟩
        have HB2 : Hid (Below w.heap.size w w2) := HB3.out.trans B2
        clear SC B2 G2 W2 eb
        by_cases e1 : okk = 1
        · subst e1
          go_wp2
          exact ⟨⟨i + 1, v', ps', by omega, by go_num, HW2, HB2.out⟩, by simp [intOf]; omega⟩
        · have e1' : (okk == 1) = false := by simpa using e1
          by_cases e2 : lo ≤ okk
          · have e2' : decide (lo ≤ okk) = true := decide_eq_true e2
            go_wp2
            exact ⟨⟨i + 1, v', ps', by omega, by go_num, HW2, HB2.out⟩, by simp [intOf]; omega⟩
          · have e2' : decide (lo ≤ okk) = false := decide_eq_false e2
            go_wp2
            exact ⟨⟨i + 1, v', ps', by omega, by go_num, HW2, HB2.out⟩, by simp [intOf]; omega⟩
    · have hge : len ≤ i := by omega
      clear hlt
      go_wp2
      go_ret
      exact ⟨rfl, hb⟩
end Go.Proofs.YtbgilndohccicaaGreatDoor
