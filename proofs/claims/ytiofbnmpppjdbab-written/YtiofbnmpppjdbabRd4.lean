import Derived.Test.YtiofbnmpppjdbabRd3
import Derived.Deep.LoopGhost
namespace Go.Proofs.Ytiofbnmpppjdbab
open Go.RowKit

theorem Try.infoField : (Try.prog.info? 68).map (fun i => (i.zero, i.size, i.bytes)) = some (some (.agg #[.int .u8 0, .int .u8 0]), 2, 2) := by kernel_rfl

structure RFS where
  ok : Bool
  at_ : Nat
  tw : Int
  fs : List (Int × Int)

/-- The loop of readFields, n rounds at most. -/
def rdLoop (s : ByteArray) : Nat → List (Int × Int) → Nat → Int → RFS
  | 0, _, k, tw => ⟨false, k, tw, []⟩
  | n + 1, fs, k, tw =>
    if (rdField s fs k tw).ok = false then ⟨false, (rdField s fs k tw).at_, (rdField s fs k tw).tw, []⟩
    else if nextB s (rdField s fs k tw).at_ = 125 then ⟨true, (rdField s fs k tw).at_ + 1, (rdField s fs k tw).tw, fs ++ [((rdField s fs k tw).l, (rdField s fs k tw).kd)]⟩
    else if fs.length = 5 ∨ nextB s (rdField s fs k tw).at_ ≠ 44 then ⟨false, (rdField s fs k tw).at_, (rdField s fs k tw).tw, []⟩
    else rdLoop s n (fs ++ [((rdField s fs k tw).l, (rdField s fs k tw).kd)]) ((rdField s fs k tw).at_ + 1) (rdField s fs k tw).tw

def rdFields (s : ByteArray) (k : Nat) (tw : Int) : RFS := if nextB s k = 125 then ⟨true, k + 1, tw, []⟩ else rdLoop s 6 [] k tw

/-- As FV, of a slice that the call itself has made. -/
def FVb (w : World) (base : Nat) (v : Value) (fs : List (Int × Int)) : Prop := w.ownsRow base 68 2 v fs.length (flatF fs)
theorem FVb.fv {w : World} {base : Nat} {v : Value} {fs : List (Int × Int)} (h : FVb w base v fs) : FV w v fs := by
  obtain ⟨h1, h2⟩ := h
  refine ⟨h1, h2.imp id ?_⟩
  rintro ⟨g, cap, cur, e, _, r⟩
  exact ⟨g, cap, cur, e, Nat.zero_le _, r⟩
theorem FVb.mono {w : World} {base base' : Nat} {v : Value} {fs : List (Int × Int)} (h : FVb w base v fs) (hb : base' ≤ base) : FVb w base' v fs := by
  obtain ⟨h1, h2⟩ := h
  refine ⟨h1, h2.imp id ?_⟩
  rintro ⟨g, cap, cur, e, h0, r⟩
  exact ⟨g, cap, cur, e, Nat.le_trans hb h0, r⟩
theorem FVb.kept {w w' : World} {base b : Nat} {v : Value} {fs : List (Int × Int)} (h : FVb w base v fs) (g : w.grownBy w' (some b)) (hb : b < base) : FVb w' base v fs := by
  refine World.ownsRow.kept h g ?_
  cases hv : v.ownBlock with
  | none => exact .inl rfl
  | some x => right; have := (World.ownsRow.lt h x hv).1; simp; omega
theorem FVb.shape {w : World} {base : Nat} {v : Value} {fs : List (Int × Int)} (h : FVb w base v fs) : ∃ a c, v = .slice a fs.length c := by
  rcases h.2 with ⟨rfl, hn⟩ | ⟨g, cap, cur, rfl, _⟩
  · exact ⟨none, 0, by rw [hn]⟩
  · exact ⟨_, _, rfl⟩
theorem FVb.alloc {w : World} {base : Nat} {v : Value} {fs : List (Int × Int)} (h : FVb w base v fs) (o : Obj) : FVb (w.alloc o) base v fs := World.ownsRow.alloc h o

theorem app_step {w w1 w2 : World} {b a : Nat} {s : ByteArray} {t : Int} {v v' : Value} {fs : List (Int × Int)} {l kd : Int} {o1 o2 : Obj} (hb : b < w.heap.size) (hs : w.heap.size < w1.heap.size) (R1 : RS w1 b s a t)
    (V1 : FVb w1 (w.heap.size + 1) v fs) (G1 : w.grownBy w1 (some b)) (hown : w2.ownsRow (w.heap.size + 1) 68 2 v' (fs.length + 1) (flatF fs ++ [.int .u8 l, .int .u8 kd])) (hg : ((w1.alloc o1).alloc o2).grownBy w2 v.ownBlock) :
    FVb w2 (w.heap.size + 1) v' (fs ++ [(l, kd)]) ∧ RS w2 b s a t ∧ Loc w1 w2 w.heap.size ∧ w.grownBy w2 (some b) ∧ ∃ a c, v' = .slice a (fs.length + 1) c := by
  have hr : ∀ x, v.ownBlock = some x → w.heap.size + 1 ≤ x := fun x hx => (World.ownsRow.lt V1 x hx).1
  have hg1 : w1.grownBy w2 v.ownBlock := gb_trans (gb_trans (World.grownBy_alloc w1 o1 _) (World.grownBy_alloc _ o2 _)) hg
  have V2 : FVb w2 (w.heap.size + 1) v' (fs ++ [(l, kd)]) := by simpa [FVb, flatF_app, flatF] using hown
  have hne : ∀ k, k ≤ w.heap.size → some k ≠ v.ownBlock := fun k hk e => by have := hr k e.symm; omega
  refine ⟨V2, R1.kept hg1 (hne b (by omega)), ?_, ?_, ?_⟩
  · have e := hg1.block w.heap.size hs (hne _ (Nat.le_refl _))
    exact ⟨fun o => World.cell?_of_block (a := ⟨_, o, none⟩) e, fun o => World.frozen?_of_block (a := ⟨_, o, none⟩) e, Nat.lt_of_lt_of_le hs hg1.size⟩
  · exact ⟨hg1.os.trans G1.os, hg1.tape.trans G1.tape, hg1.output.trans G1.output, Nat.le_trans G1.size hg1.size, fun k hk hn => (hg1.block k (Nat.lt_of_lt_of_le hk G1.size) (hne k (by omega))).trans (G1.block k hk hn)⟩
  · simpa using V2.shape
theorem FVb.set0 {w : World} {base p o : Nat} {v u : Value} {fs : List (Int × Int)} (h : FVb w base v fs) (hp : p < base) : FVb (w.setCell ⟨p, o, none⟩ u) base v fs := h.kept (gb_set w p o u) hp
theorem cell_pair (w1 : World) (o : Obj) (x y : Value) (T : TypeId) : ∀ (j : Nat) (u : Value), [x, y][j]? = some u → ((w1.alloc o).alloc (.cells #[x, y] T)).cell? ((⟨w1.heap.size + 1, 0, none⟩ : Addr).add j) = some u := by
  intro j u hj
  match j, hj with
  | 0, hj => simp at hj; subst hj; simp [Addr.add]
  | 1, hj => simp at hj; subst hj; simp [Addr.add]

set_option maxHeartbeats 600000 in
theorem fields_any (s : ByteArray) (b k : Nat) (tw : Int) (w : World) (h : RS w b s k tw) :
    Calls Try.prog 17 #[.pointer (some ⟨b, 0, none⟩)] w fun e w' => ∃ v,
      e = .returned (.tuple #[v, .bool (rdFields s k tw).ok]) ∧ FVb w' w.heap.size v (rdFields s k tw).fs ∧
        RS w' b s (rdFields s k tw).at_ (rdFields s k tw).tw ∧ w.grownBy w' (some b) := by
  obtain ⟨i0, hi, hz0, hz1, hz2⟩ := info_parts Try.infoField
  have hb := h.blt
  have R0 : RS (w.alloc (.cells #[.int .u8 0, .slice none 0 0] 59)) b s k tw := h.alloc _
  clear h
  by_cases h0 : nextB s k = 125
  · have e : rdFields s k tw = ⟨true, k + 1, tw, []⟩ := by simp only [rdFields]; rw [if_pos h0]
    rw [e]; clear e
    have hb1 : (nextB s k == 125) = true := by simpa using h0
    go_enter Try.func17, Try.ntmps17
    go_wp2_with (go_at_call 16; refine (take_rs R0 (by omega) true hb1).mono ?_; rintro e w1 ⟨rfl, R1, hg1⟩)
    go_ret2
    exact ⟨_, rfl, World.ownsRow_nil _ _ _ _, R1, gb_trans (World.grownBy_alloc _ _ _) hg1⟩
  · have e : rdFields s k tw = rdLoop s 6 [] k tw := by simp only [rdFields]; rw [if_neg h0]
    rw [e]; clear e
    have hb1 : (nextB s k == 125) = false := by simpa using h0
    obtain ⟨R, hR⟩ : ∃ R, R = rdLoop s 6 [] k tw := ⟨_, rfl⟩
    rw [← hR]
    have HR : Hid (R = rdLoop s 6 [] k tw) := hR
    clear hR h0
    go_enter Try.func17, Try.ntmps17
    go_wp2_with (go_at_call 16; refine (take_rs R0 (by omega) false hb1).mono ?_; rintro e w1 ⟨rfl, R1', hg1⟩; have R1 : RS w1 b s k tw := R1'; clear R1'; obtain ⟨lc1, lf1, ls1⟩ := Loc.of hg1 (r := w.heap.size) (by simp) (by omega); have G1 := gb_trans (World.grownBy_alloc w (.cells #[.int .u8 0, .slice none 0 0] 59) (some b)) hg1; clear hg1)
    go_loopg [7] 6 (fun gk _ wr => ∃ fs k tw v, gk = 6 - fs.length ∧ fs.length < 6 ∧ R = rdLoop s gk fs k tw ∧ RS wr b s k tw ∧ FVb wr (w.heap.size + 1) v fs ∧
      wr.cell? ⟨w.heap.size, 0, none⟩ = some (.int .u8 0) ∧ wr.cell? ⟨w.heap.size, 1, none⟩ = some v ∧ wr.frozen? ⟨w.heap.size, 1, none⟩ = false ∧ w.heap.size < wr.heap.size ∧ w.grownBy wr (some b))
    case atStart => exact ⟨[], k, tw, .slice none 0 0, rfl, by decide, HR.out, R1, World.ownsRow_nil _ _ _ _, by rw [lc1]; go_simp, by rw [lc1]; go_simp, by rw [lf1]; go_simp, ls1, G1⟩
    case round =>
      obtain ⟨fs, k, tw, v, hgk, hlen, hR', R0, V0, c0, c1, f1, hs, G0⟩ := hrel
      have Fc := field_any s b k tw 0 v fs wr R0 V0.fv
      obtain ⟨ok, a, t, l, kd, hr⟩ : ∃ ok a t l kd, rdField s fs k tw = ⟨ok, a, t, l, kd⟩ := ⟨_, _, _, _, _, rfl⟩
      obtain ⟨n', rfl⟩ : ∃ n', gk = n' + 1 := ⟨gk - 1, by omega⟩
      rw [rdLoop, hr] at hR'
      rw [hr] at Fc
      simp only [] at hR' Fc
      obtain ⟨ad, cp, rfl⟩ := V0.shape
      clear hr
      have HK : Hid (n' + 1 = 6 - fs.length) := hgk
      clear hgk lc1 lf1 ls1 G1 R1 hb1 HR
      cases ok with
      | false =>
        rw [if_pos rfl] at hR'
        subst hR'
        go_wp2_with (go_at_call 18; refine Fc.mono ?_; rintro e w1 ⟨rfl, R1, hg1⟩; have V1 := V0.kept hg1 (by omega); obtain ⟨lc1, lf1, ls1⟩ := Loc.of hg1 (r := w.heap.size) hs (by omega); have G1 := gb_trans G0 hg1; clear hg1 Fc V0)
        go_ret2
        exact ⟨_, rfl, World.ownsRow_nil _ _ _ _, R1.alloc _, gb_alloc G1 _⟩
      | true =>
        rw [if_neg (by decide)] at hR'
        have HR : Hid (R = _) := hR'
        clear hR'
        go_wp2_with (first | (go_at_call 18; refine Fc.mono ?_; rintro e w1 ⟨rfl, R1, hg1⟩; have V1 := V0.kept hg1 (by omega); obtain ⟨lc1, lf1, ls1⟩ := Loc.of hg1 (r := w.heap.size) hs (by omega); have G1 := gb_trans G0 hg1; clear hg1 Fc V0) | (at_builtin; refine wpList_append_own _ rfl _ _ 57 rfl (w.heap.size + 1) 68 i0 (.agg #[.int .u8 0, .int .u8 0]) 2 2 Try.underlying57 hi hz0 hz1 hz2 rfl (by decide) _ _ _ rfl ((V1.alloc _).alloc _) ⟨w1.heap.size + 1, 0, none⟩ 1 1 [.int .u8 l, .int .u8 kd] rfl rfl ?c1 ?c2 ?c3 ?c4 ?c5 ?_))
        case c1 => exact cell_pair _ _ _ _ _
        case c2 => intro u hu; simp at hu; rcases hu with rfl | rfl <;> rfl
        case c3 => unfold maxLen; omega
        case c4 => omega
        case c5 => simp; omega
        intro v' w2 hown hgr _
        obtain ⟨V2', R2', ⟨lc2, lf2, ls2⟩, G2', ad', cp', hv'⟩ := app_step hb ls1 R1 V1 G1 hown hgr
        clear hown hgr V1 R1
        subst hv'
        have V2 := V2'.set0 (u := .slice ad' (fs.length + 1) cp') (o := 1) (Nat.lt_succ_self _)
        have R2 := R2'.setOther (r := w.heap.size) (o := 1) (by omega) (.slice ad' (fs.length + 1) cp')
        have G2 := gb_setNew G2' (p := w.heap.size) (o := 1) (Nat.le_refl _) (.slice ad' (fs.length + 1) cp')
        clear V2' R2' G2'
        by_cases h125 : nextB s a = 125
        · have HR2 := HR.out
          rw [if_pos h125] at HR2
          subst HR2
          have hb1 : (nextB s a == 125) = true := by simpa using h125
          go_wp2_with (go_at_call 16; refine (take_rs R2 (by omega) true hb1).mono ?_; rintro e w3 ⟨rfl, R3', hg3⟩; have R3 : RS w3 b s (a + 1) t := R3'; clear R3'; obtain ⟨p0, p1, p2, q1, q2, _, _⟩ := id R3; obtain ⟨lc3, lf3, ls3⟩ := Loc.of hg3 (r := w.heap.size) (by simpa using ls2) (by omega); have V3 := V2.kept hg3 (by omega); have G3 := gb_trans G2 hg3; clear hg3)
          go_ret2
          exact ⟨_, rfl, V3.mono (by omega), R3, G3⟩
        have hb1 : (nextB s a == 125) = false := by simpa using h125
        have HR2 := HR.out
        rw [if_neg h125] at HR2
        clear h125 HR
        by_cases h5 : fs.length = 5
        · rw [if_pos (.inl h5)] at HR2
          subst HR2
          have h5' : 5 ≤ fs.length := by omega
          clear h5
          go_wp2_with (go_at_call 16; refine (take_rs R2 (by omega) false hb1).mono ?_; rintro e w3 ⟨rfl, R3', hg3⟩; have R3 : RS w3 b s (a) t := R3'; clear R3'; obtain ⟨p0, p1, p2, q1, q2, _, _⟩ := id R3; obtain ⟨lc3, lf3, ls3⟩ := Loc.of hg3 (r := w.heap.size) (by simpa using ls2) (by omega); have V3 := V2.kept hg3 (by omega); have G3 := gb_trans G2 hg3; clear hg3)
          go_ret2
          exact ⟨_, rfl, World.ownsRow_nil _ _ _ _, R3, G3⟩
        have h6 : fs.length < 5 := by omega
        by_cases h44 : nextB s a = 44
        · rw [if_neg (by simp [h5, h44])] at HR2
          have hlt : a < s.size := nextB_pos (by omega)
          have HR : Hid (R = _) := HR2
          clear HR2
          go_wp2_with (first | (go_at_call 16; refine (take_rs R2 (by omega) false hb1).mono ?_; rintro e w3 ⟨rfl, R3', hg3⟩; have R3 : RS w3 b s (a) t := R3'; clear R3'; obtain ⟨p0, p1, p2, q1, q2, _, _⟩ := id R3; obtain ⟨lc3, lf3, ls3⟩ := Loc.of hg3 (r := w.heap.size) (by simpa using ls2) (by omega); have V3 := V2.kept hg3 (by omega); have G3 := gb_trans G2 hg3; clear hg3) | (go_at_call 13; refine (next_rs R3).mono ?_; rintro e w' ⟨rfl, n2, rfl⟩))
          go_roundg n'
          case measure => omega
          case rel =>
            have hk := HK.out
            refine ⟨fs ++ [(l, kd)], a + 1, t, .slice ad' (fs.length + 1) cp', by simp; omega, by simp; omega, HR.out, (R3.drewN n2).inc hlt, FVb.set0 (w := w3.drewN n2) V3 (by omega), ?_, ?_, ?_, by simpa using ls3, gb_setB (gb_drew G3 n2) 1 _⟩
            · have : w3.cell? ⟨w.heap.size, 0, none⟩ = some (.int .u8 0) := by rw [lc3]; go_simp
              go_simp
            · have : w3.cell? ⟨w.heap.size, 1, none⟩ = some (.slice ad' (fs.length + 1) cp') := by rw [lc3]; go_simp
              go_simp
            · have : w3.frozen? ⟨w.heap.size, 1, none⟩ = false := by rw [lf3]; go_simp
              go_simp
        · rw [if_pos (.inr h44)] at HR2
          subst HR2
          have h44' : (nextB s a == 44) = false := by simpa using h44
          have h44'' : (nextB s a != 44) = true := by simpa using h44
          go_wp2_with (first | (go_at_call 16; refine (take_rs R2 (by omega) false hb1).mono ?_; rintro e w3 ⟨rfl, R3', hg3⟩; have R3 : RS w3 b s (a) t := R3'; clear R3'; obtain ⟨p0, p1, p2, q1, q2, _, _⟩ := id R3; obtain ⟨lc3, lf3, ls3⟩ := Loc.of hg3 (r := w.heap.size) (by simpa using ls2) (by omega); have V3 := V2.kept hg3 (by omega); have G3 := gb_trans G2 hg3; clear hg3) | (go_at_call 13; refine (next_rs R3).mono ?_; rintro e w' ⟨rfl, n2, rfl⟩))
          go_ret2
          exact ⟨_, rfl, World.ownsRow_nil _ _ _ _, R3.drewN n2, gb_drew G3 n2⟩
end Go.Proofs.Ytiofbnmpppjdbab
