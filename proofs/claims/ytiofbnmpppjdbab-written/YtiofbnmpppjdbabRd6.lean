import Derived.Test.YtiofbnmpppjdbabRd5
namespace Go.Proofs.Ytiofbnmpppjdbab
open Go.RowKit

theorem Try.infoClass : (Try.prog.info? 59).map (fun i => (i.zero, i.size, i.bytes)) = some (some (.agg #[.int .u8 0, .slice none 0 0]), 2, 32) := by kernel_rfl

structure RCS where
  ok : Bool
  at_ : Nat
  tw : Int
  cs : List (Int × List (Int × Int))

/-- The loop of readClasses, n rounds at most. -/
def rcLoop (s : ByteArray) : Nat → List (Int × List (Int × Int)) → Nat → Int → RCS
  | 0, _, k, tw => ⟨false, k, tw, []⟩
  | n + 1, cs, k, tw =>
    if (rdClass s (cs.map (·.1)) k tw).ok = false then ⟨false, (rdClass s (cs.map (·.1)) k tw).at_, (rdClass s (cs.map (·.1)) k tw).tw, []⟩
    else if (rdClass s (cs.map (·.1)) k tw).at_ = s.size then ⟨true, (rdClass s (cs.map (·.1)) k tw).at_, (rdClass s (cs.map (·.1)) k tw).tw, cs ++ [((rdClass s (cs.map (·.1)) k tw).l, (rdClass s (cs.map (·.1)) k tw).fs)]⟩
    else rcLoop s n (cs ++ [((rdClass s (cs.map (·.1)) k tw).l, (rdClass s (cs.map (·.1)) k tw).fs)]) (rdClass s (cs.map (·.1)) k tw).at_ (rdClass s (cs.map (·.1)) k tw).tw

/-- v is a slice of classes cs that the call itself has made, blocks from base on. -/
structure Cls (w : World) (base : Nat) (v : Value) (vs : List (Int × SV)) (cs : List (Int × List (Int × Int))) : Prop where
  row : w.ownsRow base 59 2 v vs.length (flatC vs)
  ls : vs.map (·.1) = cs.map (·.1)
  fld : ∀ (i : Nat) (p : Int × SV) (c : Int × List (Int × Int)), vs[i]? = some p → cs[i]? = some c → FVb w base p.2.val c.2

theorem row_mono {w : World} {base base' : Nat} {e : TypeId} {size : Nat} {v : Value} {n : Nat} {xs : List Value} (h : w.ownsRow base e size v n xs) (hb : base' ≤ base) : w.ownsRow base' e size v n xs := by
  obtain ⟨h1, h2⟩ := h
  refine ⟨h1, h2.imp id ?_⟩
  rintro ⟨g, cap, cur, e, h0, r⟩
  exact ⟨g, cap, cur, e, Nat.le_trans hb h0, r⟩
theorem row_kept {w w' : World} {base b : Nat} {e : TypeId} {size : Nat} {v : Value} {n : Nat} {xs : List Value} (h : w.ownsRow base e size v n xs) (g : w.grownBy w' (some b)) (hb : b < base) : w'.ownsRow base e size v n xs := by
  refine World.ownsRow.kept h g ?_
  cases hv : v.ownBlock with
  | none => exact .inl rfl
  | some x => right; have := (World.ownsRow.lt h x hv).1; simp; omega
theorem row_apart {w : World} {base base' : Nat} {e e' : TypeId} {size size' : Nat} {v v' : Value} {n n' : Nat} {xs xs' : List Value} (h : w.ownsRow base e size v n xs) (h' : w.ownsRow base' e' size' v' n' xs') (hne : e ≠ e') :
    v.ownBlock = none ∨ v.ownBlock ≠ v'.ownBlock := by
  rcases h.2 with ⟨rfl, _⟩ | ⟨g, cap, cur, rfl, _, hg, _⟩
  · exact .inl rfl
  · right
    rcases h'.2 with ⟨rfl, _⟩ | ⟨g', cap', cur', rfl, _, hg', _⟩
    · simp [Value.ownBlock]
    · simp only [Value.ownBlock, ne_eq, Option.some.injEq]
      rintro rfl
      rw [hg] at hg'
      simp at hg'
      exact hne hg'.2
theorem Cls.cv {w : World} {base : Nat} {v : Value} {vs : List (Int × SV)} {cs : List (Int × List (Int × Int))} (h : Cls w base v vs cs) : CV w v vs := row_mono h.row (Nat.zero_le _)
theorem Cls.mono {w : World} {base base' : Nat} {v : Value} {vs : List (Int × SV)} {cs : List (Int × List (Int × Int))} (h : Cls w base v vs cs) (hb : base' ≤ base) : Cls w base' v vs cs := ⟨row_mono h.row hb, h.ls, fun i p c h1 h2 => (h.fld i p c h1 h2).mono hb⟩
theorem Cls.kept {w w' : World} {base b : Nat} {v : Value} {vs : List (Int × SV)} {cs : List (Int × List (Int × Int))} (h : Cls w base v vs cs) (g : w.grownBy w' (some b)) (hb : b < base) : Cls w' base v vs cs :=
  ⟨row_kept h.row g hb, h.ls, fun i p c h1 h2 => (h.fld i p c h1 h2).kept g hb⟩
theorem Cls.drewN {w : World} {base : Nat} {v : Value} {vs : List (Int × SV)} {cs : List (Int × List (Int × Int))} (h : Cls w base v vs cs) (n : Nat) : Cls (w.drewN n) base v vs cs := ⟨h.row, h.ls, h.fld⟩
theorem Cls.nil (w : World) (base : Nat) : Cls w base (.slice none 0 0) [] [] := ⟨World.ownsRow_nil _ _ _ _, rfl, fun i p c h1 _ => by simp at h1⟩
theorem Cls.len {w : World} {base : Nat} {v : Value} {vs : List (Int × SV)} {cs : List (Int × List (Int × Int))} (h : Cls w base v vs cs) : vs.length = cs.length := by simpa using congrArg List.length h.ls
theorem Cls.shape {w : World} {base : Nat} {v : Value} {vs : List (Int × SV)} {cs : List (Int × List (Int × Int))} (h : Cls w base v vs cs) : ∃ a c, v = .slice a cs.length c := by
  rw [← h.len]
  rcases h.row.2 with ⟨rfl, hn⟩ | ⟨g, cap, cur, rfl, _⟩
  · exact ⟨none, 0, by rw [hn]⟩
  · exact ⟨_, _, rfl⟩

theorem capp_step {w w1 w2 : World} {b a : Nat} {s : ByteArray} {t : Int} {v v' : Value} {vs : List (Int × SV)} {cs : List (Int × List (Int × Int))} {l : Int} {sv : SV} {fs : List (Int × Int)} {o1 o2 : Obj} {base : Nat} (hb : b < w.heap.size) (hbase : w.heap.size + 2 = base) (hs : base ≤ w1.heap.size) (R1 : RS w1 b s a t)
    (V1 : Cls w1 base v vs cs) (F1 : FVb w1 base sv.val fs) (G1 : w.grownBy w1 (some b)) (hown : w2.ownsRow base 59 2 v' (vs.length + 1) (flatC vs ++ [.int .u8 l, .slice sv.a sv.n sv.c])) (hg : ((w1.alloc o1).alloc o2).grownBy w2 v.ownBlock) :
    Cls w2 base v' (vs ++ [(l, sv)]) (cs ++ [(l, fs)]) ∧ RS w2 b s a t ∧ Loc w1 w2 w.heap.size ∧ Loc w1 w2 (w.heap.size + 1) ∧ w.grownBy w2 (some b) := by
  subst hbase
  have hr : ∀ x, v.ownBlock = some x → w.heap.size + 2 ≤ x := fun x hx => (World.ownsRow.lt V1.row x hx).1
  have hg1 : w1.grownBy w2 v.ownBlock := gb_trans (gb_trans (World.grownBy_alloc w1 o1 _) (World.grownBy_alloc _ o2 _)) hg
  have hne : ∀ k, k ≤ w.heap.size + 1 → some k ≠ v.ownBlock := fun k hk e => by have := hr k e.symm; omega
  have hfk : ∀ (x : SV) f, FVb w1 (w.heap.size + 2) x.val f → FVb w2 (w.heap.size + 2) x.val f := fun x f h => World.ownsRow.kept h hg1 (row_apart h V1.row (by decide))
  have hloc : ∀ r, r ≤ w.heap.size + 1 → Loc w1 w2 r := by
    intro r hrr
    have e := hg1.block r (by omega) (hne _ hrr)
    exact ⟨fun o => World.cell?_of_block (a := ⟨_, o, none⟩) e, fun o => World.frozen?_of_block (a := ⟨_, o, none⟩) e, Nat.lt_of_lt_of_le (by omega) hg1.size⟩
  refine ⟨⟨?_, ?_, ?_⟩, R1.kept hg1 (hne b (by omega)), hloc _ (by omega), hloc _ (by omega), ?_⟩
  · simpa [flatC_app, flatC] using hown
  · simp [V1.ls]
  · intro i p c h1 h2
    have hl := V1.len
    rcases Nat.lt_or_ge i vs.length with hi | hi
    · rw [List.getElem?_append_left hi] at h1
      rw [List.getElem?_append_left (by omega)] at h2
      exact hfk _ _ (V1.fld i p c h1 h2)
    · rw [List.getElem?_append_right hi] at h1
      rw [List.getElem?_append_right (by omega)] at h2
      have hi0 : i - vs.length = 0 := by
        have := (List.getElem?_eq_some_iff.1 h1).1; simp at this; omega
      have hj0 : i - cs.length = 0 := by omega
      rw [hi0] at h1; rw [hj0] at h2
      simp at h1 h2
      subst h1; subst h2
      exact hfk _ _ F1
  · exact ⟨hg1.os.trans G1.os, hg1.tape.trans G1.tape, hg1.output.trans G1.output, Nat.le_trans G1.size hg1.size, fun k hk hn => (hg1.block k (Nat.lt_of_lt_of_le hk G1.size) (hne k (by omega))).trans (G1.block k hk hn)⟩

/-- What readClasses leaves. -/
def CPost (R : RCS) (w : World) (b : Nat) (s : ByteArray) (e : Ending) (w' : World) : Prop := ∃ (a : Option Addr) (n c : Nat) (vs : List (Int × SV)),
  e = .returned (.tuple #[.agg #[.slice a n c], .bool R.ok]) ∧ Cls w' w.heap.size (.slice a n c) vs R.cs ∧ RS w' b s R.at_ R.tw ∧ w.grownBy w' (some b)

set_option maxHeartbeats 1000000 in
theorem classes_any (s : ByteArray) (b k : Nat) (tw : Int) (w : World) (h : RS w b s k tw) (R : RCS) (hR : R = rcLoop s 6 [] k tw) :
    Calls Try.prog 11 #[.pointer (some ⟨b, 0, none⟩)] w (CPost R w b s) := by
  obtain ⟨i0, hi, hz0, hz1, hz2⟩ := info_parts Try.infoClass
  have hb := h.blt
  have R0 : RS ((w.alloc (.cells #[.slice none 0 0] 39)).alloc (.cells #[.slice none 0 0] 39)) b s k tw := (h.alloc _).alloc _
  have G0 : w.grownBy ((w.alloc (.cells #[.slice none 0 0] 39)).alloc (.cells #[.slice none 0 0] 39)) (some b) := gb_alloc (World.grownBy_alloc _ _ _) _
  have HR : Hid (R = rcLoop s 6 [] k tw) := hR
  clear h hR
  go_enter Try.func11, Try.ntmps11
  go_wp2
  go_loopg [6] 7 (fun gk _ wr => ∃ cs k tw v vs, gk = 7 - cs.length ∧ cs.length ≤ 6 ∧ R = rcLoop s (6 - cs.length) cs k tw ∧ RS wr b s k tw ∧ Cls wr (w.heap.size + 2) v vs cs ∧
    wr.cell? ⟨w.heap.size, 0, none⟩ = some (.slice none 0 0) ∧ wr.frozen? ⟨w.heap.size, 0, none⟩ = false ∧ wr.cell? ⟨w.heap.size + 1, 0, none⟩ = some v ∧ wr.frozen? ⟨w.heap.size + 1, 0, none⟩ = false ∧ w.heap.size + 2 ≤ wr.heap.size ∧ w.grownBy wr (some b))
  case atStart => exact ⟨[], k, tw, .slice none 0 0, [], rfl, by decide, HR.out, R0, Cls.nil _ _, by go_simp, by go_simp, by go_simp, by go_simp, by simp, G0⟩
  case round =>
    obtain ⟨cs, k, tw, v, vs, hgk, hlen, hR', R0, V0, c0, f0, c1, f1, hs, G0⟩ := hrel
    have hsz : w.heap.size + 1 < wr.heap.size := by omega
    obtain ⟨ad, cp, rfl⟩ := V0.shape
    by_cases h6 : cs.length = 6
    · rw [h6, rcLoop] at hR'
      subst hR'
      have h6' : 6 ≤ cs.length := by omega
      have hsz0 : w.heap.size < wr.heap.size := by omega
      clear h6 hgk
      go_wp2
      refine bodyPost_ret (v := .tuple #[.agg #[.slice none 0 0], .bool false]) (by simp [results, Try.results11, go_sem, c0]) rfl ⟨_, _, _, _, rfl, Cls.nil _ _, ?_, ?_⟩
      · exact R0.setOther (by omega) _
      · exact gb_setNew G0 (Nat.le_refl _) _
    obtain ⟨ok, a, t, l, fs, hr⟩ : ∃ ok a t l fs, rdClass s (cs.map (·.1)) k tw = ⟨ok, a, t, l, fs⟩ := ⟨_, _, _, _, _, rfl⟩
    have Fc := class_any s b k tw _ vs (cs.map (·.1)) V0.ls.symm wr R0 V0.cv _ hr.symm
    obtain ⟨n', hn'⟩ : ∃ n', 6 - cs.length = n' + 1 := ⟨6 - cs.length - 1, by omega⟩
    rw [hn', rcLoop, hr] at hR'
    simp only [] at hR' Fc
    have hl6 : cs.length < 6 := by omega
    have HK : Hid (6 - cs.length = n' + 1 ∧ gk = 7 - cs.length) := ⟨hn', hgk⟩
    clear hgk HR hr hn' h6
    cases ok with
    | false =>
      rw [if_pos rfl] at hR'
      subst hR'
      go_wp2_with (go_at_call 12; refine Fc.mono ?_; rintro e w1 ⟨⟨sa, sn, sc⟩, rfl, F1', R1, hg1⟩; have F1 := FVb.mono F1' hs; have V1 := V0.kept hg1 (by omega); obtain ⟨lc1, lf1, ls1⟩ := Loc.of hg1 (r := w.heap.size) (by omega) (by omega); obtain ⟨kc1, kf1, ks1⟩ := Loc.of hg1 (r := w.heap.size + 1) (by omega) (by omega); have hs1 : w.heap.size + 2 ≤ w1.heap.size := Nat.le_trans hs hg1.size; have G1 := gb_trans G0 hg1; clear hg1 Fc V0 F1')
      have d0 : w1.cell? ⟨w.heap.size, 0, none⟩ = some (.slice none 0 0) := by go_simp
      refine bodyPost_ret (v := .tuple #[.agg #[.slice none 0 0], .bool false]) (by simp [results, Try.results11, go_sem, d0, ls1]) rfl ⟨_, _, _, _, rfl, Cls.nil _ _, ?_, ?_⟩
      · exact (R1.setOther (by omega) _).alloc _
      · exact gb_alloc (gb_setNew G1 (Nat.le_refl _) _) _
    | true =>
      rw [if_neg (by decide)] at hR'
      have HR : Hid (R = _) := hR'
      clear hR'
      have hvl : vs.length = cs.length := V0.len
      have HVL : Hid (vs.length = cs.length) := hvl
      clear hvl
      go_wp2_with (first | (go_at_call 12; refine Fc.mono ?_; rintro e w1 ⟨⟨sa, sn, sc⟩, rfl, F1', R1, hg1⟩; have F1 := FVb.mono F1' hs; have V1 := V0.kept hg1 (by omega); obtain ⟨lc1, lf1, ls1⟩ := Loc.of hg1 (r := w.heap.size) (by omega) (by omega); obtain ⟨kc1, kf1, ks1⟩ := Loc.of hg1 (r := w.heap.size + 1) (by omega) (by omega); have hs1 : w.heap.size + 2 ≤ w1.heap.size := Nat.le_trans hs hg1.size; have G1 := gb_trans G0 hg1; clear hg1 Fc V0 F1') | (at_builtin; refine wpList_append_own _ rfl _ _ 37 rfl (w.heap.size + 2) 59 i0 (.agg #[.int .u8 0, .slice none 0 0]) 2 32 Try.underlying37 hi hz0 hz1 hz2 rfl (by decide) _ vs.length (flatC vs) rfl ((V1.row.alloc _).alloc _) ⟨w1.heap.size + 1, 0, none⟩ 1 1 [.int .u8 l, .slice sa sn sc] rfl rfl ?c1 ?c2 ?c3 ?c4 ?c5 ?_))
      case c1 => exact cell_pair _ _ _ _ _
      case c2 => intro u hu; simp at hu; rcases hu with rfl | rfl <;> rfl
      case c3 => have := HVL.out; unfold maxLen; omega
      case c4 => have := HVL.out; omega
      case c5 => simp; omega
      intro v' w2 hown hgr _
      obtain ⟨V2', R2', ⟨lc2, lf2, ls2⟩, ⟨kc2, kf2, ks2⟩, G2'⟩ := capp_step hb rfl hs1 R1 V1 F1 G1 hown hgr
      obtain ⟨ad', cp', hv'⟩ := V2'.shape
      have hl1 : (cs ++ [(l, fs)]).length = cs.length + 1 := by simp
      rw [hl1] at hv'
      clear hown hgr V1 R1 hl1 F1
      subst hv'
      have V2 := V2'.kept (gb_set w2 (w.heap.size + 1) 0 (.slice ad' (cs.length + 1) cp')) (by omega)
      have R2 := R2'.setOther (r := w.heap.size + 1) (o := 0) (by omega) (.slice ad' (cs.length + 1) cp')
      have G2 := gb_setNew G2' (p := w.heap.size + 1) (o := 0) (by omega) (.slice ad' (cs.length + 1) cp')
      obtain ⟨p0, p1, p2, q1, q2, ple, plt⟩ := id R2'
      have d0 : w2.cell? ⟨w.heap.size, 0, none⟩ = some (.slice none 0 0) := by go_simp
      clear V2' R2' G2'
      by_cases ha : a = s.size
      · have HR2 := HR.out
        rw [if_pos ha] at HR2
        subst HR2
        have ha' : ((a : Int) == (s.size : Int)) = true := by simp [ha]
        clear ha HR
        go_wp2
        go_quiet (fail)
        go_wp2
        refine bodyPost_ret (v := .tuple #[.agg #[.slice ad' (cs.length + 1) cp'], .bool true]) (by simp [results, Try.results11, go_sem, d0]) rfl ⟨_, _, _, vs ++ [(l, ⟨sa, sn, sc⟩)], rfl, ?_, ?_, ?_⟩
        · exact ((V2.drewN nq).kept (gb_set _ _ _ _) (by omega)).mono (by omega)
        · exact (R2.drewN nq).setOther (by omega) _
        · exact gb_setNew (gb_drew G2 nq) (Nat.le_refl _) _
      · have HR2 := HR.out
        rw [if_neg ha] at HR2
        have HR' : Hid (R = _) := HR2
        have ha' : ((a : Int) == (s.size : Int)) = false := by simp; omega
        clear ha HR HR2
        go_wp2
        go_quiet (fail)
        go_wp2
        go_roundg (n' + 1)
        case measure => have := HK.out; omega
        case rel =>
          have hk := HK.out
          refine ⟨cs ++ [(l, fs)], a, t, .slice ad' (cs.length + 1) cp', vs ++ [(l, ⟨sa, sn, sc⟩)], by simp; omega, by simp; omega, ?_, R2.drewN nq, V2.drewN nq, ?_, ?_, ?_, ?_, by simp; omega, gb_drew G2 nq⟩
          · have e : 6 - (cs ++ [(l, fs)]).length = n' := by simp; omega
            rw [e]; exact HR'.out
          · go_simp
          · go_simp
          · go_simp
          · go_simp
end Go.Proofs.Ytiofbnmpppjdbab
