import Derived.Test.YtbgilndohccicabMz15
namespace Go.Proofs.Ytbgilndohccicab
open Go.RowKit

def schF (f : GFd) : Int × Int := (f.l, f.k)
def schC (c : GCd) : Int × List (Int × Int) := (c.l, c.fs.map schF)
theorem Cls.app {w1 w2 : World} {base : Nat} {v v' : Value} {vs : List (Int × SV)} {cs : List (Int × List (Int × Int))} {l : Int} {sv : SV} {fs : List (Int × Int)} (V1 : Cls w1 base v vs cs) (F1 : FVb w1 base sv.val fs)
    (hown : w2.ownsRow base 88 2 v' (vs.length + 1) (flatC vs ++ [.int .u8 l, .slice sv.a sv.n sv.c])) (hg1 : w1.grownBy w2 v.ownBlock) : Cls w2 base v' (vs ++ [(l, sv)]) (cs ++ [(l, fs)]) := by
  have hfk : ∀ (x : SV) f, FVb w1 base x.val f → FVb w2 base x.val f := fun x f h => World.ownsRow.kept h hg1 (row_apart h V1.row (by decide))
  refine ⟨by simpa [flatC_app, flatC] using hown, by simp [V1.ls], fun i p c h1 h2 => ?_⟩
  have hl := V1.len
  rcases Nat.lt_or_ge i vs.length with hi | hi
  · rw [List.getElem?_append_left hi] at h1
    rw [List.getElem?_append_left (by omega)] at h2
    exact hfk _ _ (V1.fld i p c h1 h2)
  · rw [List.getElem?_append_right hi] at h1
    rw [List.getElem?_append_right (by omega)] at h2
    have hi0 : i - vs.length = 0 := by
      have := (List.getElem?_eq_some_iff.1 h1).1; simp at this; omega
    have hj0 : i - cs.length = 0 := by omega
    rw [hi0] at h1; rw [hj0] at h2
    simp at h1 h2
    subst h1; subst h2
    exact hfk _ _ F1
theorem cell_pair1 (w1 : World) (x y : Value) (T : TypeId) : ∀ (j : Nat) (u : Value), [x, y][j]? = some u → (w1.alloc (.cells #[x, y] T)).cell? ((⟨w1.heap.size, 0, none⟩ : Addr).add j) = some u := by
  intro j u hj
  match j, hj with
  | 0, hj => simp at hj; subst hj; simp [Addr.add]
  | 1, hj => simp at hj; subst hj; simp [Addr.add]
theorem take_step {α β : Type} (f : α → β) {l : List α} {i : Nat} {x : α} (h : l[i]? = some x) : (l.map f).take (i + 1) = (l.map f).take i ++ [f x] := by
  rw [List.take_add_one, List.getElem?_map, h]; rfl
theorem own_loc {W w4 : World} {base : Nat} {e : TypeId} {sz n : Nat} {v : Value} {xs : List Value} (V : W.ownsRow base e sz v n xs) (g : W.grownBy w4 v.ownBlock) {r : Nat} (hr : r < base) (hW : r < W.heap.size) : Loc W w4 r := by
  have e := g.block r hW (fun h => by have := (World.ownsRow.lt V r h.symm).1; omega)
  exact ⟨fun o => World.cell?_of_block (a := ⟨_, o, none⟩) e, fun o => World.frozen?_of_block (a := ⟨_, o, none⟩) e, Nat.lt_of_lt_of_le hW g.size⟩
def SchPost (cs : List GCd) (w : World) (e : Ending) (w' : World) : Prop := ∃ (a : Option Addr) (n c : Nat) (vs : List (Int × SV)),
  e = .returned (.agg #[.slice a n c]) ∧ Cls w' w.heap.size (.slice a n c) vs (cs.map schC) ∧ Below w.heap.size w w'

set_option maxHeartbeats 400000 in
theorem schemaOf_nil (w : World) : Calls Try.prog 60 #[.slice none 0 0] w (SchPost [] w) := by
  go_enter Try.func60, Try.ntmps60
  go_wp2
  refine wp_loop_rounds 1 ?_; rw [rounds_succ]
  go_wp2
  refine bodyPost_ret (v := .agg #[.slice none 0 0]) (by simp [results, Try.results60, go_sem]) rfl ⟨_, _, _, [], rfl, Cls.nil _ _, ?_⟩
  with_reducible repeat first | exact Below.refl _ _ | apply Below.drew | (refine Below.setCell ?_ (by first | exact Nat.le_refl _ | (show _ ≤ _; omega)) _) | (refine Below.alloc ?_ (by simp) _)

def OfPost (c : GCd) (w : World) (e : Ending) (w' : World) : Prop := ∃ (a : Option Addr) (n k : Nat), e = .returned (.agg #[.int .u8 c.l, .slice a n k]) ∧ FVb w' w.heap.size (.slice a n k) (c.fs.map schF) ∧ Below w.heap.size w w'
set_option maxHeartbeats 1000000 in
set_option maxRecDepth 20000 in
theorem of_nil (r : RCd) (c : GCd) (w : World) (hl : r.l = c.l) (hf : c.fs = []) :
    Calls Try.prog 81 #[.agg #[.int .u8 r.l, .int .i64 r.p, .int .u8 r.fl, .int .i64 r.fp, .slice none 0 0]] w (OfPost c w) := by
  unfold OfPost
  rw [hf, ← hl]
  clear hf hl
  go_enter Try.func81, Try.ntmps81
  go_wp2
  refine wp_loop_rounds 1 ?_; rw [rounds_succ]
  go_wp2
  refine bodyPost_ret (v := .agg #[.int .u8 r.l, .slice none 0 0]) (by simp [results, Try.results81, go_sem]) rfl ⟨_, _, _, rfl, World.ownsRow_nil _ _ _ _, ?_⟩
  with_reducible repeat first | exact Below.refl _ _ | apply Below.drew | (refine Below.setCell ?_ (by first | exact Nat.le_refl _ | (show _ ≤ _; omega)) _) | (refine Below.alloc ?_ (by simp; try omega) _)
set_option maxHeartbeats 2000000 in
set_option maxRecDepth 20000 in
theorem of_row (r : RCd) (c : GCd) (frs : List RFd) (fg fcap m : Nat) (w : World) (hl : r.l = c.l) (hm1 : m = frs.length) (hm2 : m = c.fs.length) (hm6 : m ≤ 6) (hfg : fg < w.heap.size)
    (hF : ∀ i, i < m → GFCell w fg i (frs[i]?.getD zRF)) (hE : ∀ (i : Nat) (r : RFd) (f : GFd), frs[i]? = some r → c.fs[i]? = some f → FRel w 0 r f) :
    Calls Try.prog 81 #[.agg #[.int .u8 r.l, .int .i64 r.p, .int .u8 r.fl, .int .i64 r.fp, .slice (some ⟨fg, 0, none⟩) m fcap]] w (OfPost c w) := by
  obtain ⟨iF, hiF, hzF0, hzF1, hzF2⟩ := infoParts2 Try.infoField
  have HM : Hid (m = frs.length ∧ m = c.fs.length) := ⟨hm1, hm2⟩
  have HF : Hid (∀ i, i < m → GFCell w fg i (frs[i]?.getD zRF)) := hF
  have HFE : Hid (∀ (i : Nat) (r : RFd) (f : GFd), frs[i]? = some r → c.fs[i]? = some f → FRel w 0 r f) := hE
  unfold OfPost
  rw [← hl]
  clear hl hm1 hm2 hF hE
  have B0 : Below w.heap.size w (((w.alloc (.cells #[.int .u8 r.l, .int .i64 r.p, .int .u8 r.fl, .int .i64 r.fp, .slice (some ⟨fg, 0, none⟩) m fcap] 156)).alloc (.cells #[.int .u8 0, .slice none 0 0] 88)).alloc (.cells #[.int .u8 r.l, .slice none 0 0] 88)) :=
    (((Below.refl _ _).alloc (Nat.le_refl _) _).alloc (by simp) _).alloc (by simp; omega) _
  go_enter Try.func81, Try.ntmps81
  go_wp2
  go_loopw [13] (fun i wi => ∃ (j : Nat) (fv : Value), j ≤ m ∧ i = .int .i64 j ∧ FVb wi (w.heap.size + 3) fv ((c.fs.map schF).take j) ∧ wi.cell? ⟨w.heap.size + 2, 0, none⟩ = some (.int .u8 r.l) ∧ wi.cell? ⟨w.heap.size + 2, 1, none⟩ = some fv ∧ wi.frozen? ⟨w.heap.size + 2, 1, none⟩ = false ∧
    wi.cell? ⟨w.heap.size + 1, 0, none⟩ = some (.int .u8 0) ∧ wi.cell? ⟨w.heap.size + 1, 1, none⟩ = some (.slice none 0 0) ∧ wi.frozen? ⟨w.heap.size + 1, 0, none⟩ = false ∧ wi.frozen? ⟨w.heap.size + 1, 1, none⟩ = false ∧ w.heap.size + 3 ≤ wi.heap.size ∧ Below w.heap.size w wi) (fun i _ => m - (intOf i).toNat)
  case atStart => exact ⟨0, .slice none 0 0, Nat.zero_le _, rfl, World.ownsRow_nil _ _ _ _, by go_simp, by go_simp, by go_simp, by go_simp, by go_simp, by go_simp, by go_simp, by simp, B0⟩
  case round =>
    obtain ⟨j, fv, hj, rfl, F, d0, d1, df1, q0, q1, qf0, qf1, hszi, hbi⟩ := hrel
    have hp2 : w.heap.size + 2 < wr.heap.size := by omega
    have hp1 : w.heap.size + 1 < wr.heap.size := by omega
    have hfl : ((c.fs.map schF).take j).length = j := by rw [List.length_take, List.length_map, ← HM.out.2]; omega
    obtain ⟨fa, fc, hfv⟩ := F.shape
    rw [hfl] at hfv
    subst hfv
    have HFL : Hid (((c.fs.map schF).take j).length = j) := hfl
    have Fr : wr.ownsRow (w.heap.size + 3) 140 2 (.slice fa j fc) j (flatF ((c.fs.map schF).take j)) := by
      have := F; unfold FVb at this; rw [hfl] at this; exact this
    clear hfl B0
    by_cases hjl : j < m
    · obtain ⟨fr, hfr⟩ : ∃ fr, fr = frs[j]?.getD zRF := ⟨_, rfl⟩
      have hfrk : frs[j]? = some fr := by rw [hfr]; exact getD_of (by rw [← HM.out.1]; exact hjl) zRF
      obtain ⟨f, hfk⟩ : ∃ f, c.fs[j]? = some f := ⟨_, List.getElem?_eq_getElem (by rw [← HM.out.2]; exact hjl)⟩
      have hfrel := HFE.out j fr f hfrk hfk
      obtain ⟨x0, x1, x2, x3, x4, x5⟩ := (HF.out j hjl).below hbi hfg
      rw [← hfr] at x0 x1 x2 x3 x4 x5
      have HST : Hid ((c.fs.map schF).take (j + 1) = (c.fs.map schF).take j ++ [(fr.l, fr.k)]) := by
        show _ = _; rw [take_step schF hfk, schF, hfrel.l, hfrel.k]
      clear hfr hfrk hfk hfrel
      go_wp2_with (at_builtin; refine wpList_append_own _ rfl _ _ 86 rfl (w.heap.size + 3) 140 iF (.agg #[.int .u8 0, .int .u8 0]) 2 2 Try.underlying86 hiF hzF0 hzF1 hzF2 rfl (by decide) _ j (flatF ((c.fs.map schF).take j)) rfl ((Fr.alloc _).alloc _) ⟨wr.heap.size + 1, 0, none⟩ 1 1 [.int .u8 fr.l, .int .u8 fr.k] rfl rfl ?c1 ?c2 ?c3 ?c4 ?c5 ?_)
      case c1 => exact cell_pair _ _ _ _ _
      case c2 => intro u hu; simp at hu; rcases hu with rfl | rfl <;> rfl
      case c3 => unfold maxLen; omega
      case c4 => omega
      case c5 => simp; omega
      intro v' w5 hown hgr _
      have hg5 : wr.grownBy w5 (Value.ownBlock (.slice fa j fc)) := gb_trans (gb_trans (World.grownBy_alloc _ _ _) (World.grownBy_alloc _ _ _)) hgr
      have F5 : FVb w5 (w.heap.size + 3) v' ((c.fs.map schF).take (j + 1)) := by
        unfold FVb; rw [HST.out, List.length_append, HFL.out, flatF_app]; exact hown
      obtain ⟨y2c, y2f, y2l⟩ := own_loc Fr hg5 (r := w.heap.size + 2) (by omega) hp2
      obtain ⟨y1c, y1f, y1l⟩ := own_loc Fr hg5 (r := w.heap.size + 1) (by omega) hp1
      have g0 : w5.cell? ⟨w.heap.size + 2, 0, none⟩ = some (.int .u8 r.l) := by rw [y2c]; exact d0
      have g1 : w5.cell? ⟨w.heap.size + 2, 1, none⟩ = some (.slice fa j fc) := by rw [y2c]; exact d1
      have gf1 : w5.frozen? ⟨w.heap.size + 2, 1, none⟩ = false := by rw [y2f]; exact df1
      have z0 : w5.cell? ⟨w.heap.size + 1, 0, none⟩ = some (.int .u8 0) := by rw [y1c]; exact q0
      have z1 : w5.cell? ⟨w.heap.size + 1, 1, none⟩ = some (.slice none 0 0) := by rw [y1c]; exact q1
      have zf0 : w5.frozen? ⟨w.heap.size + 1, 0, none⟩ = false := by rw [y1f]; exact qf0
      have zf1 : w5.frozen? ⟨w.heap.size + 1, 1, none⟩ = false := by rw [y1f]; exact qf1
      have hs5 : w.heap.size + 3 ≤ w5.heap.size := Nat.le_trans hszi hg5.size
      have B5 : Below w.heap.size w w5 := hbi.grown hg5 (by omega) (fun x hx => by have := (World.ownsRow.lt Fr x hx).1; omega)
      obtain ⟨fa', fc', hv'⟩ := F5.shape
      have hl1 : ((c.fs.map schF).take (j + 1)).length = j + 1 := by rw [List.length_take, List.length_map, ← HM.out.2]; omega
      rw [hl1] at hv'
      subst hv'
      have F6 := F5.set0 (p := w.heap.size + 2) (o := 1) (u := .slice fa' (j + 1) fc') (by omega)
      have B6 : Below w.heap.size w (w5.setCell ⟨w.heap.size + 2, 1, none⟩ (.slice fa' (j + 1) fc')) := B5.setCell (by show _ ≤ w.heap.size + 2; omega) _
      clear hown hgr hg5 F5 F Fr y2c y2f y1c y1f hl1
      go_wp2
      refine ⟨⟨j + 1, _, by omega, rfl, F6, ?_, ?_, ?_, ?_, ?_, ?_, ?_, ?_, B6⟩, by simp [intOf]; omega⟩
      · go_simp
      · go_simp
      · go_simp
      · go_simp
      · go_simp
      · go_simp
      · go_simp
      · simpa using hs5
    · obtain rfl : j = m := by omega
      have hfs : (c.fs.map schF).take j = c.fs.map schF := List.take_of_length_le (by rw [List.length_map, ← HM.out.2]; omega)
      rw [hfs] at F
      clear Fr hfs
      go_wp2
      refine bodyPost_ret (v := .agg #[.int .u8 r.l, .slice fa j fc]) (by simp [results, Try.results81, go_sem, q0, q1]) rfl ⟨_, _, _, rfl, ?_, ?_⟩
      · refine FVb.mono (World.ownsRow.kept (World.ownsRow.kept F (gb_set _ (w.heap.size + 1) _ _) ?_) (gb_set _ (w.heap.size + 1) _ _) ?_) (by omega)
        all_goals
          cases hv : Value.ownBlock (.slice fa j fc) with
          | none => exact .inl rfl
          | some x => right; have := (World.ownsRow.lt F x hv).1; simp; omega
      · exact (hbi.setCell (by show _ ≤ w.heap.size + 1; omega) _).setCell (by show _ ≤ w.heap.size + 1; omega) _
theorem of_any {r : RCd} {c : GCd} {w : World} (h : CRel w 0 r c) (h6 : c.fs.length ≤ 6) :
    Calls Try.prog 81 #[.agg #[.int .u8 r.l, .int .i64 r.p, .int .u8 r.fl, .int .i64 r.fp, .slice r.f.a r.f.n r.f.c]] w (OfPost c w) := by
  obtain ⟨frs, hfs⟩ := h.fs
  rcases hfs.cells with ⟨hnil, hfr⟩ | ⟨fg, fcap, hfv, hfg, hfc, hfm, hfcell⟩
  · have hfs0 : c.fs = [] := by have := hfs.len; rw [hfr] at this; exact List.length_eq_zero_iff.1 this.symm
    rw [hnil]
    exact of_nil r c w h.l hfs0
  · rw [hfv]
    exact of_row r c frs fg _ _ w h.l rfl hfs.len (by rw [hfs.len]; exact h6) hfg hfcell hfs.el
set_option maxHeartbeats 2000000 in
set_option maxRecDepth 20000 in
theorem schemaOf_row (g cap : Nat) (rs : List RCd) (cs : List GCd) (w : World) (hg : g < w.heap.size) (hm : rs.length ≤ 6) (hlen : rs.length = cs.length)
    (hc : ∀ i, i < rs.length → CCell w g i (rs[i]?.getD zR)) (hel : ∀ (i : Nat) (r : RCd) (c : GCd), rs[i]? = some r → cs[i]? = some c → CRel w 0 r c) (h6 : ∀ c ∈ cs, c.fs.length ≤ 6) :
    Calls Try.prog 60 #[.slice (some ⟨g, 0, none⟩) rs.length cap] w (SchPost cs w) := by
  obtain ⟨iC, hiC, hzC0, hzC1, hzC2⟩ := infoParts2 Try.infoClass
  obtain ⟨n, hn⟩ : ∃ n, n = rs.length := ⟨_, rfl⟩
  rw [← hn] at hm hc hlen ⊢
  have HN : Hid (n = rs.length ∧ n = cs.length) := ⟨hn, hlen⟩
  have HE : Hid (∀ (i : Nat) (r : RCd) (c : GCd), rs[i]? = some r → cs[i]? = some c → CRel w 0 r c) := hel
  have HC : Hid (∀ i, i < n → CCell w g i (rs[i]?.getD zR)) := hc
  have H6 : Hid (∀ c ∈ cs, c.fs.length ≤ 6) := h6
  clear hn hlen hel hc h6
  have B0 : Below w.heap.size w ((w.alloc (.cells #[.slice none 0 0] 72)).alloc (.cells #[.slice none 0 0] 72)) := ((Below.refl _ _).alloc (Nat.le_refl _) _).alloc (by simp) _
  go_enter Try.func60, Try.ntmps60
  go_wp2
  go_loopw [9] (fun i wr => ∃ (k : Nat) (v : Value) (vs : List (Int × SV)), k ≤ n ∧ i = .int .i64 k ∧ Cls wr (w.heap.size + 2) v vs ((cs.map schC).take k) ∧ wr.cell? ⟨w.heap.size, 0, none⟩ = some (.slice none 0 0) ∧ wr.frozen? ⟨w.heap.size, 0, none⟩ = false ∧
    wr.cell? ⟨w.heap.size + 1, 0, none⟩ = some v ∧ wr.frozen? ⟨w.heap.size + 1, 0, none⟩ = false ∧ w.heap.size + 2 ≤ wr.heap.size ∧ Below w.heap.size w wr) (fun i _ => n - (intOf i).toNat)
  case atStart => exact ⟨0, .slice none 0 0, [], Nat.zero_le _, rfl, by rw [List.take_zero]; exact Cls.nil _ _, by go_simp, by go_simp, by go_simp, by go_simp, by simp, B0⟩
  case round =>
    rename World => wo
    obtain ⟨k, v, vs, hk, rfl, V, r0, rf0, r1, rf1, hsz, hb⟩ := hrel
    have hvk : vs.length = k := by
      rw [V.len, List.length_take, List.length_map, ← HN.out.2]; omega
    obtain ⟨va, vc, hv⟩ := V.shape
    have hvl : ((cs.map schC).take k).length = k := by rw [← V.len]; exact hvk
    rw [hvl] at hv
    subst hv
    have HVK : Hid (vs.length = k) := hvk
    clear hvk hvl B0
    by_cases hlt : k < n
    · obtain ⟨r, hr⟩ : ∃ r, r = rs[k]?.getD zR := ⟨_, rfl⟩
      have hrk : rs[k]? = some r := by rw [hr]; exact getD_of (by rw [← HN.out.1]; exact hlt) zR
      obtain ⟨c, hck⟩ : ∃ c, cs[k]? = some c := ⟨_, List.getElem?_eq_getElem (by rw [← HN.out.2]; exact hlt)⟩
      have hrel := HE.out k r c hrk hck
      obtain ⟨c0, c1, c2, c3, c4⟩ := (HC.out k hlt).below hb hg
      rw [← hr] at c0 c1 c2 c3 c4
      have hc6 : c.fs.length ≤ 6 := H6.out c (List.mem_of_getElem? hck)
      have HS : Hid ((cs.map schC).take (k + 1) = (cs.map schC).take k ++ [(c.l, c.fs.map schF)]) := by
        show _ = _; rw [take_step schC hck, schC]
      have hsz0 : w.heap.size < wo.heap.size := by omega
      have hsz1 : w.heap.size + 1 < wo.heap.size := by omega
      have BW : Below wo.heap.size wo (wo.alloc (.cells #[.int .u8 r.l, .int .i64 r.p, .int .u8 r.fl, .int .i64 r.fp, .slice r.f.a r.f.n r.f.c] 156)) := (Below.refl _ _).alloc (Nat.le_refl _) _
      have OC := of_any ((hrel.below hb).below BW) hc6
      have HV : Hid (Cls wo (w.heap.size + 2) (.slice va k vc) vs ((cs.map schC).take k)) := V
      have HB : Hid (Below w.heap.size w wo) := hb
      clear hr hrk hck hrel V hb
      go_wp2_with fail
      refine OC.mono ?_
      rintro e w1 ⟨fa, fn, fc, rfl, F1', B1'⟩
      have B1 : Below wo.heap.size wo w1 := BW.trans (B1'.mono (by simp))
      have hs1 : wo.heap.size + 1 ≤ w1.heap.size := by have := B1'.size; simpa using this
      have F1 : FVb w1 (w.heap.size + 2) (SV.val ⟨fa, fn, fc⟩) (c.fs.map schF) := F1'.mono (by simp; omega)
      have V1 := HV.out.below B1
      have V1r := V1.row
      rw [HVK.out] at V1r
      have e0 : w1.cell? ⟨w.heap.size, 0, none⟩ = some (.slice none 0 0) := (B1.cell (by exact hsz0)).trans r0
      have e1 : w1.cell? ⟨w.heap.size + 1, 0, none⟩ = some (.slice va k vc) := (B1.cell (by exact hsz1)).trans r1
      have ef0 : w1.frozen? ⟨w.heap.size, 0, none⟩ = false := (B1.frozen (by exact hsz0)).trans rf0
      have ef1 : w1.frozen? ⟨w.heap.size + 1, 0, none⟩ = false := (B1.frozen (by exact hsz1)).trans rf1
      have hW0 : w.heap.size < w1.heap.size := by omega
      have hW1 : w.heap.size + 1 < w1.heap.size := by omega
      have HB1 : Hid (Below w.heap.size w w1) := HB.out.trans (B1.mono HB.out.size)
      clear OC F1' B1' BW
      go_wp2_with (at_builtin; refine wpList_append_own _ rfl _ _ 70 rfl (w.heap.size + 2) 88 iC (.agg #[.int .u8 0, .slice none 0 0]) 2 32 Try.underlying70 hiC hzC0 hzC1 hzC2 rfl (by decide) _ k (flatC vs) rfl ((V1r.alloc _).alloc _) ⟨w1.heap.size + 1, 0, none⟩ 1 1 [.int .u8 c.l, .slice fa fn fc] rfl rfl ?c1 ?c2 ?c3 ?c4 ?c5 ?_)
      case c1 => exact cell_pair _ _ _ _ _
      case c2 => intro u hu; simp at hu; rcases hu with rfl | rfl <;> rfl
      case c3 => unfold maxLen; omega
      case c4 => omega
      case c5 => simp; omega
      intro v' w4 hown hgr _
      rw [← HVK.out] at hown
      have hg4 : w1.grownBy w4 (Value.ownBlock (.slice va k vc)) := gb_trans (gb_trans (World.grownBy_alloc _ _ _) (World.grownBy_alloc _ _ _)) hgr
      have V4' := V1.app (sv := ⟨fa, fn, fc⟩) F1 hown hg4
      rw [← HS.out] at V4'
      obtain ⟨q0c, q0f, q0l⟩ := own_loc V1r hg4 (r := w.heap.size) (by omega) hW0
      obtain ⟨q1c, q1f, q1l⟩ := own_loc V1r hg4 (r := w.heap.size + 1) (by omega) hW1
      have g0 : w4.cell? ⟨w.heap.size, 0, none⟩ = some (.slice none 0 0) := by rw [q0c]; exact e0
      have g1 : w4.cell? ⟨w.heap.size + 1, 0, none⟩ = some (.slice va k vc) := by rw [q1c]; exact e1
      have gf0 : w4.frozen? ⟨w.heap.size, 0, none⟩ = false := by rw [q0f]; exact ef0
      have gf1 : w4.frozen? ⟨w.heap.size + 1, 0, none⟩ = false := by rw [q1f]; exact ef1
      have hs4 : w.heap.size + 2 ≤ w4.heap.size := by omega
      have B4 : Below w.heap.size w w4 := HB1.out.grown hg4 (by omega) (fun x hx => by have := (World.ownsRow.lt V1r x hx).1; omega)
      obtain ⟨va', vc', hv'⟩ := V4'.shape
      have hl1 : ((cs.map schC).take (k + 1)).length = k + 1 := by rw [List.length_take, List.length_map, ← HN.out.2]; omega
      rw [hl1] at hv'
      subst hv'
      have V5 := V4'.kept (gb_set w4 (w.heap.size + 1) 0 (.slice va' (k + 1) vc')) (by omega)
      have B5 : Below w.heap.size w (w4.setCell ⟨w.heap.size + 1, 0, none⟩ (.slice va' (k + 1) vc')) := B4.setCell (by show _ ≤ w.heap.size + 1; omega) _
      clear hown hgr hg4 V4' V1 V1r F1 q0c q0f q1c q1f hl1
      go_wp2
      refine ⟨⟨k + 1, _, _, by omega, rfl, V5, ?_, ?_, ?_, ?_, ?_, B5⟩, by simp [intOf]; omega⟩
      · go_simp
      · go_simp
      · go_simp
      · go_simp
      · simpa using hs4
    · obtain rfl : k = n := by omega
      have hfull : (cs.map schC).take k = cs.map schC := List.take_of_length_le (by rw [List.length_map, ← HN.out.2]; omega)
      rw [hfull] at V
      have hsz0 : w.heap.size < wo.heap.size := by omega
      go_wp2
      refine bodyPost_ret (v := .agg #[.slice va k vc]) (by simp [results, Try.results60, go_sem, r0]) rfl ⟨_, _, _, vs, rfl, ?_, ?_⟩
      · exact (V.kept (gb_set _ _ _ _) (by omega)).mono (by omega)
      · exact hb.setCell (Nat.le_refl _) _
end Go.Proofs.Ytbgilndohccicab
