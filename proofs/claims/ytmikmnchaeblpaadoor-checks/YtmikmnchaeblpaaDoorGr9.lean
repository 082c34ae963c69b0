import Derived.Test.YtmikmnchaeblpaaDoorGr8
namespace Go.Proofs.YtmikmnchaeblpaaDoor
open Go.RowKit

def schF (f : GFd) : Int × Int := (f.l, f.k)
def schC (c : GCd) : Int × List (Int × Int) := (c.l, c.fs.map schF)
theorem Cls.below {w w' : World} {base : Nat} {v : Value} {vs : List (Int × SV)} {cs : List (Int × List (Int × Int))} (h : Cls w base v vs cs) (hb : Below w.heap.size w w') : Cls w' base v vs cs :=
  ⟨World.ownsRow.kept h.row (gb_below hb none) (by cases hv : v.ownBlock <;> simp), h.ls, fun i p c h1 h2 => World.ownsRow.kept (h.fld i p c h1 h2) (gb_below hb none) (by cases hv : Value.ownBlock (p.2.val) <;> simp)⟩
theorem Cls.app {w1 w2 : World} {base : Nat} {v v' : Value} {vs : List (Int × SV)} {cs : List (Int × List (Int × Int))} {l : Int} {sv : SV} {fs : List (Int × Int)} (V1 : Cls w1 base v vs cs) (F1 : FVb w1 base sv.val fs)
    (hown : w2.ownsRow base 74 2 v' (vs.length + 1) (flatC vs ++ [.int .u8 l, .slice sv.a sv.n sv.c])) (hg1 : w1.grownBy w2 v.ownBlock) : Cls w2 base v' (vs ++ [(l, sv)]) (cs ++ [(l, fs)]) := by
  have hfk : ∀ (x : SV) f, FVb w1 base x.val f → FVb w2 base x.val f := fun x f h => World.ownsRow.kept h hg1 (row_apart h V1.row (by decide))
  refine ⟨by simpa [flatC_app, flatC] using hown, by simp [V1.ls], fun i p c h1 h2 => ?_⟩
  have hl := V1.len
  rcases Nat.lt_or_ge i vs.length with hi | hi
  · rw [List.getElem?_append_left hi] at h1
    rw [List.getElem?_append_left (by omega)] at h2
    exact hfk _ _ (V1.fld i p c h1 h2)
  · rw [List.getElem?_append_right hi] at h1
    rw [List.getElem?_append_right (by omega)] at h2
    have hi0 : i - vs.length = 0 := by
      have := (List.getElem?_eq_some_iff.1 h1).1; simp at this; omega
    have hj0 : i - cs.length = 0 := by omega
    rw [hi0] at h1; rw [hj0] at h2
    simp at h1 h2
    subst h1; subst h2
    exact hfk _ _ F1
theorem cell_pair1 (w1 : World) (x y : Value) (T : TypeId) : ∀ (j : Nat) (u : Value), [x, y][j]? = some u → (w1.alloc (.cells #[x, y] T)).cell? ((⟨w1.heap.size, 0, none⟩ : Addr).add j) = some u := by
  intro j u hj
  match j, hj with
  | 0, hj => simp at hj; subst hj; simp [Addr.add]
  | 1, hj => simp at hj; subst hj; simp [Addr.add]
theorem take_step {α β : Type} (f : α → β) {l : List α} {i : Nat} {x : α} (h : l[i]? = some x) : (l.map f).take (i + 1) = (l.map f).take i ++ [f x] := by
  rw [List.take_add_one, List.getElem?_map, h]; rfl
theorem own_loc {W w4 : World} {base : Nat} {e : TypeId} {sz n : Nat} {v : Value} {xs : List Value} (V : W.ownsRow base e sz v n xs) (g : W.grownBy w4 v.ownBlock) {r : Nat} (hr : r < base) (hW : r < W.heap.size) : Loc W w4 r := by
  have e := g.block r hW (fun h => by have := (World.ownsRow.lt V r h.symm).1; omega)
  exact ⟨fun o => World.cell?_of_block (a := ⟨_, o, none⟩) e, fun o => World.frozen?_of_block (a := ⟨_, o, none⟩) e, Nat.lt_of_lt_of_le hW g.size⟩
def SchPost (cs : List GCd) (w : World) (e : Ending) (w' : World) : Prop := ∃ (a : Option Addr) (n c : Nat) (vs : List (Int × SV)),
  e = .returned (.agg #[.slice a n c]) ∧ Cls w' w.heap.size (.slice a n c) vs (cs.map schC) ∧ Below w.heap.size w w'

set_option maxHeartbeats 400000 in
theorem schemaOf_nil (w : World) : Calls Tryd.prog 17 #[.slice none 0 0] w (SchPost [] w) := by
  go_enter Tryd.func17, Tryd.ntmps17
  go_wp2
  refine wp_loop_rounds 1 ?_; rw [rounds_succ]
  go_wp2
  refine bodyPost_ret (v := .agg #[.slice none 0 0]) (by simp [results, Tryd.results17, go_sem]) rfl ⟨_, _, _, [], rfl, Cls.nil _ _, ?_⟩
  with_reducible repeat first | exact Below.refl _ _ | apply Below.drew | (refine Below.setCell ?_ (by first | exact Nat.le_refl _ | (show _ ≤ _; omega)) _) | (refine Below.alloc ?_ (by simp) _)

set_option maxHeartbeats 2000000 in
set_option maxRecDepth 20000 in
theorem schemaOf_row (g cap : Nat) (rs : List RCd) (cs : List GCd) (w : World) (hg : g < w.heap.size) (hm : rs.length ≤ 6) (hlen : rs.length = cs.length)
    (hc : ∀ i, i < rs.length → CCell w g i (rs[i]?.getD zR)) (hel : ∀ (i : Nat) (r : RCd) (c : GCd), rs[i]? = some r → cs[i]? = some c → CRel w 0 r c) (h6 : ∀ c ∈ cs, c.fs.length ≤ 6) :
    Calls Tryd.prog 17 #[.slice (some ⟨g, 0, none⟩) rs.length cap] w (SchPost cs w) := by
  obtain ⟨iF, hiF, hzF0, hzF1, hzF2⟩ := infoParts2 Tryd.infoField
  obtain ⟨iC, hiC, hzC0, hzC1, hzC2⟩ := infoParts2 Tryd.infoClass
  obtain ⟨n, hn⟩ : ∃ n, n = rs.length := ⟨_, rfl⟩
  rw [← hn] at hm hc hlen ⊢
  have HN : Hid (n = rs.length ∧ n = cs.length) := ⟨hn, hlen⟩
  have HE : Hid (∀ (i : Nat) (r : RCd) (c : GCd), rs[i]? = some r → cs[i]? = some c → CRel w 0 r c) := hel
  have HC : Hid (∀ i, i < n → CCell w g i (rs[i]?.getD zR)) := hc
  have H6 : Hid (∀ c ∈ cs, c.fs.length ≤ 6) := h6
  clear hn hlen hel hc h6
  have B0 : Below w.heap.size w ((w.alloc (.cells #[.slice none 0 0] 33)).alloc (.cells #[.slice none 0 0] 33)) := ((Below.refl _ _).alloc (Nat.le_refl _) _).alloc (by simp) _
  go_enter Tryd.func17, Tryd.ntmps17
  go_wp2
  go_loopw [11] (fun i wr => ∃ (k : Nat) (v : Value) (vs : List (Int × SV)), k ≤ n ∧ i = .int .i64 k ∧ Cls wr (w.heap.size + 2) v vs ((cs.map schC).take k) ∧ wr.cell? ⟨w.heap.size, 0, none⟩ = some (.slice none 0 0) ∧ wr.frozen? ⟨w.heap.size, 0, none⟩ = false ∧
    wr.cell? ⟨w.heap.size + 1, 0, none⟩ = some v ∧ wr.frozen? ⟨w.heap.size + 1, 0, none⟩ = false ∧ w.heap.size + 2 ≤ wr.heap.size ∧ Below w.heap.size w wr) (fun i _ => n - (intOf i).toNat)
  case atStart => exact ⟨0, .slice none 0 0, [], Nat.zero_le _, rfl, by rw [List.take_zero]; exact Cls.nil _ _, by go_simp, by go_simp, by go_simp, by go_simp, by simp, B0⟩
  case round =>
    rename World => wo
    obtain ⟨k, v, vs, hk, rfl, V, r0, rf0, r1, rf1, hsz, hb⟩ := hrel
    have hvk : vs.length = k := by
      rw [V.len, List.length_take, List.length_map, ← HN.out.2]; omega
    obtain ⟨va, vc, hv⟩ := V.shape
    have hvl : ((cs.map schC).take k).length = k := by rw [← V.len]; exact hvk
    rw [hvl] at hv
    subst hv
    have HVK : Hid (vs.length = k) := hvk
    clear hvk hvl B0
    by_cases hlt : k < n
    · obtain ⟨r, hr⟩ : ∃ r, r = rs[k]?.getD zR := ⟨_, rfl⟩
      have hrk : rs[k]? = some r := by rw [hr]; exact getD_of (by rw [← HN.out.1]; exact hlt) zR
      obtain ⟨c, hck⟩ : ∃ c, cs[k]? = some c := ⟨_, List.getElem?_eq_getElem (by rw [← HN.out.2]; exact hlt)⟩
      have hrel := HE.out k r c hrk hck
      obtain ⟨c0, c1, c2, c3, c4⟩ := (HC.out k hlt).below hb hg
      rw [← hr] at c0 c1 c2 c3 c4
      have HK : Hid (cs[k]? = some c ∧ CRel w 0 r c) := ⟨hck, hrel⟩
      have hc6 : c.fs.length ≤ 6 := H6.out c (List.mem_of_getElem? hck)
      obtain ⟨frs, hfs⟩ := hrel.fs
      have hrl := hrel.l
      clear hr hrk hck hrel
      have hsz0 : w.heap.size < wo.heap.size := by omega
      have hsz1 : w.heap.size + 1 < wo.heap.size := by omega
      rcases hfs.cells with ⟨hnil, hfr⟩ | ⟨fg, fcap, hfv, hfg, hfc, hfm, hfcell⟩
      · rw [hnil] at c4
        have hfs0 : c.fs = [] := by have := hfs.len; rw [hfr] at this; exact List.length_eq_zero_iff.1 this.symm
        have HS : Hid ((cs.map schC).take (k + 1) = (cs.map schC).take k ++ [(r.l, [])]) := by
          show _ = _; rw [take_step schC HK.out.1, schC, hfs0, hrl]; rfl
        clear hfs hfr hfs0 hrl hnil hc6
        have BW : Below wo.heap.size wo ((wo.alloc (.cells #[.int .u8 r.l, .int .i64 r.p, .int .u8 r.fl, .int .i64 r.fp, .slice none 0 0] 64)).alloc (.cells #[.int .u8 r.l, .slice none 0 0] 74)) := ((Below.refl _ _).alloc (Nat.le_refl _) _).alloc (by simp) _
        have V1 := V.below BW
        obtain ⟨W, hW⟩ : ∃ W, W = (wo.alloc (.cells #[.int .u8 r.l, .int .i64 r.p, .int .u8 r.fl, .int .i64 r.fp, .slice none 0 0] 64)).alloc (.cells #[.int .u8 r.l, .slice none 0 0] 74) := ⟨_, rfl⟩
        have hWl : wo.heap.size + 1 < W.heap.size := by rw [hW]; simp
        have hW0 : w.heap.size < W.heap.size := by omega
        have hW1 : w.heap.size + 1 < W.heap.size := by omega
        have d0 : W.cell? ⟨wo.heap.size + 1, 0, none⟩ = some (.int .u8 r.l) := by rw [hW]; go_simp
        have d1 : W.cell? ⟨wo.heap.size + 1, 1, none⟩ = some (.slice none 0 0) := by rw [hW]; go_simp
        have e0 : W.cell? ⟨w.heap.size, 0, none⟩ = some (.slice none 0 0) := by rw [hW]; go_simp
        have e1 : W.cell? ⟨w.heap.size + 1, 0, none⟩ = some (.slice va k vc) := by rw [hW]; go_simp
        have ef0 : W.frozen? ⟨w.heap.size, 0, none⟩ = false := by rw [hW]; go_simp
        have ef1 : W.frozen? ⟨w.heap.size + 1, 0, none⟩ = false := by rw [hW]; go_simp
        rw [← hW] at V1 BW
        have F1 : FVb W (w.heap.size + 2) (SV.val ⟨none, 0, 0⟩) [] := World.ownsRow_nil _ _ _ _
        have V1r := V1.row
        rw [HVK.out] at V1r
        go_wp2
        refine wp_loop_rounds 1 ?_; rw [rounds_succ]
        rw [← hW]
        clear hW
        go_wp2_with (at_builtin; refine wpList_append_own _ rfl _ _ 31 rfl (w.heap.size + 2) 74 iC (.agg #[.int .u8 0, .slice none 0 0]) 2 32 Tryd.underlying31 hiC hzC0 hzC1 hzC2 rfl (by decide) _ k (flatC vs) rfl (V1r.alloc _) ⟨W.heap.size, 0, none⟩ 1 1 [.int .u8 r.l, .slice none 0 0] rfl rfl ?c1 ?c2 ?c3 ?c4 ?c5 ?_)
        case c1 => exact cell_pair1 _ _ _ _
        case c2 => intro u hu; simp at hu; rcases hu with rfl | rfl <;> rfl
        case c3 => unfold maxLen; omega
        case c4 => omega
        case c5 => simp; omega
        intro v' w4 hown hgr _
        rw [← HVK.out] at hown
        have hg4 : W.grownBy w4 (Value.ownBlock (.slice va k vc)) := gb_trans (World.grownBy_alloc _ _ _) hgr
        have V4' := V1.app (sv := ⟨none, 0, 0⟩) F1 hown hg4
        rw [← HS.out] at V4'
        obtain ⟨q0c, q0f, q0l⟩ := own_loc V1r hg4 (r := w.heap.size) (by omega) hW0
        obtain ⟨q1c, q1f, q1l⟩ := own_loc V1r hg4 (r := w.heap.size + 1) (by omega) hW1
        have g0 : w4.cell? ⟨w.heap.size, 0, none⟩ = some (.slice none 0 0) := by rw [q0c]; exact e0
        have g1 : w4.cell? ⟨w.heap.size + 1, 0, none⟩ = some (.slice va k vc) := by rw [q1c]; exact e1
        have gf0 : w4.frozen? ⟨w.heap.size, 0, none⟩ = false := by rw [q0f]; exact ef0
        have gf1 : w4.frozen? ⟨w.heap.size + 1, 0, none⟩ = false := by rw [q1f]; exact ef1
        have hs4 : w.heap.size + 2 ≤ w4.heap.size := by omega
        have B4 : Below w.heap.size w w4 := (hb.trans (BW.mono hb.size)).grown hg4 (by omega) (fun x hx => by have := (World.ownsRow.lt V1r x hx).1; omega)
        obtain ⟨va', vc', hv'⟩ := V4'.shape
        have hl1 : ((cs.map schC).take (k + 1)).length = k + 1 := by rw [List.length_take, List.length_map, ← HN.out.2]; omega
        rw [hl1] at hv'
        subst hv'
        have V5 := V4'.kept (gb_set w4 (w.heap.size + 1) 0 (.slice va' (k + 1) vc')) (by omega)
        have B5 : Below w.heap.size w (w4.setCell ⟨w.heap.size + 1, 0, none⟩ (.slice va' (k + 1) vc')) := B4.setCell (by show _ ≤ w.heap.size + 1; omega) _
        clear hown hgr hg4 V4' V1 V1r F1 q0c q0f q1c q1f hl1
        go_wp2
        refine ⟨⟨k + 1, _, _, by omega, rfl, V5, ?_, ?_, ?_, ?_, ?_, B5⟩, by simp [intOf]; omega⟩
        · go_simp
        · go_simp
        · go_simp
        · go_simp
        · simpa using hs4
      · obtain ⟨m, hm'⟩ : ∃ m, m = frs.length := ⟨_, rfl⟩
        have hml : m = c.fs.length := hm'.trans hfs.len
        rw [hfv, ← hm'] at c4
        rw [← hm'] at hfm hfcell
        have HM : Hid (m = frs.length ∧ m = c.fs.length) := ⟨hm', hml⟩
        have HF : Hid (∀ i, i < m → GFCell w fg i (frs[i]?.getD zRF)) := hfcell
        have HFE : Hid (∀ (i : Nat) (r : RFd) (f : GFd), frs[i]? = some r → c.fs[i]? = some f → FRel w 0 r f) := hfs.el
        have hm6 : m ≤ 6 := by omega
        have HRL : Hid (r.l = c.l) := hrl
        clear hfs hfv hm' hml hfcell hfm hfc hrl hc6
        have BW : Below wo.heap.size wo ((wo.alloc (.cells #[.int .u8 r.l, .int .i64 r.p, .int .u8 r.fl, .int .i64 r.fp, .slice (some ⟨fg, 0, none⟩) m fcap] 64)).alloc (.cells #[.int .u8 r.l, .slice none 0 0] 74)) := ((Below.refl _ _).alloc (Nat.le_refl _) _).alloc (by simp) _
        go_wp2
        go_loopw [22] (fun i wi => ∃ (j : Nat) (fv : Value), j ≤ m ∧ i = .int .i64 j ∧ FVb wi (wo.heap.size + 2) fv ((c.fs.map schF).take j) ∧ wi.cell? ⟨wo.heap.size + 1, 0, none⟩ = some (.int .u8 r.l) ∧ wi.cell? ⟨wo.heap.size + 1, 1, none⟩ = some fv ∧ wi.frozen? ⟨wo.heap.size + 1, 1, none⟩ = false ∧ wo.heap.size + 2 ≤ wi.heap.size ∧ Below wo.heap.size wo wi) (fun i _ => m - (intOf i).toNat)
        case atStart => exact ⟨0, .slice none 0 0, Nat.zero_le _, rfl, World.ownsRow_nil _ _ _ _, by go_simp, by go_simp, by go_simp, by simp, BW⟩
        case round =>
          obtain ⟨j, fv, hj, rfl, F, d0, d1, df1, hszi, hbi⟩ := hrel
          have hpz : wo.heap.size + 1 < wr.heap.size := by omega
          have hfl : ((c.fs.map schF).take j).length = j := by rw [List.length_take, List.length_map, ← HM.out.2]; omega
          obtain ⟨fa, fc, hfv⟩ := F.shape
          rw [hfl] at hfv
          subst hfv
          have HFL : Hid (((c.fs.map schF).take j).length = j) := hfl
          have Fr : wr.ownsRow (wo.heap.size + 2) 76 2 (.slice fa j fc) j (flatF ((c.fs.map schF).take j)) := by
            have := F; unfold FVb at this; rw [hfl] at this; exact this
          clear hfl
          have hBw : Below w.heap.size w wr := hb.trans (hbi.mono hb.size)
          by_cases hjl : j < m
          · obtain ⟨fr, hfr⟩ : ∃ fr, fr = frs[j]?.getD zRF := ⟨_, rfl⟩
            have hfrk : frs[j]? = some fr := by rw [hfr]; exact getD_of (by rw [← HM.out.1]; exact hjl) zRF
            obtain ⟨f, hfk⟩ : ∃ f, c.fs[j]? = some f := ⟨_, List.getElem?_eq_getElem (by rw [← HM.out.2]; exact hjl)⟩
            have hfrel := HFE.out j fr f hfrk hfk
            obtain ⟨x0, x1, x2, x3, x4, x5⟩ := (HF.out j hjl).below hBw hfg
            rw [← hfr] at x0 x1 x2 x3 x4 x5
            have HST : Hid ((c.fs.map schF).take (j + 1) = (c.fs.map schF).take j ++ [(fr.l, fr.k)]) := by
              show _ = _; rw [take_step schF hfk, schF, hfrel.l, hfrel.k]
            clear hfr hfrk hfk hfrel
            go_wp2_with (at_builtin; refine wpList_append_own _ rfl _ _ 72 rfl (wo.heap.size + 2) 76 iF (.agg #[.int .u8 0, .int .u8 0]) 2 2 Tryd.underlying72 hiF hzF0 hzF1 hzF2 rfl (by decide) _ j (flatF ((c.fs.map schF).take j)) rfl ((Fr.alloc _).alloc _) ⟨wr.heap.size + 1, 0, none⟩ 1 1 [.int .u8 fr.l, .int .u8 fr.k] rfl rfl ?c1 ?c2 ?c3 ?c4 ?c5 ?_)
            case c1 => exact cell_pair _ _ _ _ _
            case c2 => intro u hu; simp at hu; rcases hu with rfl | rfl <;> rfl
            case c3 => unfold maxLen; omega
            case c4 => omega
            case c5 => simp; omega
            intro v' w5 hown hgr _
            have hg5 : wr.grownBy w5 (Value.ownBlock (.slice fa j fc)) := gb_trans (gb_trans (World.grownBy_alloc _ _ _) (World.grownBy_alloc _ _ _)) hgr
            have F5 : FVb w5 (wo.heap.size + 2) v' ((c.fs.map schF).take (j + 1)) := by
              unfold FVb; rw [HST.out, List.length_append, HFL.out, flatF_app]; exact hown
            obtain ⟨q0c, q0f, q0l⟩ := own_loc Fr hg5 (r := wo.heap.size + 1) (by omega) hpz
            have g0 : w5.cell? ⟨wo.heap.size + 1, 0, none⟩ = some (.int .u8 r.l) := by rw [q0c]; exact d0
            have g1 : w5.cell? ⟨wo.heap.size + 1, 1, none⟩ = some (.slice fa j fc) := by rw [q0c]; exact d1
            have gf1 : w5.frozen? ⟨wo.heap.size + 1, 1, none⟩ = false := by rw [q0f]; exact df1
            have hs5 : wo.heap.size + 2 ≤ w5.heap.size := Nat.le_trans hszi hg5.size
            have B5 : Below wo.heap.size wo w5 := hbi.grown hg5 (by omega) (fun x hx => by have := (World.ownsRow.lt Fr x hx).1; omega)
            obtain ⟨fa', fc', hv'⟩ := F5.shape
            have hl1 : ((c.fs.map schF).take (j + 1)).length = j + 1 := by rw [List.length_take, List.length_map, ← HM.out.2]; omega
            rw [hl1] at hv'
            subst hv'
            have F6 := F5.set0 (p := wo.heap.size + 1) (o := 1) (u := .slice fa' (j + 1) fc') (by omega)
            have B6 : Below wo.heap.size wo (w5.setCell ⟨wo.heap.size + 1, 1, none⟩ (.slice fa' (j + 1) fc')) := B5.setCell (by show _ ≤ wo.heap.size + 1; omega) _
            clear hown hgr hg5 F5 F Fr q0c q0f hl1
            go_wp2
            refine ⟨⟨j + 1, _, by omega, rfl, F6, ?_, ?_, ?_, ?_, B6⟩, by simp [intOf]; omega⟩
            · go_simp
            · go_simp
            · go_simp
            · simpa using hs5
          · obtain rfl : j = m := by omega
            have hfs : (c.fs.map schF).take j = c.fs.map schF := List.take_of_length_le (by rw [List.length_map, ← HM.out.2]; omega)
            have HS : Hid ((cs.map schC).take (k + 1) = (cs.map schC).take k ++ [(r.l, c.fs.map schF)]) := by
              show _ = _; rw [take_step schC HK.out.1, schC, HRL.out]
            rw [hfs] at F
            have F1 : FVb wr (w.heap.size + 2) (SV.val ⟨fa, j, fc⟩) (c.fs.map schF) := F.mono (by omega)
            have V1 := V.below hbi
            have V1r := V1.row
            rw [HVK.out] at V1r
            have e0 : wr.cell? ⟨w.heap.size, 0, none⟩ = some (.slice none 0 0) := (hbi.cell (by exact hsz0)).trans r0
            have e1 : wr.cell? ⟨w.heap.size + 1, 0, none⟩ = some (.slice va k vc) := (hbi.cell (by exact hsz1)).trans r1
            have ef0 : wr.frozen? ⟨w.heap.size, 0, none⟩ = false := (hbi.frozen (by exact hsz0)).trans rf0
            have ef1 : wr.frozen? ⟨w.heap.size + 1, 0, none⟩ = false := (hbi.frozen (by exact hsz1)).trans rf1
            have hW0 : w.heap.size < wr.heap.size := by omega
            have hW1 : w.heap.size + 1 < wr.heap.size := by omega
            clear F Fr hfs
            go_wp2_with (at_builtin; refine wpList_append_own _ rfl _ _ 31 rfl (w.heap.size + 2) 74 iC (.agg #[.int .u8 0, .slice none 0 0]) 2 32 Tryd.underlying31 hiC hzC0 hzC1 hzC2 rfl (by decide) _ k (flatC vs) rfl (V1r.alloc _) ⟨wr.heap.size, 0, none⟩ 1 1 [.int .u8 r.l, .slice fa j fc] rfl rfl ?c1 ?c2 ?c3 ?c4 ?c5 ?_)
            case c1 => exact cell_pair1 _ _ _ _
            case c2 => intro u hu; simp at hu; rcases hu with rfl | rfl <;> rfl
            case c3 => unfold maxLen; omega
            case c4 => omega
            case c5 => simp; omega
            intro v' w4 hown hgr _
            rw [← HVK.out] at hown
            have hg4 : wr.grownBy w4 (Value.ownBlock (.slice va k vc)) := gb_trans (World.grownBy_alloc _ _ _) hgr
            have V4' := V1.app (sv := ⟨fa, j, fc⟩) F1 hown hg4
            rw [← HS.out] at V4'
            obtain ⟨q0c, q0f, q0l⟩ := own_loc V1r hg4 (r := w.heap.size) (by omega) hW0
            obtain ⟨q1c, q1f, q1l⟩ := own_loc V1r hg4 (r := w.heap.size + 1) (by omega) hW1
            have g0 : w4.cell? ⟨w.heap.size, 0, none⟩ = some (.slice none 0 0) := by rw [q0c]; exact e0
            have g1 : w4.cell? ⟨w.heap.size + 1, 0, none⟩ = some (.slice va k vc) := by rw [q1c]; exact e1
            have gf0 : w4.frozen? ⟨w.heap.size, 0, none⟩ = false := by rw [q0f]; exact ef0
            have gf1 : w4.frozen? ⟨w.heap.size + 1, 0, none⟩ = false := by rw [q1f]; exact ef1
            have hs4 : w.heap.size + 2 ≤ w4.heap.size := by omega
            have B4 : Below w.heap.size w w4 := (hb.trans (hbi.mono hb.size)).grown hg4 (by omega) (fun x hx => by have := (World.ownsRow.lt V1r x hx).1; omega)
            obtain ⟨va', vc', hv'⟩ := V4'.shape
            have hl1 : ((cs.map schC).take (k + 1)).length = k + 1 := by rw [List.length_take, List.length_map, ← HN.out.2]; omega
            rw [hl1] at hv'
            subst hv'
            have V5 := V4'.kept (gb_set w4 (w.heap.size + 1) 0 (.slice va' (k + 1) vc')) (by omega)
            have B5 : Below w.heap.size w (w4.setCell ⟨w.heap.size + 1, 0, none⟩ (.slice va' (k + 1) vc')) := B4.setCell (by show _ ≤ w.heap.size + 1; omega) _
            clear hown hgr hg4 V4' V1 V1r F1 q0c q0f q1c q1f hl1
            go_wp2
            refine ⟨⟨k + 1, _, _, by omega, rfl, V5, ?_, ?_, ?_, ?_, ?_, B5⟩, by simp [intOf]; omega⟩
            · go_simp
            · go_simp
            · go_simp
            · go_simp
            · simpa using hs4
    · obtain rfl : k = n := by omega
      have hfull : (cs.map schC).take k = cs.map schC := List.take_of_length_le (by rw [List.length_map, ← HN.out.2]; omega)
      rw [hfull] at V
      have hsz0 : w.heap.size < wo.heap.size := by omega
      go_wp2
      refine bodyPost_ret (v := .agg #[.slice va k vc]) (by simp [results, Tryd.results17, go_sem, r0]) rfl ⟨_, _, _, vs, rfl, ?_, ?_⟩
      · exact (V.kept (gb_set _ _ _ _) (by omega)).mono (by omega)
      · exact hb.setCell (Nat.le_refl _) _
end Go.Proofs.YtmikmnchaeblpaaDoor
