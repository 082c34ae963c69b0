import Derived.Test.YtbgilndohccicabMz30
import Derived.Test.YtbgilndohccicabMz02
namespace Go.Proofs.Ytbgilndohccicab
open Go.RowKit

theorem sourceTwice_any {a : Option Addr} {sn ks : Nat} {vs : List (Int × SV)} {base : Nat} {v : Value} {rs : List RCd} {cs : List GCd} {w : World} (hv : CV w (.slice a sn ks) vs) (h : GCs w base v rs cs) :
    Calls Try.prog 82 #[.agg #[.slice a sn ks], v] w fun e w' => e = .returned (.int .i64 (stw vs [] cs)) ∧ Below w.heap.size w w' := by
  rcases h.cells with ⟨rfl, hr⟩ | ⟨g, cap, rfl, hg, hcap, hm, hc⟩
  · have : cs = [] := by have := h.len; rw [hr] at this; exact List.length_eq_zero_iff.1 this.symm
    subst this
    exact sourceTwice_nil a sn ks vs w
  · exact sourceTwice_row a sn ks vs g cap rs cs w hv hg (by unfold maxLen at hm; omega) hcap h.len hc (fun i r c h1 h2 => (h.el i r c h1 h2).mono (Nat.zero_le _))
/-- findTwice. -/
def fTw (vs : List (Int × SV)) (cs : List GCd) : Int := if gTwice cs = -1 ∨ (stw vs [] cs ≠ -1 ∧ stw vs [] cs < gTwice cs) then stw vs [] cs else gTwice cs
set_option maxHeartbeats 400000 in
theorem findTwice_any {a : Option Addr} {sn ks : Nat} {vs : List (Int × SV)} {base : Nat} {va : Option Addr} {vn vc : Nat} {rs : List RCd} {cs : List GCd} {w : World} (hv : CV w (.slice a sn ks) vs) (h : GCs w base (.slice va vn vc) rs cs) :
    Calls Try.prog 68 #[.agg #[.slice a sn ks], .slice va vn vc] w fun e w' => e = .returned (.int .i64 (fTw vs cs)) ∧ Below w.heap.size w w' := by
  have B0 : Below w.heap.size w (w.alloc (.cells #[.slice a sn ks] 72)) := (Below.refl _ _).alloc (Nat.le_refl _) _
  have C1 := gtwice_any (h.below B0)
  have HV : Hid (CV w (.slice a sn ks) vs) := hv
  have HG : Hid (GCs w base (.slice va vn vc) rs cs) := h
  obtain ⟨R, hR⟩ : ∃ R, R = fTw vs cs := ⟨_, rfl⟩
  rw [← hR]
  unfold fTw at hR
  have C2 := fun W (hW : Below w.heap.size w W) => sourceTwice_any (HV.out.below hW) (HG.out.below hW)
  generalize gTwice cs = x at C1 hR
  generalize stw vs [] cs = y at C2 hR
  have HR : Hid (R = if x = -1 ∨ (y ≠ -1 ∧ y < x) then y else x) := hR
  clear hR hv h
  go_enter Try.func68, Try.ntmps68
  go_wp2_with fail
  refine C1.mono ?_
  rintro e w1 ⟨rfl, B1⟩
  have B2 : Below w.heap.size w w1 := B0.trans (B1.mono B0.size)
  have q0 : w1.cell? ⟨w.heap.size, 0, none⟩ = some (.slice a sn ks) := (B1.cell (p := ⟨w.heap.size, 0, none⟩) (by simp)).trans (by go_simp)
  have D := C2 w1 B2
  clear C1 C2 B1
  go_wp2_with fail
  refine D.mono ?_
  rintro e w2 ⟨rfl, B3⟩
  have HB : Hid (Below w.heap.size w w2) := B2.trans (B3.mono B2.size)
  clear D B3 B2 B0 q0
  by_cases h1 : x = -1
  · have e1 : (x == -1) = true := by simpa using h1
    have HE : Hid (R = y) := by show R = _; rw [HR.out, if_pos (.inl h1)]
    clear h1
    go_wp2
    go_ret
    rw [HE.out]
    exact ⟨rfl, HB.out⟩
  · have e1 : (x == -1) = false := by simpa using h1
    by_cases h2 : y = -1
    · have e2 : (y != -1) = false := by simp [h2]
      have HE : Hid (R = x) := by show R = _; rw [HR.out, if_neg (by rintro (h | ⟨h, _⟩); exact h1 h; exact h h2)]
      clear h1 h2
      go_wp2
      go_ret
      rw [HE.out]
      exact ⟨rfl, HB.out⟩
    · have e2 : (y != -1) = true := by simp [h2]
      by_cases h3 : y < x
      · have HE : Hid (R = y) := by show R = _; rw [HR.out, if_pos (.inr ⟨h2, h3⟩)]
        clear h1 h2
        go_wp2
        go_ret
        rw [HE.out]
        exact ⟨rfl, HB.out⟩
      · have HE : Hid (R = x) := by show R = _; rw [HR.out, if_neg (by rintro (h | ⟨_, h⟩); exact h1 h; exact h3 h)]
        clear h1 h2
        go_wp2
        go_ret
        rw [HE.out]
        exact ⟨rfl, HB.out⟩
theorem find_pairU {α β : Type} (za : Int × α) (zb : Int × β) (x : Int) (P : α → β → Prop) (hz : P za.2 zb.2) : ∀ (vs : List (Int × α)) (cs : List (Int × β)), vs.map (·.1) = cs.map (·.1) →
    (∀ (i : Nat) p c, vs[i]? = some p → cs[i]? = some c → P p.2 c.2) → P ((vs.find? (fun p => p.1 == x)).getD za).2 ((cs.find? (fun p => p.1 == x)).getD zb).2 := by
  intro vs
  induction vs with
  | nil => intro cs h _; cases cs with
    | nil => exact hz
    | cons c cs => simp at h
  | cons p vs ih => intro cs h hP; cases cs with
    | nil => simp at h
    | cons c cs =>
      simp only [List.map_cons, List.cons.injEq] at h
      rw [List.find?_cons, List.find?_cons, ← h.1]
      cases p.1 == x with
      | true => exact hP 0 p c rfl rfl
      | false => exact ih cs h.2 fun i p' c' h1 h2 => hP (i + 1) p' c' (by simpa using h1) (by simpa using h2)
theorem Cls.fofV {w : World} {base : Nat} {v : Value} {vs : List (Int × SV)} {cs : Sch} (h : Cls w base v vs cs) (x : Int) : FV w (findC vs x).2.val (fof cs x) :=
  find_pairU noC (0, []) x (fun a b => FV w a.val b) (FV.nil w) vs cs h.ls (fun i p c h1 h2 => (h.fld i p c h1 h2).fv)
/-- The first fault among fields; among classes. -/
def gFlds (fs : List (Int × Int)) : List GFd → Int × Int
  | [] => (0, 0)
  | f :: r => if (fFld fs f).1 ≠ 0 then fFld fs f else gFlds fs r
def gFault (vs : List (Int × SV)) (os : Sch) : List GCd → Int × Int
  | [] => (0, 0)
  | c :: r => if c.fl ≠ 0 ∧ hasC vs (srcI vs c.l c.fl) = false then (4, c.fp)
    else if (gFlds (fof os (srcI vs c.l c.fl)) c.fs).1 ≠ 0 then gFlds (fof os (srcI vs c.l c.fl)) c.fs else gFault vs os r
set_option maxHeartbeats 400000 in
theorem findFault_nil (a : Option Addr) (n ks : Nat) (vs : List (Int × SV)) (os : Sch) (w : World) :
    Calls Try.prog 69 #[.agg #[.slice a n ks], .slice none 0 0] w (FN2 (gFault vs os []) w) := by
  go_enter Try.func69, Try.ntmps69
  go_wp2
  refine wp_loop_rounds 1 ?_; rw [rounds_succ]
  go_wp2
  go_ret2
  exact ⟨rfl, (Below.refl _ _).alloc (Nat.le_refl _) _⟩
set_option maxHeartbeats 2000000 in
set_option maxRecDepth 20000 in
theorem findFault_row (a : Option Addr) (sn ks : Nat) (vs : List (Int × SV)) (os : Sch) (ob : Nat) (g cap : Nat) (rs : List RCd) (cs : List GCd) (w : World) (hv : Cls w ob (.slice a sn ks) vs os) (hg : g < w.heap.size) (hm : rs.length ≤ 9223372036854775807) (hlen : rs.length = cs.length)
    (hc : ∀ i, i < rs.length → CCell w g i (rs[i]?.getD zR)) (hel : ∀ (i : Nat) (r : RCd) (c : GCd), rs[i]? = some r → cs[i]? = some c → CRel w 0 r c) :
    Calls Try.prog 69 #[.agg #[.slice a sn ks], .slice (some ⟨g, 0, none⟩) rs.length cap] w (FN2 (gFault vs os cs) w) := by
  obtain ⟨n, hn⟩ : ∃ n, n = rs.length := ⟨_, rfl⟩
  rw [← hn] at hm hc hlen ⊢
  have HN : Hid (n = rs.length ∧ n = cs.length) := ⟨hn, hlen⟩
  have HE : Hid (∀ (i : Nat) (r : RCd) (c : GCd), rs[i]? = some r → cs[i]? = some c → CRel w 0 r c) := hel
  have HC : Hid (∀ i, i < n → CCell w g i (rs[i]?.getD zR)) := hc
  have HV : Hid (Cls w ob (.slice a sn ks) vs os) := hv
  obtain ⟨R, hR⟩ : ∃ R, R = gFault vs os cs := ⟨_, rfl⟩
  rw [← hR]
  have HR : Hid (R = gFault vs os cs) := hR
  unfold FN2
  clear hn hlen hel hc hv hR
  go_enter Try.func69, Try.ntmps69
  go_wp2
  go_loopw [17] (fun i wr => ∃ k : Nat, k ≤ n ∧ i = .int .i64 k ∧ Hid (R = gFault vs os (cs.drop k)) ∧ Below (w.heap.size + 1) (w.alloc (.cells #[.slice a sn ks] 72)) wr) (fun i _ => n - (intOf i).toNat)
  case atStart => exact ⟨0, Nat.zero_le _, rfl, HR.out, Below.refl _ _⟩
  case round =>
    obtain ⟨k, hk, rfl, HT, hb⟩ := hrel
    have hsz : w.heap.size + 1 ≤ wr.heap.size := by have := hb.size; simpa using this
    have hB : Below w.heap.size w wr := ((Below.refl _ _).alloc (Nat.le_refl _) _).trans (hb.mono (by omega))
    have r0 : wr.cell? ⟨w.heap.size, 0, none⟩ = some (.slice a sn ks) := (hb.cell (p := ⟨w.heap.size, 0, none⟩) (by show w.heap.size < _; omega)).trans (by go_simp)
    have hws : w.heap.size < wr.heap.size := by omega
    by_cases hlt : k < n
    · obtain ⟨r, hr⟩ : ∃ r, r = rs[k]?.getD zR := ⟨_, rfl⟩
      have hrk : rs[k]? = some r := by rw [hr]; exact getD_of (by rw [← HN.out.1]; exact hlt) zR
      obtain ⟨c, hck⟩ : ∃ c, cs[k]? = some c := ⟨_, List.getElem?_eq_getElem (by rw [← HN.out.2]; exact hlt)⟩
      have hrel := HE.out k r c hrk hck
      obtain ⟨c0, c1, c2, c3, c4⟩ := (HC.out k hlt).below hB hg
      rw [← hr] at c0 c1 c2 c3 c4
      have hgr : g < wr.heap.size := by omega
      have hst := HT.out
      rw [drop_cons hck, gFault, ← hrel.l, ← hrel.fl, ← hrel.fp] at hst
      obtain ⟨x, hx⟩ : ∃ x, srcI vs r.l r.fl = x := ⟨_, rfl⟩
      rw [hx] at hst
      obtain ⟨y, hy⟩ : ∃ y, hasC vs x = y := ⟨_, rfl⟩
      rw [hy] at hst
      have HX : Hid (srcI vs r.l r.fl = x) := hx
      have HY : Hid (hasC vs x = y) := hy
      obtain ⟨Fs, hFs⟩ : ∃ Fs, Fs = fof os x := ⟨_, rfl⟩
      rw [← hFs] at hst
      have HFs : Hid (Fs = fof os x) := hFs
      obtain ⟨Q, hQ⟩ : ∃ Q, Q = gFlds Fs c.fs := ⟨_, rfl⟩
      rw [← hQ] at hst
      have HQ : Hid (Q = gFlds Fs c.fs) := hQ
      have HS : Hid (R = if r.fl ≠ 0 ∧ y = false then (4, r.fp) else if Q.1 ≠ 0 then Q else gFault vs os (cs.drop (k + 1))) := hst
      have HFS : Hid (∃ frs, GFs w 0 (.slice r.f.a r.f.n r.f.c) frs c.fs) := hrel.fs
      have hBa : Below w.heap.size w (wr.alloc (.cells #[.int .u8 r.l, .int .i64 r.p, .int .u8 r.fl, .int .i64 r.fp, .slice r.f.a r.f.n r.f.c] 156)) := hB.alloc (by omega) _
      have C := sourceLetter_any a sn ks vs r _ (HV.out.cv.below hBa)
      unfold rcA at C
      rw [HX.out] at C
      clear hr hrk hck hrel hst HT hx hy hFs hQ
      go_wp2_with fail
      refine C.mono ?_
      rintro e w1 ⟨rfl, B1⟩
      have q0 : w1.cell? ⟨w.heap.size, 0, none⟩ = some (.slice a sn ks) := (B1.cell (p := ⟨w.heap.size, 0, none⟩) (by simp; omega)).trans (by go_simp)
      have q2 : w1.cell? ⟨wr.heap.size, 2, none⟩ = some (.int .u8 r.fl) := (B1.cell (p := ⟨wr.heap.size, 2, none⟩) (by simp)).trans (by go_simp)
      have q3 : w1.cell? ⟨wr.heap.size, 3, none⟩ = some (.int .i64 r.fp) := (B1.cell (p := ⟨wr.heap.size, 3, none⟩) (by simp)).trans (by go_simp)
      have q4 : w1.cell? ⟨wr.heap.size, 4, none⟩ = some (.slice r.f.a r.f.n r.f.c) := (B1.cell (p := ⟨wr.heap.size, 4, none⟩) (by simp)).trans (by go_simp)
      have hs1 : wr.heap.size < w1.heap.size := by have := B1.size; simp at this; omega
      have BB : Below (w.heap.size + 1) (w.alloc (.cells #[.slice a sn ks] 72)) w1 := (hb.alloc hsz _).trans (B1.mono (by simp; omega))
      have BW : Below w.heap.size w w1 := hBa.trans (B1.mono (by simp; omega))
      have HFV := HV.out.fofV x
      rw [← HFs.out] at HFV
      obtain ⟨fl, fa, fn, fc, hf⟩ : ∃ fl fa fn fc, findC vs x = (fl, ⟨fa, fn, fc⟩) := ⟨_, _, _, _, rfl⟩
      have C2 := find_rs (x := x) (HV.out.cv.below BW) y HY.out
      rw [hf] at C2 HFV
      simp only [SV.val] at HFV
      have HFVH : Hid (FV w (.slice fa fn fc) Fs) := HFV
      clear C B1 r0 c0 c1 c2 c3 c4 hBa HFV hf hb
      go_wp2_with fail
      refine C2.mono ?_
      rintro e w2 ⟨rfl, B2⟩
      have p2 : w2.cell? ⟨wr.heap.size, 2, none⟩ = some (.int .u8 r.fl) := (B2.cell (p := ⟨wr.heap.size, 2, none⟩) hs1).trans q2
      have p3 : w2.cell? ⟨wr.heap.size, 3, none⟩ = some (.int .i64 r.fp) := (B2.cell (p := ⟨wr.heap.size, 3, none⟩) hs1).trans q3
      have p4 : w2.cell? ⟨wr.heap.size, 4, none⟩ = some (.slice r.f.a r.f.n r.f.c) := (B2.cell (p := ⟨wr.heap.size, 4, none⟩) hs1).trans q4
      have hs2 : wr.heap.size < w2.heap.size := Nat.lt_of_lt_of_le hs1 B2.size
      have BB2 : Below (w.heap.size + 1) (w.alloc (.cells #[.slice a sn ks] 72)) (w2.alloc (.cells #[.int .u8 fl, .slice fa fn fc] 88)) := (BB.trans (B2.mono (by omega))).alloc (by omega) _
      have BW2 : Below w.heap.size w (w2.alloc (.cells #[.int .u8 fl, .slice fa fn fc] 88)) := (BW.trans (B2.mono BW.size)).alloc (by omega) _
      clear q0 q2 q3 q4 C2 B2 BB BW
      by_cases h4 : r.fl ≠ 0 ∧ y = false
      · have HE4 : Hid (R = (4, r.fp)) := by show R = _; rw [HS.out, if_pos h4]
        obtain ⟨h4a, rfl⟩ := h4
        have e4 : (r.fl != 0) = true := by simp [h4a]
        clear h4a
        go_wp2
        go_quiet (fail)
        go_wp2
        go_ret2
        rw [HE4.out]
        exact ⟨rfl, BW2.trans ((gb_below_drew _ _).mono BW2.size)⟩
      have HS2 : Hid (R = if Q.1 ≠ 0 then Q else gFault vs os (cs.drop (k + 1))) := by show R = _; rw [HS.out, if_neg h4]
      have h5 : (r.fl != 0) = false ∨ ((r.fl != 0) = true ∧ y = true) := by
        by_cases hz : r.fl = 0
        · left; simp [hz]
        · right; refine ⟨by simp [hz], ?_⟩
          cases y with
          | true => rfl
          | false => exact absurd ⟨hz, rfl⟩ h4
      clear h4
      obtain ⟨frs, hfs⟩ := HFS.out
      rcases hfs.cells with ⟨hnil, hfr⟩ | ⟨fg, fcap, hfv, hfg, hfc, hfm, hfcell⟩
      · have hfs0 : c.fs = [] := by have := hfs.len; rw [hfr] at this; exact List.length_eq_zero_iff.1 this.symm
        have HN' : Hid (R = gFault vs os (cs.drop (k + 1))) := by
          show R = _
          rw [HS2.out, if_neg (by rw [HQ.out, hfs0]; simp [gFlds])]
        rw [hnil] at p4
        clear hfs hfr hfs0
        rcases h5 with h5 | ⟨h5, rfl⟩
        · go_wp2
          refine wp_loop_rounds 1 ?_; rw [rounds_succ]
          go_wp2
          exact ⟨⟨k + 1, by omega, rfl, HN', BB2⟩, by simp [intOf]; omega⟩
        · go_wp2
          refine wp_loop_rounds 1 ?_; rw [rounds_succ]
          go_wp2
          exact ⟨⟨k + 1, by omega, rfl, HN', BB2⟩, by simp [intOf]; omega⟩
      · rw [hfv] at p4
        obtain ⟨m, hm'⟩ : ∃ m, m = frs.length := ⟨_, rfl⟩
        have hml : m = c.fs.length := hm'.trans hfs.len
        rw [← hm'] at p4 hfc hfm hfcell
        have HM : Hid (m = frs.length ∧ m = c.fs.length) := ⟨hm', hml⟩
        have HF : Hid (∀ i, i < m → GFCell w fg i (frs[i]?.getD zRF)) := hfcell
        have HFE : Hid (∀ (i : Nat) (r : RFd) (f : GFd), frs[i]? = some r → c.fs[i]? = some f → FRel w 0 r f) := hfs.el
        have hmx : m ≤ 9223372036854775807 := by unfold maxLen at hfm; omega
        obtain ⟨W2, hW2⟩ : ∃ W2, W2 = w2.alloc (.cells #[.int .u8 fl, .slice fa fn fc] 88) := ⟨_, rfl⟩
        have z2 : W2.heap.size = w2.heap.size + 1 := by rw [hW2]; simp
        have y0 : W2.cell? ⟨w2.heap.size, 0, none⟩ = some (.int .u8 fl) := by rw [hW2]; go_simp
        have y1 : W2.cell? ⟨w2.heap.size, 1, none⟩ = some (.slice fa fn fc) := by rw [hW2]; go_simp
        have BB2' : Below (w.heap.size + 1) (w.alloc (.cells #[.slice a sn ks] 72)) W2 := by rw [hW2]; exact BB2
        have BW2' : Below w.heap.size w W2 := by rw [hW2]; exact BW2
        obtain ⟨pb, hpb⟩ : ∃ pb, pb = wr.heap.size := ⟨_, rfl⟩
        rw [← hpb] at hs2 p2 p3 p4 ⊢
        clear hfs hfv hm' hml hfcell hfm hpb hsz hws hgr hs1 BB2 BW2 hB
        rcases h5 with h5 | ⟨h5, rfl⟩
        · go_wp2
          rw [← hW2]
          clear hW2
          go_loopw [44] (fun i wi => ∃ j : Nat, j ≤ m ∧ i = .int .i64 j ∧ Hid (Q = gFlds Fs (c.fs.drop j)) ∧ Below W2.heap.size W2 wi) (fun i _ => m - (intOf i).toNat)
          case atStart => exact ⟨0, Nat.zero_le _, rfl, HQ.out, Below.refl _ _⟩
          case round =>
            obtain ⟨j, hj, rfl, HTF, hbi⟩ := hrel
            have hisz := hbi.size
            have hBw : Below w.heap.size w wr := BW2'.trans (hbi.mono BW2'.size)
            have v0 : wr.cell? ⟨w2.heap.size, 0, none⟩ = some (.int .u8 fl) := (hbi.cell (p := ⟨w2.heap.size, 0, none⟩) (by show w2.heap.size < _; omega)).trans y0
            have v1 : wr.cell? ⟨w2.heap.size, 1, none⟩ = some (.slice fa fn fc) := (hbi.cell (p := ⟨w2.heap.size, 1, none⟩) (by show w2.heap.size < _; omega)).trans y1
            have hw2 : w2.heap.size < wr.heap.size := by omega
            by_cases hjl : j < m
            · obtain ⟨fr, hfr⟩ : ∃ fr, fr = frs[j]?.getD zRF := ⟨_, rfl⟩
              have hfrk : frs[j]? = some fr := by rw [hfr]; exact getD_of (by rw [← HM.out.1]; exact hjl) zRF
              obtain ⟨f, hfk⟩ : ∃ f, c.fs[j]? = some f := ⟨_, List.getElem?_eq_getElem (by rw [← HM.out.2]; exact hjl)⟩
              have hfrel := HFE.out j fr f hfrk hfk
              obtain ⟨d0, d1, d2, d3, d4, d5⟩ := (HF.out j hjl).below hBw hfg
              rw [← hfr] at d0 d1 d2 d3 d4 d5
              have hfgr : fg < wr.heap.size := by have := hBw.size; omega
              have hBf : Below w.heap.size w (wr.alloc (.cells #[.int .u8 fr.l, .int .i64 fr.p, .int .u8 fr.k, .slice fr.t.a fr.t.n fr.t.c, .int .i64 fr.sp, .bool fr.ex] 162)) := hBw.alloc hBw.size _
              have hrel2 : FRel (wr.alloc (.cells #[.int .u8 fr.l, .int .i64 fr.p, .int .u8 fr.k, .slice fr.t.a fr.t.n fr.t.c, .int .i64 fr.sp, .bool fr.ex] 162)) 0 fr f := ⟨hfrel.l, hfrel.p, hfrel.k, hfrel.sp, hfrel.ex, hfrel.ts.below' hBf⟩
              have CF := faultOfField_any fl fa fn fc Fs fr f 0 _ (HFVH.out.below hBf) hrel2
              have hst := HTF.out
              rw [drop_cons hfk, gFlds] at hst
              generalize fFld Fs f = E at CF hst
              obtain ⟨E1, E2⟩ := E
              unfold FN2 at CF
              simp only [] at CF hst
              have HST : Hid (Q = if E1 ≠ 0 then (E1, E2) else gFlds Fs (c.fs.drop (j + 1))) := hst
              clear hfr hfrk hfk hfrel hst hrel2 HTF
              go_wp2_with fail
              refine CF.mono ?_
              rintro e w3 ⟨rfl, B3⟩
              have BB3 : Below W2.heap.size W2 w3 := (hbi.alloc hisz _).trans (B3.mono (by simp; omega))
              have BW3 : Below w.heap.size w w3 := hBf.trans (B3.mono hBf.size)
              clear CF B3 hBf
              by_cases hE : E1 = 0
              · have e1 : (E1 != 0) = false := by simp [hE]
                have HQ2 : Hid (Q = gFlds Fs (c.fs.drop (j + 1))) := by show Q = _; rw [HST.out, if_neg (by simpa using hE)]
                clear hE
                go_wp2
                exact ⟨⟨j + 1, by omega, rfl, HQ2, BB3⟩, by simp [intOf]; omega⟩
              · have e1 : (E1 != 0) = true := by simp [hE]
                have HQ2 : Hid (R = (E1, E2)) := by
                  show R = _
                  have hq : Q = (E1, E2) := by rw [HST.out, if_pos hE]
                  rw [HS2.out, hq, if_pos hE]
                clear hE
                go_wp2
                go_ret2
                rw [HQ2.out]
                exact ⟨rfl, BW3⟩
            · have HN' : Hid (R = gFault vs os (cs.drop (k + 1))) := by
                show R = _
                have hq : Q = (0, 0) := by rw [HTF.out, List.drop_eq_nil_of_le (by rw [← HM.out.2]; omega)]; rfl
                rw [HS2.out, hq, if_neg (by simp)]
              go_wp2
              exact ⟨⟨k + 1, by omega, rfl, HN', BB2'.trans (hbi.mono (by have := BB2'.size; simp at this; omega))⟩, by simp [intOf]; omega⟩
        · go_wp2
          rw [← hW2]
          clear hW2
          go_loopw [44] (fun i wi => ∃ j : Nat, j ≤ m ∧ i = .int .i64 j ∧ Hid (Q = gFlds Fs (c.fs.drop j)) ∧ Below W2.heap.size W2 wi) (fun i _ => m - (intOf i).toNat)
          case atStart => exact ⟨0, Nat.zero_le _, rfl, HQ.out, Below.refl _ _⟩
          case round =>
            obtain ⟨j, hj, rfl, HTF, hbi⟩ := hrel
            have hisz := hbi.size
            have hBw : Below w.heap.size w wr := BW2'.trans (hbi.mono BW2'.size)
            have v0 : wr.cell? ⟨w2.heap.size, 0, none⟩ = some (.int .u8 fl) := (hbi.cell (p := ⟨w2.heap.size, 0, none⟩) (by show w2.heap.size < _; omega)).trans y0
            have v1 : wr.cell? ⟨w2.heap.size, 1, none⟩ = some (.slice fa fn fc) := (hbi.cell (p := ⟨w2.heap.size, 1, none⟩) (by show w2.heap.size < _; omega)).trans y1
            have hw2 : w2.heap.size < wr.heap.size := by omega
            by_cases hjl : j < m
            · obtain ⟨fr, hfr⟩ : ∃ fr, fr = frs[j]?.getD zRF := ⟨_, rfl⟩
              have hfrk : frs[j]? = some fr := by rw [hfr]; exact getD_of (by rw [← HM.out.1]; exact hjl) zRF
              obtain ⟨f, hfk⟩ : ∃ f, c.fs[j]? = some f := ⟨_, List.getElem?_eq_getElem (by rw [← HM.out.2]; exact hjl)⟩
              have hfrel := HFE.out j fr f hfrk hfk
              obtain ⟨d0, d1, d2, d3, d4, d5⟩ := (HF.out j hjl).below hBw hfg
              rw [← hfr] at d0 d1 d2 d3 d4 d5
              have hfgr : fg < wr.heap.size := by have := hBw.size; omega
              have hBf : Below w.heap.size w (wr.alloc (.cells #[.int .u8 fr.l, .int .i64 fr.p, .int .u8 fr.k, .slice fr.t.a fr.t.n fr.t.c, .int .i64 fr.sp, .bool fr.ex] 162)) := hBw.alloc hBw.size _
              have hrel2 : FRel (wr.alloc (.cells #[.int .u8 fr.l, .int .i64 fr.p, .int .u8 fr.k, .slice fr.t.a fr.t.n fr.t.c, .int .i64 fr.sp, .bool fr.ex] 162)) 0 fr f := ⟨hfrel.l, hfrel.p, hfrel.k, hfrel.sp, hfrel.ex, hfrel.ts.below' hBf⟩
              have CF := faultOfField_any fl fa fn fc Fs fr f 0 _ (HFVH.out.below hBf) hrel2
              have hst := HTF.out
              rw [drop_cons hfk, gFlds] at hst
              generalize fFld Fs f = E at CF hst
              obtain ⟨E1, E2⟩ := E
              unfold FN2 at CF
              simp only [] at CF hst
              have HST : Hid (Q = if E1 ≠ 0 then (E1, E2) else gFlds Fs (c.fs.drop (j + 1))) := hst
              clear hfr hfrk hfk hfrel hst hrel2 HTF
              go_wp2_with fail
              refine CF.mono ?_
              rintro e w3 ⟨rfl, B3⟩
              have BB3 : Below W2.heap.size W2 w3 := (hbi.alloc hisz _).trans (B3.mono (by simp; omega))
              have BW3 : Below w.heap.size w w3 := hBf.trans (B3.mono hBf.size)
              clear CF B3 hBf
              by_cases hE : E1 = 0
              · have e1 : (E1 != 0) = false := by simp [hE]
                have HQ2 : Hid (Q = gFlds Fs (c.fs.drop (j + 1))) := by show Q = _; rw [HST.out, if_neg (by simpa using hE)]
                clear hE
                go_wp2
                exact ⟨⟨j + 1, by omega, rfl, HQ2, BB3⟩, by simp [intOf]; omega⟩
              · have e1 : (E1 != 0) = true := by simp [hE]
                have HQ2 : Hid (R = (E1, E2)) := by
                  show R = _
                  have hq : Q = (E1, E2) := by rw [HST.out, if_pos hE]
                  rw [HS2.out, hq, if_pos hE]
                clear hE
                go_wp2
                go_ret2
                rw [HQ2.out]
                exact ⟨rfl, BW3⟩
            · have HN' : Hid (R = gFault vs os (cs.drop (k + 1))) := by
                show R = _
                have hq : Q = (0, 0) := by rw [HTF.out, List.drop_eq_nil_of_le (by rw [← HM.out.2]; omega)]; rfl
                rw [HS2.out, hq, if_neg (by simp)]
              go_wp2
              exact ⟨⟨k + 1, by omega, rfl, HN', BB2'.trans (hbi.mono (by have := BB2'.size; simp at this; omega))⟩, by simp [intOf]; omega⟩
    · have HP : Hid (R = (0, 0)) := by show R = _; rw [HT.out, List.drop_eq_nil_of_le (by rw [← HN.out.2]; omega)]; rfl
      go_wp2
      go_ret2
      rw [HP.out]
      exact ⟨rfl, hB⟩
theorem findFault_any {a : Option Addr} {sn ks : Nat} {vs : List (Int × SV)} {os : Sch} {ob base : Nat} {v : Value} {rs : List RCd} {cs : List GCd} {w : World} (hv : Cls w ob (.slice a sn ks) vs os) (h : GCs w base v rs cs) :
    Calls Try.prog 69 #[.agg #[.slice a sn ks], v] w (FN2 (gFault vs os cs) w) := by
  rcases h.cells with ⟨rfl, hr⟩ | ⟨g, cap, rfl, hg, hcap, hm, hc⟩
  · have : cs = [] := by have := h.len; rw [hr] at this; exact List.length_eq_zero_iff.1 this.symm
    subst this
    exact findFault_nil a sn ks vs os w
  · exact findFault_row a sn ks vs os ob g cap rs cs w hv hg (by unfold maxLen at hm; omega) h.len hc (fun i r c h1 h2 => (h.el i r c h1 h2).mono (Nat.zero_le _))
end Go.Proofs.Ytbgilndohccicab
