import Derived.Test.YtbgilndohccicabMz32
namespace Go.Proofs.Ytbgilndohccicab
open Go.RowKit

theorem Try.infoURule : (Try.prog.info? 143).map (fun i => (i.zero, i.size, i.bytes)) = some (some (.agg #[.slice none 0 0, .bool false]), 2, 32) := by kernel_rfl
def flatRl (l : List (SV × Bool)) : List Value := l.flatMap fun p => [.slice p.1.a p.1.n p.1.c, .bool p.2]
theorem flatRl_app (a b : List (SV × Bool)) : flatRl (a ++ b) = flatRl a ++ flatRl b := by simp [flatRl]
/-- v is a slice of rules, made since base, that holds rs. -/
structure Rls (w : World) (base : Nat) (v : Value) (us : List (SV × Bool)) (rs : List PR) : Prop where
  row : w.ownsRow base 143 2 v us.length (flatRl us)
  len : us.length = rs.length
  el : ∀ (i : Nat) (p : SV × Bool) (r : PR), us[i]? = some p → rs[i]? = some r → p.2 = r.ex ∧ TPb w base p.1.val r.ts
theorem Rls.nil (w : World) (base : Nat) : Rls w base (.slice none 0 0) [] [] := ⟨World.ownsRow_nil _ _ _ _, rfl, fun i p c h1 _ => by simp at h1⟩
theorem Rls.shape {w : World} {base : Nat} {v : Value} {us : List (SV × Bool)} {rs : List PR} (h : Rls w base v us rs) : ∃ a c, v = .slice a rs.length c := by
  rw [← h.len]
  rcases h.row.2 with ⟨rfl, hn⟩ | ⟨g, cap, cur, rfl, _⟩
  · exact ⟨none, 0, by rw [hn]⟩
  · exact ⟨_, _, rfl⟩
theorem Rls.mono {w : World} {base base' : Nat} {v : Value} {us : List (SV × Bool)} {rs : List PR} (h : Rls w base v us rs) (hb : base' ≤ base) : Rls w base' v us rs :=
  ⟨row_mono h.row hb, h.len, fun i p r h1 h2 => ⟨(h.el i p r h1 h2).1, (h.el i p r h1 h2).2.mono hb⟩⟩
theorem Rls.kept {w w' : World} {base b : Nat} {v : Value} {us : List (SV × Bool)} {rs : List PR} (h : Rls w base v us rs) (g : w.grownBy w' (some b)) (hb : b < base) : Rls w' base v us rs :=
  ⟨row_kept h.row g hb, h.len, fun i p r h1 h2 => ⟨(h.el i p r h1 h2).1, (h.el i p r h1 h2).2.kept g hb⟩⟩
theorem Rls.below {w w' : World} {base : Nat} {v : Value} {us : List (SV × Bool)} {rs : List PR} (h : Rls w base v us rs) (hb : Below w.heap.size w w') : Rls w' base v us rs :=
  ⟨World.ownsRow.kept h.row (gb_below hb none) (by cases hv : v.ownBlock <;> simp), h.len, fun i p r h1 h2 => ⟨(h.el i p r h1 h2).1, (h.el i p r h1 h2).2.below hb⟩⟩
/-- A row of another kind grows. -/
theorem Rls.apart {w w' : World} {base base' : Nat} {v v' : Value} {e' : TypeId} {size' n' : Nat} {xs' : List Value} {us : List (SV × Bool)} {rs : List PR} (h : Rls w base v us rs) (h' : w.ownsRow base' e' size' v' n' xs') (h1 : 143 ≠ e') (h2 : 172 ≠ e') (g : w.grownBy w' v'.ownBlock) : Rls w' base v us rs :=
  ⟨World.ownsRow.kept h.row g (row_apart h.row h' h1), h.len, fun i p r a b => ⟨(h.el i p r a b).1, World.ownsRow.kept (h.el i p r a b).2 g (row_apart (h.el i p r a b).2 h' h2)⟩⟩
theorem Rls.app {w1 w2 : World} {base : Nat} {v v' : Value} {us : List (SV × Bool)} {rs : List PR} {sv : SV} {ex : Bool} {ts : List PT} (V1 : Rls w1 base v us rs) (F1 : TPb w1 base sv.val ts)
    (hown : w2.ownsRow base 143 2 v' (us.length + 1) (flatRl us ++ [.slice sv.a sv.n sv.c, .bool ex])) (hg1 : w1.grownBy w2 v.ownBlock) : Rls w2 base v' (us ++ [(sv, ex)]) (rs ++ [⟨ts, ex⟩]) := by
  have hfk : ∀ (x : SV) f, TPb w1 base x.val f → TPb w2 base x.val f := fun x f h => World.ownsRow.kept h hg1 (row_apart h V1.row (by decide))
  refine ⟨by simpa [flatRl_app, flatRl] using hown, by simp [V1.len], fun i p c h1 h2 => ?_⟩
  have hl := V1.len
  rcases Nat.lt_or_ge i us.length with hi | hi
  · rw [List.getElem?_append_left hi] at h1
    rw [List.getElem?_append_left (by omega)] at h2
    exact ⟨(V1.el i p c h1 h2).1, hfk _ _ (V1.el i p c h1 h2).2⟩
  · rw [List.getElem?_append_right hi] at h1
    rw [List.getElem?_append_right (by omega)] at h2
    have hi0 : i - us.length = 0 := by
      have := (List.getElem?_eq_some_iff.1 h1).1; simp at this; omega
    have hj0 : i - rs.length = 0 := by omega
    rw [hi0] at h1; rw [hj0] at h2
    simp at h1 h2
    subst h1; subst h2
    exact ⟨rfl, hfk _ _ F1⟩
def mkOf (vs : List (Int × SV)) (os : Sch) (c : GCd) : PM := ⟨c.l, c.fs.map schF, srcI vs c.l c.fl, c.fs.map (prOf (fof os (srcI vs c.l c.fl)))⟩
def MkPost (m : PM) (w : World) (e : Ending) (w' : World) : Prop := ∃ (fa : Option Addr) (fn fc : Nat) (ra : Option Addr) (rn rc : Nat) (us : List (SV × Bool)),
  e = .returned (.agg #[.int .u8 m.l, .slice fa fn fc, .int .u8 m.src, .slice ra rn rc]) ∧ FVb w' w.heap.size (.slice fa fn fc) m.fs ∧ Rls w' w.heap.size (.slice ra rn rc) us m.rs ∧ Below w.heap.size w w'
/-- The fields of a class, one by one, whether there is one or not. -/
theorem GFs.cellsX {w : World} {base : Nat} {a : Option Addr} {n k : Nat} {rs : List RFd} {fs : List GFd} (h : GFs w base (.slice a n k) rs fs) : n = fs.length ∧ ∀ i, i < n → ∃ g, a = some ⟨g, 0, none⟩ ∧ g < w.heap.size ∧ GFCell w g i (rs[i]?.getD zRF) := by
  have hl := h.len
  rcases h.cells with ⟨e, h0⟩ | ⟨g, cap, e, hg, _, _, hc⟩
  · cases e
    rw [h0] at hl
    exact ⟨hl, fun i hi => by omega⟩
  · cases e
    exact ⟨hl, fun i hi => ⟨g, rfl, hg, hc i hi⟩⟩
set_option maxHeartbeats 2000000 in
set_option maxRecDepth 20000 in
theorem makingOf_any (a : Option Addr) (sn ks : Nat) (vs : List (Int × SV)) (os : Sch) (ob : Nat) (r : RCd) (c : GCd) (w : World) (hv : Cls w ob (.slice a sn ks) vs os) (hr : CRel w 0 r c) (h6 : c.fs.length ≤ 6) (ht : ∀ f ∈ c.fs, f.ts.length ≤ 1000) :
    Calls Try.prog 85 #[.agg #[.slice a sn ks], rcA r] w (MkPost (mkOf vs os c) w) := by
  obtain ⟨iR, hiR, hzR0, hzR1, hzR2⟩ := infoParts2 Try.infoURule
  obtain ⟨frs, hfs⟩ := hr.fs
  obtain ⟨m, hm⟩ : ∃ m, m = r.f.n := ⟨_, rfl⟩
  obtain ⟨hmn, hcx⟩ := hfs.cellsX
  rw [← hm] at hmn hcx
  have HMN : Hid (m = r.f.n) := hm
  have HM : Hid (m = frs.length ∧ m = c.fs.length) := ⟨hmn.trans hfs.len.symm, hmn⟩
  have hm6 : m ≤ 6 := by rw [hmn]; exact h6
  have HF : Hid (∀ i, i < m → ∃ g, r.f.a = some ⟨g, 0, none⟩ ∧ g < w.heap.size ∧ GFCell w g i (frs[i]?.getD zRF)) := hcx
  have HFE : Hid (∀ (i : Nat) (r : RFd) (f : GFd), frs[i]? = some r → c.fs[i]? = some f → FRel w 0 r f) := hfs.el
  have HT : Hid (∀ f ∈ c.fs, f.ts.length ≤ 1000) := ht
  have HV : Hid (Cls w ob (.slice a sn ks) vs os) := hv
  have HR : Hid (CRel w 0 r c) := hr
  unfold rcA
  rw [← hm]
  obtain ⟨W, hW⟩ : ∃ W, W = ((w.alloc (.cells #[.slice a sn ks] 72)).alloc (.cells #[.int .u8 r.l, .int .i64 r.p, .int .u8 r.fl, .int .i64 r.fp, .slice r.f.a m r.f.c] 156)).alloc (.cells #[.int .u8 0, .slice none 0 0, .int .u8 0, .slice none 0 0] 108) := ⟨_, rfl⟩
  have B0 : Below w.heap.size w W := by rw [hW]; exact (((Below.refl _ _).alloc (Nat.le_refl _) _).alloc (by simp) _).alloc (by simp; omega) _
  have z0 : W.heap.size = w.heap.size + 1 + 1 + 1 := by rw [hW]; simp
  have y0 : W.cell? ⟨w.heap.size, 0, none⟩ = some (.slice a sn ks) := by rw [hW]; go_simp
  have c0 : W.cell? ⟨w.heap.size + 1, 0, none⟩ = some (.int .u8 r.l) := by rw [hW]; go_simp
  have c1 : W.cell? ⟨w.heap.size + 1, 1, none⟩ = some (.int .i64 r.p) := by rw [hW]; go_simp
  have c2 : W.cell? ⟨w.heap.size + 1, 2, none⟩ = some (.int .u8 r.fl) := by rw [hW]; go_simp
  have c3 : W.cell? ⟨w.heap.size + 1, 3, none⟩ = some (.int .i64 r.fp) := by rw [hW]; go_simp
  have c4 : W.cell? ⟨w.heap.size + 1, 4, none⟩ = some (.slice r.f.a m r.f.c) := by rw [hW]; go_simp
  have m0 : W.cell? ⟨w.heap.size + 1 + 1, 0, none⟩ = some (.int .u8 0) := by rw [hW]; go_simp
  have m1 : W.cell? ⟨w.heap.size + 1 + 1, 1, none⟩ = some (.slice none 0 0) := by rw [hW]; go_simp
  have m2 : W.cell? ⟨w.heap.size + 1 + 1, 2, none⟩ = some (.int .u8 0) := by rw [hW]; go_simp
  have m3 : W.cell? ⟨w.heap.size + 1 + 1, 3, none⟩ = some (.slice none 0 0) := by rw [hW]; go_simp
  have n0 : W.frozen? ⟨w.heap.size + 1 + 1, 0, none⟩ = false := by rw [hW]; go_simp
  have n1 : W.frozen? ⟨w.heap.size + 1 + 1, 1, none⟩ = false := by rw [hW]; go_simp
  have n2 : W.frozen? ⟨w.heap.size + 1 + 1, 2, none⟩ = false := by rw [hW]; go_simp
  have n3 : W.frozen? ⟨w.heap.size + 1 + 1, 3, none⟩ = false := by rw [hW]; go_simp
  have u0 : w.heap.size < W.heap.size := by omega
  have u1 : w.heap.size + 1 < W.heap.size := by omega
  have u2 : w.heap.size + 1 + 1 < W.heap.size := by omega
  obtain ⟨x, hx⟩ : ∃ x, srcI vs r.l r.fl = x := ⟨_, rfl⟩
  have C1 := sourceLetter_any a sn ks vs r W (hv.cv.below B0)
  unfold rcA at C1
  rw [← hm, hx] at C1
  have hxc : srcI vs c.l c.fl = x := by rw [← hr.l, ← hr.fl]; exact hx
  obtain ⟨Fs, hFs⟩ : ∃ Fs, Fs = fof os x := ⟨_, rfl⟩
  obtain ⟨prs, hprs⟩ : ∃ prs, prs = c.fs.map (prOf Fs) := ⟨_, rfl⟩
  have HP : Hid (prs = c.fs.map (prOf Fs)) := hprs
  obtain ⟨sfs, hsfs⟩ : ∃ sfs, sfs = c.fs.map schF := ⟨_, rfl⟩
  have HSF : Hid (sfs = c.fs.map schF) := hsfs
  have eM : mkOf vs os c = ⟨r.l, sfs, x, prs⟩ := by unfold mkOf; rw [hxc, ← hFs, ← hprs, ← hsfs, hr.l]
  rw [eM]
  unfold MkPost
  simp only []
  have HFV : Hid (FV w (findC vs x).2.val Fs) := by show FV _ _ _; rw [hFs]; exact hv.fofV x
  obtain ⟨fl, fa, fn, fc, hf⟩ : ∃ fl fa fn fc, findC vs x = (fl, ⟨fa, fn, fc⟩) := ⟨_, _, _, _, rfl⟩
  obtain ⟨y, hy⟩ : ∃ y, hasC vs x = y := ⟨_, rfl⟩
  have HC2 : Hid (∀ W2, Below w.heap.size w W2 → Calls Try.prog 34 #[.agg #[.slice a sn ks], .int .u8 x] W2 fun e w' => e = .returned (.tuple #[.agg #[.int .u8 fl, .slice fa fn fc], .bool y]) ∧ Below W2.heap.size W2 w') := by
    intro W2 hb
    have := find_rs (x := x) (hv.cv.below hb) y hy
    rw [hf] at this; exact this
  rw [hf] at HFV
  have HFV2 : Hid (FV w (.slice fa fn fc) Fs) := HFV
  clear hfs hmn hcx ht hv hr hx hxc hFs hprs hsfs hf hy eM HFV h6 hm
  go_enter Try.func85, Try.ntmps85
  go_wp2_with fail
  rw [← hW]
  clear hW
  go_wp2_with fail
  refine C1.mono ?_
  rintro e w1 ⟨rfl, B1⟩
  have BW1 : Below w.heap.size w w1 := B0.trans (B1.mono B0.size)
  have z1 := B1.size
  have y0a : w1.cell? ⟨w.heap.size, 0, none⟩ = some (.slice a sn ks) := (B1.cell (p := ⟨w.heap.size, 0, none⟩) u0).trans y0
  have D2 := HC2.out w1 BW1
  clear C1
  go_wp2_with fail
  refine D2.mono ?_
  rintro e w2 ⟨rfl, B2⟩
  have BW2 : Below w.heap.size w w2 := BW1.trans (B2.mono BW1.size)
  have B2' : Below W.heap.size W (w2.alloc (.cells #[.int .u8 fl, .slice fa fn fc] 88)) := (B1.trans (B2.mono z1)).alloc (by have := B2.size; omega) _
  have z2 := B2.size
  have k0 : (w2.alloc (.cells #[.int .u8 fl, .slice fa fn fc] 88)).cell? ⟨w.heap.size + 1, 0, none⟩ = some (.int .u8 r.l) := (B2'.cell (p := ⟨w.heap.size + 1, 0, none⟩) u1).trans c0
  have k1 : (w2.alloc (.cells #[.int .u8 fl, .slice fa fn fc] 88)).cell? ⟨w.heap.size + 1, 1, none⟩ = some (.int .i64 r.p) := (B2'.cell (p := ⟨w.heap.size + 1, 1, none⟩) u1).trans c1
  have k2 : (w2.alloc (.cells #[.int .u8 fl, .slice fa fn fc] 88)).cell? ⟨w.heap.size + 1, 2, none⟩ = some (.int .u8 r.fl) := (B2'.cell (p := ⟨w.heap.size + 1, 2, none⟩) u1).trans c2
  have k3 : (w2.alloc (.cells #[.int .u8 fl, .slice fa fn fc] 88)).cell? ⟨w.heap.size + 1, 3, none⟩ = some (.int .i64 r.fp) := (B2'.cell (p := ⟨w.heap.size + 1, 3, none⟩) u1).trans c3
  have k4 : (w2.alloc (.cells #[.int .u8 fl, .slice fa fn fc] 88)).cell? ⟨w.heap.size + 1, 4, none⟩ = some (.slice r.f.a m r.f.c) := (B2'.cell (p := ⟨w.heap.size + 1, 4, none⟩) u1).trans c4
  have v1 : w.heap.size + 1 < w2.heap.size := by omega
  have BWa : Below w.heap.size w (w2.alloc (.cells #[.int .u8 fl, .slice fa fn fc] 88)) := BW2.alloc BW2.size _
  have D3 := of_any (HR.out.below BWa) (by rw [← HM.out.2]; exact hm6)
  unfold OfPost at D3
  rw [← HR.out.l, ← HSF.out] at D3
  have D3' : Calls Try.prog 81 #[.agg #[.int .u8 r.l, .int .i64 r.p, .int .u8 r.fl, .int .i64 r.fp, .slice r.f.a m r.f.c]] (w2.alloc (.cells #[.int .u8 fl, .slice fa fn fc] 88)) (fun e w' => ∃ (a : Option Addr) (n k : Nat), e = .returned (.agg #[.int .u8 r.l, .slice a n k]) ∧ FVb w' (w2.alloc (.cells #[.int .u8 fl, .slice fa fn fc] 88)).heap.size (.slice a n k) sfs ∧ Below (w2.alloc (.cells #[.int .u8 fl, .slice fa fn fc] 88)).heap.size (w2.alloc (.cells #[.int .u8 fl, .slice fa fn fc] 88)) w') := by
    rw [HMN.out]; exact D3
  clear D2 D3 B1 B2 y0 y0a c0 c1 c2 c3 c4 B0
  go_wp2_with fail
  refine D3'.mono ?_
  rintro e w3 ⟨ga, gn, gc, rfl, F3, B3⟩
  have z3 : w2.heap.size < w3.heap.size := by have := B3.size; simp at this; omega
  have BW3 : Below w.heap.size w w3 := BWa.trans (B3.mono BWa.size)
  have B3' : Below W.heap.size W w3 := B2'.trans (B3.mono B2'.size)
  have t0 : w3.cell? ⟨w2.heap.size, 0, none⟩ = some (.int .u8 fl) := (B3.cell (p := ⟨w2.heap.size, 0, none⟩) (by simp)).trans (by go_simp)
  have t1 : w3.cell? ⟨w2.heap.size, 1, none⟩ = some (.slice fa fn fc) := (B3.cell (p := ⟨w2.heap.size, 1, none⟩) (by simp)).trans (by go_simp)
  have t4 : w3.cell? ⟨w.heap.size + 1, 4, none⟩ = some (.slice r.f.a m r.f.c) := (B3.cell (p := ⟨w.heap.size + 1, 4, none⟩) (by simp; omega)).trans k4
  have HFB : Hid (FVb w3 (w2.heap.size + 1) (.slice ga gn gc) sfs) := F3.mono (by simp)
  have v3 : w.heap.size + 1 < w3.heap.size := by omega
  clear D3' k0 k1 k2 k3 k4 B3 F3 B2' BWa
  go_wp2
  go_loopw [28] (fun i wi => ∃ (j : Nat) (rv : Value) (us : List (SV × Bool)), j ≤ m ∧ i = .int .i64 j ∧ Rls wi (w3.heap.size + 1) rv us (prs.take j) ∧ wi.cell? ⟨w3.heap.size, 0, none⟩ = some (.int .u8 r.l) ∧ wi.cell? ⟨w3.heap.size, 1, none⟩ = some (.slice ga gn gc) ∧ wi.cell? ⟨w3.heap.size, 2, none⟩ = some (.int .u8 x) ∧ wi.cell? ⟨w3.heap.size, 3, none⟩ = some rv ∧ wi.frozen? ⟨w3.heap.size, 3, none⟩ = false ∧ w3.heap.size < wi.heap.size ∧ Below w3.heap.size w3 wi) (fun i _ => m - (intOf i).toNat)
  case atStart => exact ⟨0, .slice none 0 0, [], Nat.zero_le _, rfl, by rw [List.take_zero]; exact Rls.nil _ _, by go_simp, by go_simp, by go_simp, by go_simp, by go_simp, by simp, (Below.refl _ _).alloc (Nat.le_refl _) _⟩
  case round =>
    obtain ⟨j, rv, us, hj, rfl, V, d0, d1, d2, d3, df3, hsz, hb⟩ := hrel
    have hpl : (prs.take j).length = j := by rw [List.length_take, HP.out, List.length_map, ← HM.out.2]; omega
    obtain ⟨va, vc, hvv⟩ := V.shape
    rw [hpl] at hvv
    subst hvv
    have HVK : Hid (us.length = j) := by show _ = _; rw [V.len]; exact hpl
    have HVV : Hid (Rls wr (w3.heap.size + 1) (.slice va j vc) us (prs.take j)) := V
    have hB : Below w.heap.size w wr := BW3.trans (hb.mono BW3.size)
    clear hpl V
    by_cases hjl : j < m
    · obtain ⟨g, hga, hgs, hgc⟩ := HF.out j hjl
      obtain ⟨fr, hfr⟩ : ∃ fr, fr = frs[j]?.getD zRF := ⟨_, rfl⟩
      have hfrk : frs[j]? = some fr := by rw [hfr]; exact getD_of (by rw [← HM.out.1]; exact hjl) zRF
      obtain ⟨f, hfk⟩ : ∃ f, c.fs[j]? = some f := ⟨_, List.getElem?_eq_getElem (by rw [← HM.out.2]; exact hjl)⟩
      have hfrel := HFE.out j fr f hfrk hfk
      obtain ⟨x0, x1, x2, x3, x4, x5⟩ := hgc.below hB hgs
      rw [← hfr] at x0 x1 x2 x3 x4 x5
      have hft := HT.out f (List.mem_of_getElem? hfk)
      have HST : Hid (prs.take (j + 1) = prs.take j ++ [prOf Fs f]) := by show _ = _; rw [HP.out, take_step (prOf Fs) hfk]
      have p0 : wr.cell? ⟨w2.heap.size, 0, none⟩ = some (.int .u8 fl) := (hb.cell (p := ⟨w2.heap.size, 0, none⟩) z3).trans t0
      have p1 : wr.cell? ⟨w2.heap.size, 1, none⟩ = some (.slice fa fn fc) := (hb.cell (p := ⟨w2.heap.size, 1, none⟩) z3).trans t1
      have v0 : w2.heap.size < wr.heap.size := by omega
      have hgr : g < wr.heap.size := by have := hB.size; omega
      have hBf : Below w.heap.size w (wr.alloc (.cells #[.int .u8 fr.l, .int .i64 fr.p, .int .u8 fr.k, .slice fr.t.a fr.t.n fr.t.c, .int .i64 fr.sp, .bool fr.ex] 162)) := hB.alloc hB.size _
      have hrel2 : FRel (wr.alloc (.cells #[.int .u8 fr.l, .int .i64 fr.p, .int .u8 fr.k, .slice fr.t.a fr.t.n fr.t.c, .int .i64 fr.sp, .bool fr.ex] 162)) 0 fr f := ⟨hfrel.l, hfrel.p, hfrel.k, hfrel.sp, hfrel.ex, hfrel.ts.below' hBf⟩
      have CF := ruleOf_any (L := fl) (HFV2.out.below hBf) hrel2 hft
      unfold PRPost at CF
      generalize prOf Fs f = R at CF HST
      obtain ⟨Rts, Rex⟩ := R
      simp only [] at CF
      have BWr : Below wr.heap.size wr (wr.alloc (.cells #[.int .u8 fr.l, .int .i64 fr.p, .int .u8 fr.k, .slice fr.t.a fr.t.n fr.t.c, .int .i64 fr.sp, .bool fr.ex] 162)) := (Below.refl _ _).alloc (Nat.le_refl _) _
      clear hfr hfrk hfk hfrel hft hgc hrel2
      rw [hga] at *
      go_wp2_with fail
      refine CF.mono ?_
      rintro e w4 ⟨ra, rn, rc, rfl, T4', B4'⟩
      have B4 : Below wr.heap.size wr w4 := BWr.trans (B4'.mono (by simp))
      have hs4 : wr.heap.size < w4.heap.size := by have := B4'.size; simp at this; omega
      have T4 : TPb w4 (w3.heap.size + 1) (SV.val ⟨ra, rn, rc⟩) Rts := T4'.mono (by simp; omega)
      have V4 := HVV.out.below B4
      have V4r := V4.row
      rw [HVK.out] at V4r
      have e0 : w4.cell? ⟨w3.heap.size, 0, none⟩ = some (.int .u8 r.l) := (B4.cell (p := ⟨w3.heap.size, 0, none⟩) hsz).trans d0
      have e1 : w4.cell? ⟨w3.heap.size, 1, none⟩ = some (.slice ga gn gc) := (B4.cell (p := ⟨w3.heap.size, 1, none⟩) hsz).trans d1
      have e2 : w4.cell? ⟨w3.heap.size, 2, none⟩ = some (.int .u8 x) := (B4.cell (p := ⟨w3.heap.size, 2, none⟩) hsz).trans d2
      have e3 : w4.cell? ⟨w3.heap.size, 3, none⟩ = some (.slice va j vc) := (B4.cell (p := ⟨w3.heap.size, 3, none⟩) hsz).trans d3
      have ef3 : w4.frozen? ⟨w3.heap.size, 3, none⟩ = false := (B4.frozen (p := ⟨w3.heap.size, 3, none⟩) hsz).trans df3
      have hW4 : w3.heap.size < w4.heap.size := by omega
      have HB4 : Hid (Below w3.heap.size w3 w4) := hb.trans (B4.mono (by omega))
      clear CF T4' B4' BWr hBf x0 x1 x2 x3 x4 x5 p0 p1 d0 d1 d2 d3 df3 hb hB
      go_wp2_with (at_builtin; refine wpList_append_own _ rfl _ _ 106 rfl (w3.heap.size + 1) 143 iR (.agg #[.slice none 0 0, .bool false]) 2 32 Try.underlying106 hiR hzR0 hzR1 hzR2 rfl (by decide) _ j (flatRl us) rfl ((V4r.alloc _).alloc _) ⟨w4.heap.size + 1, 0, none⟩ 1 1 [.slice ra rn rc, .bool Rex] rfl rfl ?c1 ?c2 ?c3 ?c4 ?c5 ?_)
      case c1 => exact cell_pair _ _ _ _ _
      case c2 => intro u hu; simp at hu; rcases hu with rfl | rfl <;> rfl
      case c3 => unfold maxLen; omega
      case c4 => omega
      case c5 => simp; omega
      intro v' w5 hown hgr5 _
      rw [← HVK.out] at hown
      have hg5 : w4.grownBy w5 (Value.ownBlock (.slice va j vc)) := gb_trans (gb_trans (World.grownBy_alloc _ _ _) (World.grownBy_alloc _ _ _)) hgr5
      have V5' := V4.app (sv := ⟨ra, rn, rc⟩) (ex := Rex) T4 hown hg5
      rw [← HST.out] at V5'
      obtain ⟨qc, qf, ql⟩ := own_loc V4r hg5 (r := w3.heap.size) (by omega) hW4
      have g0 : w5.cell? ⟨w3.heap.size, 0, none⟩ = some (.int .u8 r.l) := by rw [qc]; exact e0
      have g1 : w5.cell? ⟨w3.heap.size, 1, none⟩ = some (.slice ga gn gc) := by rw [qc]; exact e1
      have g2 : w5.cell? ⟨w3.heap.size, 2, none⟩ = some (.int .u8 x) := by rw [qc]; exact e2
      have g3 : w5.cell? ⟨w3.heap.size, 3, none⟩ = some (.slice va j vc) := by rw [qc]; exact e3
      have gf3 : w5.frozen? ⟨w3.heap.size, 3, none⟩ = false := by rw [qf]; exact ef3
      have B5 : Below w3.heap.size w3 w5 := HB4.out.grown hg5 (by omega) (fun x hx => by have := (World.ownsRow.lt V4r x hx).1; omega)
      obtain ⟨va', vc', hv'⟩ := V5'.shape
      have hl1 : (prs.take (j + 1)).length = j + 1 := by rw [List.length_take, HP.out, List.length_map, ← HM.out.2]; omega
      rw [hl1] at hv'
      subst hv'
      have V6 := V5'.kept (gb_set w5 w3.heap.size 3 (.slice va' (j + 1) vc')) (by omega)
      have B6 : Below w3.heap.size w3 (w5.setCell ⟨w3.heap.size, 3, none⟩ (.slice va' (j + 1) vc')) := B5.setCell (Nat.le_refl _) _
      clear hown hgr5 hg5 V5' V4 V4r T4 qc qf hl1 e0 e1 e2 e3 ef3
      go_wp2
      refine ⟨⟨j + 1, _, _, by omega, rfl, V6, ?_, ?_, ?_, ?_, ?_, ?_, B6⟩, by simp [intOf]; omega⟩
      · go_simp
      · go_simp
      · go_simp
      · go_simp
      · go_simp
      · simpa using ql
    · obtain rfl : j = m := by omega
      have hfull : prs.take j = prs := List.take_of_length_le (by rw [HP.out, List.length_map, ← HM.out.2]; omega)
      have V := HVV.out
      rw [hfull] at V
      have B3w : Below W.heap.size W wr := B3'.trans (hb.mono B3'.size)
      have a0 : wr.cell? ⟨w.heap.size + 1 + 1, 0, none⟩ = some (.int .u8 0) := (B3w.cell (p := ⟨w.heap.size + 1 + 1, 0, none⟩) u2).trans m0
      have a1 : wr.cell? ⟨w.heap.size + 1 + 1, 1, none⟩ = some (.slice none 0 0) := (B3w.cell (p := ⟨w.heap.size + 1 + 1, 1, none⟩) u2).trans m1
      have a2 : wr.cell? ⟨w.heap.size + 1 + 1, 2, none⟩ = some (.int .u8 0) := (B3w.cell (p := ⟨w.heap.size + 1 + 1, 2, none⟩) u2).trans m2
      have a3 : wr.cell? ⟨w.heap.size + 1 + 1, 3, none⟩ = some (.slice none 0 0) := (B3w.cell (p := ⟨w.heap.size + 1 + 1, 3, none⟩) u2).trans m3
      have b0 : wr.frozen? ⟨w.heap.size + 1 + 1, 0, none⟩ = false := (B3w.frozen (p := ⟨w.heap.size + 1 + 1, 0, none⟩) u2).trans n0
      have b1 : wr.frozen? ⟨w.heap.size + 1 + 1, 1, none⟩ = false := (B3w.frozen (p := ⟨w.heap.size + 1 + 1, 1, none⟩) u2).trans n1
      have b2 : wr.frozen? ⟨w.heap.size + 1 + 1, 2, none⟩ = false := (B3w.frozen (p := ⟨w.heap.size + 1 + 1, 2, none⟩) u2).trans n2
      have b3 : wr.frozen? ⟨w.heap.size + 1 + 1, 3, none⟩ = false := (B3w.frozen (p := ⟨w.heap.size + 1 + 1, 3, none⟩) u2).trans n3
      have F : FVb wr (w2.heap.size + 1) (.slice ga gn gc) sfs := World.ownsRow.kept HFB.out (gb_below hb none) (by cases hv : Value.ownBlock (.slice ga gn gc) <;> simp)
      have v4 : w.heap.size + 1 + 1 < wr.heap.size := by omega
      have hsl := B3'.size
      clear hfull hb B3w
      go_wp2
      refine bodyPost_ret (v := .agg #[.int .u8 r.l, .slice ga gn gc, .int .u8 x, .slice va j vc]) (by simp [results, Try.results85, go_sem, a0, a1, a2, a3]) rfl ⟨_, _, _, _, _, _, us, rfl, ?_, ?_, ?_⟩
      · exact ((((F.kept (gb_set _ (w.heap.size + 1 + 1) _ _) (by omega)).kept (gb_set _ (w.heap.size + 1 + 1) _ _) (by omega)).kept (gb_set _ (w.heap.size + 1 + 1) _ _) (by omega)).kept (gb_set _ (w.heap.size + 1 + 1) _ _) (by omega)).mono (by omega)
      · exact ((((V.kept (gb_set _ (w.heap.size + 1 + 1) _ _) (by omega)).kept (gb_set _ (w.heap.size + 1 + 1) _ _) (by omega)).kept (gb_set _ (w.heap.size + 1 + 1) _ _) (by omega)).kept (gb_set _ (w.heap.size + 1 + 1) _ _) (by omega)).mono (by omega)
      · exact (((hB.setCell (by show _ ≤ w.heap.size + 1 + 1; omega) _).setCell (by show _ ≤ w.heap.size + 1 + 1; omega) _).setCell (by show _ ≤ w.heap.size + 1 + 1; omega) _).setCell (by show _ ≤ w.heap.size + 1 + 1; omega) _
end Go.Proofs.Ytbgilndohccicab
