import Derived.Test.YtbgilndohccicabMz33
import Derived.Test.YtbgilndohccicabMz36
import Derived.Test.YtbgilndohccicabMz17
import Derived.Test.YtbgilndohccicabMz22
namespace Go.Proofs.Ytbgilndohccicab
open Go.RowKit

theorem Try.infoUMaking : (Try.prog.info? 108).map (fun i => (i.zero, i.size, i.bytes)) = some (some (.agg #[.int .u8 0, .slice none 0 0, .int .u8 0, .slice none 0 0]), 4, 64) := by kernel_rfl
structure MV where
  l : Int
  f : SV
  s : Int
  r : SV
def MV.cells (p : MV) : List Value := [.int .u8 p.l, .slice p.f.a p.f.n p.f.c, .int .u8 p.s, .slice p.r.a p.r.n p.r.c]
def flatMk (l : List MV) : List Value := l.flatMap MV.cells
theorem flatMk_app (a b : List MV) : flatMk (a ++ b) = flatMk a ++ flatMk b := by simp [flatMk]
/-- v is a slice of makings, made since base, that holds ms. -/
structure Mks (w : World) (base : Nat) (v : Value) (vs : List MV) (ms : List PM) : Prop where
  row : w.ownsRow base 108 4 v vs.length (flatMk vs)
  len : vs.length = ms.length
  el : ∀ (i : Nat) (p : MV) (m : PM), vs[i]? = some p → ms[i]? = some m → p.l = m.l ∧ p.s = m.src ∧ FVb w base p.f.val m.fs ∧ ∃ us, Rls w base p.r.val us m.rs
theorem Mks.nil (w : World) (base : Nat) : Mks w base (.slice none 0 0) [] [] := ⟨World.ownsRow_nil _ _ _ _, rfl, fun i p c h1 _ => by simp at h1⟩
theorem Mks.shape {w : World} {base : Nat} {v : Value} {vs : List MV} {ms : List PM} (h : Mks w base v vs ms) : ∃ a c, v = .slice a ms.length c := by
  rw [← h.len]
  rcases h.row.2 with ⟨rfl, hn⟩ | ⟨g, cap, cur, rfl, _⟩
  · exact ⟨none, 0, by rw [hn]⟩
  · exact ⟨_, _, rfl⟩
theorem Mks.mono {w : World} {base base' : Nat} {v : Value} {vs : List MV} {ms : List PM} (h : Mks w base v vs ms) (hb : base' ≤ base) : Mks w base' v vs ms :=
  ⟨row_mono h.row hb, h.len, fun i p m h1 h2 => by
    obtain ⟨a, b, c, us, d⟩ := h.el i p m h1 h2
    exact ⟨a, b, c.mono hb, us, d.mono hb⟩⟩
theorem Mks.kept {w w' : World} {base b : Nat} {v : Value} {vs : List MV} {ms : List PM} (h : Mks w base v vs ms) (g : w.grownBy w' (some b)) (hb : b < base) : Mks w' base v vs ms :=
  ⟨row_kept h.row g hb, h.len, fun i p m h1 h2 => by
    obtain ⟨a, b, c, us, d⟩ := h.el i p m h1 h2
    exact ⟨a, b, c.kept g hb, us, d.kept g hb⟩⟩
theorem Mks.below {w w' : World} {base : Nat} {v : Value} {vs : List MV} {ms : List PM} (h : Mks w base v vs ms) (hb : Below w.heap.size w w') : Mks w' base v vs ms :=
  ⟨World.ownsRow.kept h.row (gb_below hb none) (by cases hv : v.ownBlock <;> simp), h.len, fun i p m h1 h2 => by
    obtain ⟨a, b, c, us, d⟩ := h.el i p m h1 h2
    exact ⟨a, b, World.ownsRow.kept c (gb_below hb none) (by cases hv : p.f.val.ownBlock <;> simp), us, d.below hb⟩⟩
theorem Mks.app {w1 w2 : World} {base : Nat} {v v' : Value} {vs : List MV} {ms : List PM} {p : MV} {m : PM} {us : List (SV × Bool)} (V1 : Mks w1 base v vs ms) (hl : p.l = m.l) (hs : p.s = m.src) (F1 : FVb w1 base p.f.val m.fs) (R1 : Rls w1 base p.r.val us m.rs)
    (hown : w2.ownsRow base 108 4 v' (vs.length + 1) (flatMk vs ++ p.cells)) (hg1 : w1.grownBy w2 v.ownBlock) : Mks w2 base v' (vs ++ [p]) (ms ++ [m]) := by
  have hfk : ∀ (x : SV) f, FVb w1 base x.val f → FVb w2 base x.val f := fun x f h => World.ownsRow.kept h hg1 (row_apart h V1.row (by decide))
  have hrk : ∀ (x : SV) us f, Rls w1 base x.val us f → Rls w2 base x.val us f := fun x us f h => h.apart V1.row (by decide) (by decide) hg1
  refine ⟨by rw [flatMk_app, List.length_append]; simpa [flatMk] using hown, by simp [V1.len], fun i q c h1 h2 => ?_⟩
  have hl' := V1.len
  rcases Nat.lt_or_ge i vs.length with hi | hi
  · rw [List.getElem?_append_left hi] at h1
    rw [List.getElem?_append_left (by omega)] at h2
    obtain ⟨a, b, c', us', d⟩ := V1.el i q c h1 h2
    exact ⟨a, b, hfk _ _ c', us', hrk _ _ _ d⟩
  · rw [List.getElem?_append_right hi] at h1
    rw [List.getElem?_append_right (by omega)] at h2
    have hi0 : i - vs.length = 0 := by
      have := (List.getElem?_eq_some_iff.1 h1).1; simp at this; omega
    have hj0 : i - ms.length = 0 := by omega
    rw [hi0] at h1; rw [hj0] at h2
    simp at h1 h2
    subst h1; subst h2
    exact ⟨hl, hs, hfk _ _ F1, us, hrk _ _ _ R1⟩
theorem cell_four (w1 : World) (o : Obj) (x y z t : Value) (T : TypeId) : ∀ (j : Nat) (u : Value), [x, y, z, t][j]? = some u → ((w1.alloc o).alloc (.cells #[x, y, z, t] T)).cell? ((⟨w1.heap.size + 1, 0, none⟩ : Addr).add j) = some u := by
  intro j u hj
  match j, hj with
  | 0, hj => simp at hj; subst hj; simp [Addr.add]
  | 1, hj => simp at hj; subst hj; simp [Addr.add]
  | 2, hj => simp at hj; subst hj; simp [Addr.add]
  | 3, hj => simp at hj; subst hj; simp [Addr.add]
def UpPost (ms : List PM) (w : World) (e : Ending) (w' : World) : Prop := ∃ (a : Option Addr) (n c : Nat) (vs : List MV),
  e = .returned (.agg #[.slice a n c]) ∧ Mks w' w.heap.size (.slice a n c) vs ms ∧ Below w.heap.size w w'
theorem GCs.cellsX {w : World} {base : Nat} {a : Option Addr} {n k : Nat} {rs : List RCd} {cs : List GCd} (h : GCs w base (.slice a n k) rs cs) : n = cs.length ∧ ∀ i, i < n → ∃ g, a = some ⟨g, 0, none⟩ ∧ g < w.heap.size ∧ CCell w g i (rs[i]?.getD zR) := by
  have hl := h.len
  rcases h.cells with ⟨e, h0⟩ | ⟨g, cap, e, hg, _, _, hc⟩
  · cases e
    rw [h0] at hl
    exact ⟨hl, fun i hi => by omega⟩
  · cases e
    exact ⟨hl, fun i hi => ⟨g, rfl, hg, hc i hi⟩⟩
set_option maxHeartbeats 2000000 in
set_option maxRecDepth 20000 in
theorem updateOf_any {a : Option Addr} {sn ks : Nat} {vs : List (Int × SV)} {os : Sch} {ob : Nat} {ca : Option Addr} {m cc base : Nat} {rs : List RCd} {cs : List GCd} {w : World} (hv : Cls w ob (.slice a sn ks) vs os) (hG : GCs w base (.slice ca m cc) rs cs) (h6 : cs.length ≤ 6) (hf6 : ∀ c ∈ cs, c.fs.length ≤ 6 ∧ ∀ f ∈ c.fs, f.ts.length ≤ 1000) :
    Calls Try.prog 70 #[.agg #[.slice a sn ks], .slice ca m cc] w (UpPost (cs.map (mkOf vs os)) w) := by
  obtain ⟨iM, hiM, hzM0, hzM1, hzM2⟩ := infoParts2 Try.infoUMaking
  obtain ⟨hmn, hcx⟩ := hG.cellsX
  have hl := hG.len
  have HN : Hid (m = rs.length ∧ m = cs.length) := ⟨hmn.trans hl.symm, hmn⟩
  have hm6 : m ≤ 6 := by rw [hmn]; exact h6
  have HC : Hid (∀ i, i < m → ∃ g, ca = some ⟨g, 0, none⟩ ∧ g < w.heap.size ∧ CCell w g i (rs[i]?.getD zR)) := hcx
  have HE : Hid (∀ (i : Nat) (r : RCd) (c : GCd), rs[i]? = some r → cs[i]? = some c → CRel w 0 r c) := fun i r c h1 h2 => (hG.el i r c h1 h2).mono (Nat.zero_le _)
  have H6 : Hid (∀ c ∈ cs, c.fs.length ≤ 6 ∧ ∀ f ∈ c.fs, f.ts.length ≤ 1000) := hf6
  have HV : Hid (Cls w ob (.slice a sn ks) vs os) := hv
  obtain ⟨pms, hpms⟩ : ∃ pms, pms = cs.map (mkOf vs os) := ⟨_, rfl⟩
  rw [← hpms]
  have HP : Hid (pms = cs.map (mkOf vs os)) := hpms
  unfold UpPost
  obtain ⟨W, hW⟩ : ∃ W, W = (w.alloc (.cells #[.slice a sn ks] 72)).alloc (.cells #[.slice none 0 0] 82) := ⟨_, rfl⟩
  have B0 : Below w.heap.size w W := by rw [hW]; exact ((Below.refl _ _).alloc (Nat.le_refl _) _).alloc (by simp) _
  have z0 : W.heap.size = w.heap.size + 1 + 1 := by rw [hW]; simp
  have y0 : W.cell? ⟨w.heap.size, 0, none⟩ = some (.slice a sn ks) := by rw [hW]; go_simp
  have y1 : W.cell? ⟨w.heap.size + 1, 0, none⟩ = some (.slice none 0 0) := by rw [hW]; go_simp
  have y2 : W.frozen? ⟨w.heap.size + 1, 0, none⟩ = false := by rw [hW]; go_simp
  have u0 : w.heap.size < W.heap.size := by omega
  have u1 : w.heap.size + 1 < W.heap.size := by omega
  clear hG hmn hcx hl h6 hf6 hv hpms
  go_enter Try.func70, Try.ntmps70
  go_wp2_with fail
  rw [← hW]
  clear hW
  have e0 : W.heap.size = w.heap.size + 2 := by omega
  clear z0
  go_wp2
  go_loopw [11] (fun i wi => ∃ (j : Nat) (rv : Value) (us : List MV), j ≤ m ∧ i = .int .i64 j ∧ Mks wi (w.heap.size + 3) rv us (pms.take j) ∧ wi.cell? ⟨w.heap.size + 1 + 1, 0, none⟩ = some rv ∧ wi.frozen? ⟨w.heap.size + 1 + 1, 0, none⟩ = false ∧ w.heap.size + 1 + 1 < wi.heap.size ∧ Below W.heap.size W wi) (fun i _ => m - (intOf i).toNat)
  case atStart => exact ⟨0, .slice none 0 0, [], Nat.zero_le _, rfl, by rw [List.take_zero]; exact Mks.nil _ _, by go_simp, by go_simp, by simp; omega, (Below.refl _ _).alloc (Nat.le_refl _) _⟩
  case round =>
    obtain ⟨j, rv, us, hj, rfl, V, d0, df0, hsz, hb⟩ := hrel
    have hpl : (pms.take j).length = j := by rw [List.length_take, HP.out, List.length_map, ← HN.out.2]; omega
    obtain ⟨va, vc, hvv⟩ := V.shape
    rw [hpl] at hvv
    subst hvv
    have HVK : Hid (us.length = j) := by show _ = _; rw [V.len]; exact hpl
    have HVV : Hid (Mks wr (w.heap.size + 3) (.slice va j vc) us (pms.take j)) := V
    have hB : Below w.heap.size w wr := B0.trans (hb.mono B0.size)
    clear hpl V
    by_cases hjl : j < m
    · obtain ⟨g, hga, hgs, hgc⟩ := HC.out j hjl
      obtain ⟨r, hr⟩ : ∃ r, r = rs[j]?.getD zR := ⟨_, rfl⟩
      have hrk : rs[j]? = some r := by rw [hr]; exact getD_of (by rw [← HN.out.1]; exact hjl) zR
      obtain ⟨c, hck⟩ : ∃ c, cs[j]? = some c := ⟨_, List.getElem?_eq_getElem (by rw [← HN.out.2]; exact hjl)⟩
      have hrel := HE.out j r c hrk hck
      obtain ⟨x0, x1, x2, x3, x4⟩ := hgc.below hB hgs
      rw [← hr] at x0 x1 x2 x3 x4
      have hc6 := H6.out c (List.mem_of_getElem? hck)
      have HST : Hid (pms.take (j + 1) = pms.take j ++ [mkOf vs os c]) := by show _ = _; rw [HP.out, take_step (mkOf vs os) hck]
      have p0 : wr.cell? ⟨w.heap.size, 0, none⟩ = some (.slice a sn ks) := (hb.cell (p := ⟨w.heap.size, 0, none⟩) u0).trans y0
      have v0 : w.heap.size < wr.heap.size := by omega
      have hgr : g < wr.heap.size := by omega
      have hBf : Below w.heap.size w (wr.alloc (.cells #[.int .u8 r.l, .int .i64 r.p, .int .u8 r.fl, .int .i64 r.fp, .slice r.f.a r.f.n r.f.c] 156)) := hB.alloc hB.size _
      have CF := makingOf_any a sn ks vs os ob r c _ (HV.out.below hBf) (hrel.below hBf) hc6.1 hc6.2
      unfold rcA MkPost at CF
      generalize mkOf vs os c = M at CF HST
      obtain ⟨Ml, Mf, Ms, Mr⟩ := M
      simp only [] at CF
      have BWr : Below wr.heap.size wr (wr.alloc (.cells #[.int .u8 r.l, .int .i64 r.p, .int .u8 r.fl, .int .i64 r.fp, .slice r.f.a r.f.n r.f.c] 156)) := (Below.refl _ _).alloc (Nat.le_refl _) _
      clear hr hrk hck hrel hc6 hgc
      rw [hga] at *
      go_wp2_with fail
      refine CF.mono ?_
      rintro e w4 ⟨fa, fn, fc, ra, rn, rc, rus, rfl, F4', R4', B4'⟩
      have B4 : Below wr.heap.size wr w4 := BWr.trans (B4'.mono (by simp))
      have hs4 : wr.heap.size < w4.heap.size := by have := B4'.size; simp at this; omega
      have F4 : FVb w4 (w.heap.size + 3) (SV.val ⟨fa, fn, fc⟩) Mf := F4'.mono (by simp; omega)
      have R4 : Rls w4 (w.heap.size + 3) (SV.val ⟨ra, rn, rc⟩) rus Mr := R4'.mono (by simp; omega)
      have V4 := HVV.out.below B4
      have V4r := V4.row
      rw [HVK.out] at V4r
      have e1 : w4.cell? ⟨w.heap.size + 1 + 1, 0, none⟩ = some (.slice va j vc) := (B4.cell (p := ⟨w.heap.size + 1 + 1, 0, none⟩) hsz).trans d0
      have ef1 : w4.frozen? ⟨w.heap.size + 1 + 1, 0, none⟩ = false := (B4.frozen (p := ⟨w.heap.size + 1 + 1, 0, none⟩) hsz).trans df0
      have hW4 : w.heap.size + 1 + 1 < w4.heap.size := by omega
      have HB4 : Hid (Below W.heap.size W w4) := hb.trans (B4.mono (by omega))
      clear CF F4' R4' B4' BWr hBf x0 x1 x2 x3 x4 p0 d0 df0 hb hB
      go_wp2_with (at_builtin; refine wpList_append_own _ rfl _ _ 80 rfl (w.heap.size + 3) 108 iM (.agg #[.int .u8 0, .slice none 0 0, .int .u8 0, .slice none 0 0]) 4 64 Try.underlying80 hiM hzM0 hzM1 hzM2 rfl (by decide) _ j (flatMk us) rfl ((V4r.alloc _).alloc _) ⟨w4.heap.size + 1, 0, none⟩ 1 1 [.int .u8 Ml, .slice fa fn fc, .int .u8 Ms, .slice ra rn rc] rfl rfl ?c1 ?c2 ?c3 ?c4 ?c5 ?_)
      case c1 => exact cell_four _ _ _ _ _ _ _
      case c2 => intro u hu; simp at hu; rcases hu with rfl | rfl | rfl | rfl <;> rfl
      case c3 => unfold maxLen; omega
      case c4 => omega
      case c5 => simp; omega
      intro v' w5 hown hgr5 _
      rw [← HVK.out] at hown
      have hg5 : w4.grownBy w5 (Value.ownBlock (.slice va j vc)) := gb_trans (gb_trans (World.grownBy_alloc _ _ _) (World.grownBy_alloc _ _ _)) hgr5
      have V5' := V4.app (p := ⟨Ml, ⟨fa, fn, fc⟩, Ms, ⟨ra, rn, rc⟩⟩) (m := ⟨Ml, Mf, Ms, Mr⟩) rfl rfl F4 R4 hown hg5
      rw [← HST.out] at V5'
      obtain ⟨qc, qf, ql⟩ := own_loc V4r hg5 (r := w.heap.size + 1 + 1) (by omega) hW4
      have g1 : w5.cell? ⟨w.heap.size + 1 + 1, 0, none⟩ = some (.slice va j vc) := by rw [qc]; exact e1
      have gf1 : w5.frozen? ⟨w.heap.size + 1 + 1, 0, none⟩ = false := by rw [qf]; exact ef1
      have B5 : Below W.heap.size W w5 := HB4.out.grown hg5 (by omega) (fun x hx => by have := (World.ownsRow.lt V4r x hx).1; omega)
      obtain ⟨va', vc', hv'⟩ := V5'.shape
      have hl1 : (pms.take (j + 1)).length = j + 1 := by rw [List.length_take, HP.out, List.length_map, ← HN.out.2]; omega
      rw [hl1] at hv'
      subst hv'
      have V6 := V5'.kept (gb_set w5 (w.heap.size + 1 + 1) 0 (.slice va' (j + 1) vc')) (by omega)
      have B6 : Below W.heap.size W (w5.setCell ⟨w.heap.size + 1 + 1, 0, none⟩ (.slice va' (j + 1) vc')) := B5.setCell (by show W.heap.size ≤ w.heap.size + 1 + 1; omega) _
      clear hown hgr5 hg5 V5' V4 V4r F4 R4 qc qf hl1 e1 ef1
      go_wp2
      refine ⟨⟨j + 1, _, _, by omega, rfl, V6, ?_, ?_, ?_, B6⟩, by simp [intOf]; omega⟩
      · go_simp
      · go_simp
      · simpa using ql
    · obtain rfl : j = m := by omega
      have hfull : pms.take j = pms := List.take_of_length_le (by rw [HP.out, List.length_map, ← HN.out.2]; omega)
      have V := HVV.out
      rw [hfull] at V
      have a0 : wr.cell? ⟨w.heap.size + 1, 0, none⟩ = some (.slice none 0 0) := (hb.cell (p := ⟨w.heap.size + 1, 0, none⟩) u1).trans y1
      have b0 : wr.frozen? ⟨w.heap.size + 1, 0, none⟩ = false := (hb.frozen (p := ⟨w.heap.size + 1, 0, none⟩) u1).trans y2
      have v4 : w.heap.size + 1 < wr.heap.size := by omega
      clear hfull hb
      go_wp2
      refine bodyPost_ret (v := .agg #[.slice va j vc]) (by simp [results, Try.results70, go_sem, a0]) rfl ⟨_, _, _, us, rfl, ?_, ?_⟩
      · exact (V.kept (gb_set _ (w.heap.size + 1) _ _) (by omega)).mono (by omega)
      · exact hB.setCell (by show _ ≤ w.heap.size + 1; omega) _
end Go.Proofs.Ytbgilndohccicab
namespace Go.Proofs.Ytbgilndohccicab
open Go.RowKit

/-- A reader of sums stays within the text. -/
def Bd (s : ByteArray) (f : Nat → List GT → SumR) : Prop := ∀ k ts, k ≤ s.size → (f k ts).at_ ≤ s.size
theorem gNum_bd (s : ByteArray) : ∀ n k v, k ≤ s.size → (gNum s n k v).2 ≤ s.size := by
  intro n
  induction n with
  | zero => intro k v h; exact h
  | succ n ih =>
    intro k v h
    rw [gNum]
    split
    · rename_i hd
      have hk : k < s.size := nextB_pos (by omega)
      split
      · exact hk
      · exact ih _ _ hk
    · exact h
theorem facR_bd (s : ByteArray) (sm : Option (Nat → List GT → SumR)) (h : ∀ f, sm = some f → Bd s f) : Bd s (facR s sm) := by
  intro k ts hk
  unfold facR
  split
  · exact gNum_bd s 9 k 0 hk
  · split
    · rename_i hl
      exact nextB_pos (by omega)
    · split
      · exact hk
      · rename_i h40
        have hk' : k < s.size := nextB_pos (by omega)
        cases sm with
        | none => exact hk
        | some f =>
          have hb := h f rfl (k + 1) ts hk'
          simp only []
          split
          · rename_i h41
            exact nextB_pos (by rw [h41.2]; omega)
          · exact hb
theorem opLoop_bd (s : ByteArray) (p : Int → Bool) (hp : p 0 = false) (f : Nat → List GT → SumR) (h : Bd s f) : ∀ n r, r.at_ ≤ s.size → (opLoop s p f n r).at_ ≤ s.size := by
  intro n
  induction n with
  | zero => intro r hr; exact hr
  | succ n ih =>
    intro r hr
    rw [opLoop]
    split
    · rename_i hs
      have hk : r.at_ < s.size := by
        rcases Nat.lt_or_ge r.at_ s.size with h' | h'
        · exact h'
        · exfalso
          rw [nextB_out (by omega), hp] at hs
          exact Bool.false_ne_true hs.2
      exact ih _ (h (r.at_ + 1) r.ts hk)
    · exact hr
theorem prodR_bd (s : ByteArray) (sm : Option (Nat → List GT → SumR)) (h : ∀ f, sm = some f → Bd s f) : Bd s (prodR s sm) := fun k ts hk => opLoop_bd s isMul rfl _ (facR_bd s sm h) _ _ (facR_bd s sm h k ts hk)
theorem sumR0_bd (s : ByteArray) (sm : Option (Nat → List GT → SumR)) (h : ∀ f, sm = some f → Bd s f) : Bd s (sumR0 s sm) := fun k ts hk => opLoop_bd s isAdd rfl _ (prodR_bd s sm h) _ _ (prodR_bd s sm h k ts hk)
theorem sumRL_bd (s : ByteArray) : ∀ n, Bd s (sumRL s n) := by
  intro n
  induction n with
  | zero => exact sumR0_bd s none (fun f h => by cases h)
  | succ n ih => exact sumR0_bd s (some (sumRL s n)) (fun f h => by cases h; exact ih)
end Go.Proofs.Ytbgilndohccicab
