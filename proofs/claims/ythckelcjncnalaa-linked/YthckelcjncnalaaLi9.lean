import Derived.Test.YthckelcjncnalaaLi8
namespace Go.Proofs.Ythckelcjncnalaa
open Go.RowKit

def setV (G : GG) (o : Nat) (y : Int) : GG := { G with v := set1 G.v o y }
theorem gw_setV {G : GG} (h : GW G) (o : Nat) {y : Int} (h1 : -9223372036854775808 ≤ y) (h2 : y ≤ 9223372036854775807) : GW (setV G o y) := by
  refine ⟨h.R, h.a, h.b, h.c, fun j hj => ?_⟩
  show -9223372036854775808 ≤ set1 G.v o y j ∧ set1 G.v o y j ≤ 9223372036854775807
  by_cases e : j = o
  · subst e; rw [set1_self]; exact ⟨h1, h2⟩
  · rw [set1_ne _ _ e]; exact h.v j hj
theorem set1_twice {α : Type} (f : Nat → α) (o : Nat) (x y : α) : set1 (set1 f o x) o y = set1 f o y := by
  funext j
  by_cases e : j = o
  · subst e; rw [set1_self, set1_self]
  · rw [set1_ne _ _ e, set1_ne _ _ e, set1_ne _ _ e]
theorem setV_twice (G : GG) (o : Nat) (x y : Int) : setV (setV G o x) o y = setV G o y := by
  unfold setV; simp only [set1_twice]
/-- A cell of a node is set: the world's side alone. -/
theorem LK.mkCell {w w0 : World} {B gb lo hi hb : Nat} {sv : SV} {vs : List (Int × SV)} {sz : Int} {nv nv0 : Value} {p p0 : PH} {G G0 G' : GG} (h : LK w0 B gb lo hi hb sv vs sz nv0 p0 G0) (cl : ClsIn w lo hi (.slice sv.a sv.n sv.c) vs csL) (gp : GP w gb hb sz nv G.R) (nd : ND w (hb + 1) nv G) {g o k : Nat} (hg : nv.ownBlock = some g) (ho : o < G.n) (hk : k < 4) (x : Value) (hn : G'.n = G.n) (hR : G'.R = G.R)
    (he : ∀ j, j < G.n → nodeV G' j = if j = o then (nodeV G o).set k x else nodeV G j) (hp : HP w hb sv sz p.R p.K p.N p.F) :
    HP (w.setCell ⟨g, o * 4 + k, none⟩ x) hb sv sz p.R p.K p.N p.F ∧ ClsIn (w.setCell ⟨g, o * 4 + k, none⟩ x) lo hi (.slice sv.a sv.n sv.c) vs csL ∧ GP (w.setCell ⟨g, o * 4 + k, none⟩ x) gb hb sz nv G'.R ∧ ND (w.setCell ⟨g, o * 4 + k, none⟩ x) (hb + 1) nv G' := by
  have q1 := h.b1; have q2 := h.b2; have q3 := h.b3
  have hgl := (World.ownsRow.lt nd g hg).1
  obtain ⟨na, nc, hnv⟩ := nd.shape
  subst hnv
  obtain ⟨g', hga, _⟩ := nd.cells.2.2 o ho
  subst hga
  have hgg : g' = g := by simpa [Value.ownBlock] using hg
  subst hgg
  refine ⟨hp.kept (heap_setCell_other _ _ _ _ (by show hb ≠ g'; omega)), cl.keep fun b _ hb2 => heap_setCell_other _ _ _ _ (by show b ≠ g'; omega), ?_, nd.set ho hk x hn he⟩
  rw [hR]
  exact gp.keep (heap_setCell_other _ _ _ _ (by show gb ≠ g'; omega))
set_option maxRecDepth 20000 in
set_option maxHeartbeats 2000000 in
theorem gput_any {B gb lo hi hb : Nat} {sv : SV} {vs : List (Int × SV)} {sz : Int} {nv : Value} {p : PH} {G : GG} {w : World} (h : LK w B gb lo hi hb sv vs sz nv p G) (root : Nat) (hr : root < 8) (v : Int) (hv1 : -9223372036854775808 ≤ v) (hv2 : v ≤ 9223372036854775807) :
    Calls Try.prog 42 #[.pointer (some ⟨gb, 0, none⟩), .int .i64 root, .int .i64 v] w (GOk B gb lo hi hb sv vs sz G.n w) := by
  have C := put_any hb sv sz p.R p.K p.N p.F lo vs csL w h.hp h.cl.cls h.pw.root csL_6 root 118 v hv1 hv2
  unfold PutPost at C
  rw [(get_meet h.sim root 118).1] at C
  have HL : Hid (LK w B gb lo hi hb sv vs sz nv p G) := h
  have g0 := h.gp.h
  have hgb := h.gp.lt
  have hRr := h.gw.R root hr
  have hrb : (0 : Int) ≤ (root : Int) ∧ (root : Int) < 8 := by omega
  obtain ⟨y, hy⟩ : ∃ y, y = G.R root := ⟨_, rfl⟩
  have HY : Hid (y = G.R root) := hy
  have HV : Hid (-9223372036854775808 ≤ v ∧ v ≤ 9223372036854775807) := ⟨hv1, hv2⟩
  unfold GOk
  by_cases h0 : G.R root < 0
  · have e9 : (fnum (ffind csL (dh G).R (dh G).K root 118)).e = 9 := by rw [gf_nil 118 hr h0]; rfl
    rw [e9, if_neg (by decide)] at C
    have hy0 : y < 0 := by rw [hy]; exact h0
    clear h hy h0 e9 hRr hv1 hv2
    go_enter Try.func42, Try.ntmps42
    go_wp2_with fail
    refine C.mono ?_
    rintro e w1 ⟨rfl, hp1, g1⟩
    obtain ⟨L1, B1⟩ := HL.out.kept hp1 g1
    have cr : w1.cell? ⟨gb, 3 + root, none⟩ = some (.int .i64 y) := by rw [HY.out]; exact L1.gp.r root hr
    have hg1 := L1.gp.lt
    have HF : Hid (LK w1 B gb lo hi hb sv vs sz nv p G ∧ Below B w w1) := ⟨L1, B1⟩
    clear C L1 B1 hp1 g1 g0
    go_wp2
    go_ret
    exact ⟨rfl, HF.out.2, _, _, _, HF.out.1, Nat.le_refl _⟩
  · obtain ⟨o, ho⟩ : ∃ o : Nat, G.R root = o := ⟨(G.R root).toNat, by omega⟩
    have hoG : o < G.n := by omega
    have hyo : y = o := by rw [hy]; exact ho
    subst hyo
    have hny : ¬ (o : Int) < 0 := by omega
    have F := gf_v h.gw hr hoG ho
    have e0 : (fnum (ffind csL (dh G).R (dh G).K root 118)).e = 0 := by
      rw [F]; unfold fnum
      simp only []
      rw [if_pos trivial]
      split
      · rfl
      · rfl
    have e0' : (fnum (ffind csL p.R p.K root 118)).e = 0 := by rw [(get_meet h.sim root 118).1]; exact e0
    obtain ⟨x, hx⟩ : ∃ x, x = wrK (if G.c o = 78 then 108 else 119) v := ⟨_, rfl⟩
    have ek : wrK (ffind csL p.R p.K root 118).k v = x := by
      obtain ⟨M, hM⟩ := h.sim
      rw [(find_meet hM root 118).2.2.1, F, hx]
    rw [e0, if_pos rfl, ek] at C
    have hsim := put_meet h.sim root 118 x e0'
    rw [F] at hsim
    obtain ⟨p', hp'⟩ : ∃ p' : PH, p' = { p with N := set2 p.N (ffind csL p.R p.K root 118).n (ffind csL p.R p.K root 118).i x } := ⟨_, rfl⟩
    have hpw : Pw p' := by rw [hp']; exact ⟨h.pw.root, h.pw.ref⟩
    have C' : Calls Try.prog 17 #[.pointer (some ⟨hb, 0, none⟩), .int .i64 root, .int .u8 118, .int .i64 v] w fun e w' => e = .returned (.int .i64 0) ∧ HP w' hb sv sz p'.R p'.K p'.N p'.F ∧ w.grownBy w' (some hb) := by
      rw [hp']; exact C
    have HS : Hid (Sim csL p' (dh (setV G o x))) := by
      rw [hp']; exact sim_setV hsim
    have hcc := h.gw.c o hoG
    have hcs : (G.c o = 78 ∧ x = v) ∨ (G.c o = 81 ∧ x = (v + 2147483648) % 4294967296 - 2147483648) := by
      rcases hcc with hc | ⟨hc, _⟩
      · left; exact ⟨hc, by rw [hx, if_pos hc]; rfl⟩
      · right; exact ⟨hc, by rw [hx, if_neg (by rw [hc]; decide)]; rfl⟩
    clear h hy h0 e0 e0' hRr ho C hsim F ek hx hcc hp' hv1 hv2
    go_enter Try.func42, Try.ntmps42
    go_wp2_with fail
    refine C'.mono ?_
    rintro e w1 ⟨rfl, hp1, g1⟩
    obtain ⟨P1, P2, P3, P4, P5, P6⟩ := HL.out.heap hp1 g1 hpw
    have cr : w1.cell? ⟨gb, 3 + root, none⟩ = some (.int .i64 (o : Int)) := by rw [HY.out]; exact P3.r root hr
    have hg1 := P3.lt
    have L0 := HL.out
    obtain ⟨na, nc, hnv⟩ := P4.shape
    subst hnv
    obtain ⟨ng, hna, hnb, hnl, hnc⟩ := P4.cells.2.2 o hoG
    subst hna
    have cn := P3.n
    have c0 := hnc.c0
    have c1 := hnc.c1
    have fz1 := hnc.fz (o * 4 + 1)
    obtain ⟨n, hn⟩ : ∃ n, n = G.n := ⟨_, rfl⟩
    have hob : (0 : Int) ≤ (o : Int) ∧ (o : Int) < (n : Int) := by omega
    rw [← hn] at cn
    have HQ : Hid (HP w1 hb sv sz p'.R p'.K p'.N p'.F ∧ ClsIn w1 lo hi (.slice sv.a sv.n sv.c) vs csL ∧ GP w1 gb hb sz (.slice (some ⟨ng, 0, none⟩) G.n nc) G.R ∧ ND w1 (hb + 1) (.slice (some ⟨ng, 0, none⟩) G.n nc) G ∧ Below B w w1) := ⟨P1, P2, P3, P4, P6⟩
    have hBn : B ≤ ng := by have := L0.b0; have := L0.b1; have := L0.b2; have := L0.b3; omega
    have hgn : gb ≠ ng := by have := L0.b1; have := L0.b2; have := L0.b3; omega
    clear C' hp1 g1 g0 P1 P2 P3 P4 P5 P6 L0 hnc hn
    rcases hcs with ⟨hc, rfl⟩ | ⟨hc, hx⟩
    · rw [hc] at c0
      have HC : Hid (G.c o = 78) := hc
      clear hc
      go_wp2
      go_ret
      obtain ⟨R1, R2, R3, R4, R5⟩ := HQ.out
      refine ⟨rfl, R5.setCell (by show B ≤ ng; exact hBn) _, .slice (some ⟨ng, 0, none⟩) G.n nc, p', setV G o x, ?_, Nat.le_refl _⟩
      exact LK.mkNode (k := 1) HL.out R2 R3 R4 rfl hoG (by decide) _ rfl rfl (node_v G o x) R1 hpw HS.out (gw_setV HL.out.gw o HV.out.1 HV.out.2)
    · rw [hc] at c0
      have HC : Hid (G.c o = 81) := hc
      have HX : Hid (x = (v + 2147483648) % 4294967296 - 2147483648) := hx
      clear hc hx
      go_wp2
      go_ret
      have ex : wrap64 (wrap32 v) = x := by rw [HX.out]; unfold wrap64 wrap32; omega
      rw [ex]
      obtain ⟨R1, R2, R3, R4, R5⟩ := HQ.out
      obtain ⟨S1, S2, S3, S4⟩ := LK.mkCell (k := 1) (G' := setV G o v) HL.out R2 R3 R4 rfl hoG (by decide) (.int .i64 v) rfl rfl (node_v G o v) R1
      have hxb := HX.out
      refine ⟨rfl, (R5.setCell (by show B ≤ ng; exact hBn) _).setCell (by show B ≤ ng; exact hBn) _, .slice (some ⟨ng, 0, none⟩) G.n nc, p', setV G o x, ?_, Nat.le_refl _⟩
      have hnode := node_v (setV G o v) o x
      have hG : setV (setV G o v) o x = setV G o x := setV_twice G o v x
      exact LK.mkNode (k := 1) (G := setV G o v) HL.out S2 S3 S4 rfl hoG (by decide) _ rfl rfl (by rw [← hG]; exact hnode) S1 hpw HS.out (gw_setV HL.out.gw o (by omega) (by omega))
end Go.Proofs.Ythckelcjncnalaa
