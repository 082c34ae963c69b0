import Derived.Test.YthckelcjncnalabKz08
namespace Go.Proofs.Ythckelcjncnalab
open Go.RowKit

/-- A class as it lies in memory. -/
structure RCd where
  l : Int
  p : Int
  fl : Int
  fp : Int
  f : SV
def rcdV (r : RCd) : List Value := [.int .u8 r.l, .int .i64 r.p, .int .u8 r.fl, .int .i64 r.fp, .slice r.f.a r.f.n r.f.c]
def flatD (rs : List RCd) : List Value := rs.flatMap rcdV
structure CRel (w : World) (base : Nat) (r : RCd) (c : GCd) : Prop where
  l : r.l = c.l
  p : r.p = c.p
  fl : r.fl = c.fl
  fp : r.fp = c.fp
  fs : ∃ rs, GFs w base (.slice r.f.a r.f.n r.f.c) rs c.fs
/-- v is a slice of classes, made since base. -/
structure GCs (w : World) (base : Nat) (v : Value) (rs : List RCd) (cs : List GCd) : Prop where
  row : w.ownsRow base 120 5 v rs.length (flatD rs)
  len : rs.length = cs.length
  el : ∀ (i : Nat) (r : RCd) (c : GCd), rs[i]? = some r → cs[i]? = some c → CRel w base r c
theorem GCs.nil (w : World) (base : Nat) : GCs w base (.slice none 0 0) [] [] := ⟨World.ownsRow_nil _ _ _ _, rfl, fun i r f h _ => by simp at h⟩
theorem CRel.kept {w w' : World} {base b : Nat} {r : RCd} {c : GCd} (h : CRel w base r c) (g : w.grownBy w' (some b)) (hb : b < base) : CRel w' base r c := by
  obtain ⟨rs, hf⟩ := h.fs
  exact ⟨h.l, h.p, h.fl, h.fp, rs, hf.kept g hb⟩
theorem CRel.mono {w : World} {base base' : Nat} {r : RCd} {c : GCd} (h : CRel w base r c) (hb : base' ≤ base) : CRel w base' r c := by
  obtain ⟨rs, hf⟩ := h.fs
  exact ⟨h.l, h.p, h.fl, h.fp, rs, hf.mono hb⟩
theorem CRel.below {w w' : World} {base : Nat} {r : RCd} {c : GCd} (h : CRel w base r c) (hb : Below w.heap.size w w') : CRel w' base r c := by
  obtain ⟨rs, hf⟩ := h.fs
  exact ⟨h.l, h.p, h.fl, h.fp, rs, hf.below hb⟩
theorem GCs.kept {w w' : World} {base b : Nat} {v : Value} {rs : List RCd} {cs : List GCd} (h : GCs w base v rs cs) (g : w.grownBy w' (some b)) (hb : b < base) : GCs w' base v rs cs :=
  ⟨row_kept h.row g hb, h.len, fun i r f h1 h2 => (h.el i r f h1 h2).kept g hb⟩
theorem GCs.mono {w : World} {base base' : Nat} {v : Value} {rs : List RCd} {cs : List GCd} (h : GCs w base v rs cs) (hb : base' ≤ base) : GCs w base' v rs cs :=
  ⟨row_mono h.row hb, h.len, fun i r f h1 h2 => (h.el i r f h1 h2).mono hb⟩
theorem GCs.below {w w' : World} {base : Nat} {v : Value} {rs : List RCd} {cs : List GCd} (h : GCs w base v rs cs) (hb : Below w.heap.size w w') : GCs w' base v rs cs :=
  ⟨World.ownsRow.kept h.row (gb_below hb none) (by cases hv : v.ownBlock <;> simp), h.len, fun i r f h1 h2 => (h.el i r f h1 h2).below hb⟩
theorem GCs.shape {w : World} {base : Nat} {v : Value} {rs : List RCd} {cs : List GCd} (h : GCs w base v rs cs) : ∃ a c, v = .slice a cs.length c := by
  rw [← h.len]
  rcases h.row.2 with ⟨rfl, hn⟩ | ⟨g, cap, cur, rfl, _⟩
  · exact ⟨none, 0, by rw [hn]⟩
  · exact ⟨_, _, rfl⟩
theorem GFs.apart {w1 w2 : World} {base base' : Nat} {e : TypeId} {sz n : Nat} {xs : List Value} {v x : Value} {rs : List RFd} {fs : List GFd} (h : GFs w1 base v rs fs) (hx : w1.ownsRow base' e sz x n xs) (g : w1.grownBy w2 x.ownBlock) (h1 : 126 ≠ e) (h2 : 154 ≠ e) : GFs w2 base v rs fs :=
  ⟨World.ownsRow.kept h.row g (row_apart h.row hx h1), h.len, fun i r f h3 h4 => ⟨(h.el i r f h3 h4).l, (h.el i r f h3 h4).p, (h.el i r f h3 h4).k, (h.el i r f h3 h4).sp, (h.el i r f h3 h4).ex, World.ownsRow.kept (h.el i r f h3 h4).ts g (row_apart (h.el i r f h3 h4).ts hx h2)⟩⟩
theorem GCs.app {w1 w2 : World} {base : Nat} {v v' : Value} {rs : List RCd} {cs : List GCd} {r : RCd} {c : GCd} {o1 o2 : Obj} (V : GCs w1 base v rs cs) (F : CRel w1 base r c)
    (hown : w2.ownsRow base 120 5 v' (rs.length + 1) (flatD rs ++ rcdV r)) (hg : ((w1.alloc o1).alloc o2).grownBy w2 v.ownBlock) : GCs w2 base v' (rs ++ [r]) (cs ++ [c]) := by
  have hg1 : w1.grownBy w2 v.ownBlock := gb_trans (gb_trans (World.grownBy_alloc w1 o1 _) (World.grownBy_alloc _ o2 _)) hg
  have hk : ∀ r c, CRel w1 base r c → CRel w2 base r c := fun r c h => by
    obtain ⟨rs, hf⟩ := h.fs
    exact ⟨h.l, h.p, h.fl, h.fp, rs, hf.apart V.row hg1 (by decide) (by decide)⟩
  have hl := V.len
  refine ⟨by simpa [flatD] using hown, by simp [hl], fun i r' f' h1 h2 => ?_⟩
  rcases Nat.lt_or_ge i rs.length with hi | hi
  · rw [List.getElem?_append_left hi] at h1
    rw [List.getElem?_append_left (by omega)] at h2
    exact hk _ _ (V.el i r' f' h1 h2)
  · rw [List.getElem?_append_right hi] at h1
    rw [List.getElem?_append_right (by omega)] at h2
    have hi0 : i - rs.length = 0 := by
      have := (List.getElem?_eq_some_iff.1 h1).1; simp at this; omega
    have hj0 : i - cs.length = 0 := by omega
    rw [hi0] at h1; rw [hj0] at h2
    simp at h1 h2
    subst h1; subst h2
    exact hk _ _ F

theorem gb_below_drew (w : World) (n : Nat) : Below w.heap.size w (w.drewN n) := ⟨rfl, rfl, rfl, Nat.le_refl _, fun _ _ => rfl⟩
theorem Try.infoGClass : (Try.prog.info? 120).map (fun i => (i.zero, i.size, i.bytes)) = some (some (.agg #[.int .u8 0, .int .i64 0, .int .u8 0, .int .i64 0, .slice none 0 0]), 5, 56) := by kernel_rfl

structure GCSR where
  ok : Bool
  at_ : Nat
  cs : List GCd
def gcLoop (ru : ByteArray → Nat → RuleR) (fr : ByteArray → Nat → FromR) (s : ByteArray) : Nat → List GCd → Nat → GCSR
  | 0, _, k => ⟨false, k, []⟩
  | n + 1, cs, k =>
    if (gdClass ru fr s k).ok = false then ⟨false, (gdClass ru fr s k).at_, []⟩
    else if (gdClass ru fr s k).at_ = s.size then ⟨true, (gdClass ru fr s k).at_, cs ++ [(gdClass ru fr s k).c]⟩
    else gcLoop ru fr s n (cs ++ [(gdClass ru fr s k).c]) (gdClass ru fr s k).at_
def ClassesPost (R : GCSR) (w : World) (b : Nat) (s : ByteArray) (u : Bool) (e : Ending) (w' : World) : Prop := ∃ (a : Option Addr) (n c : Nat) (rs : List RCd),
  e = .returned (.tuple #[.slice a n c, .bool R.ok]) ∧ GCs w' w.heap.size (.slice a n c) rs R.cs ∧ RS w' b s R.at_ u ∧ w.grownBy w' (some b)

set_option maxHeartbeats 1000000 in
set_option maxRecDepth 20000 in
theorem gclasses_any {u : Bool} {ru : ByteArray → Nat → RuleR} {fr : ByteArray → Nat → FromR} (HRU : RuleC u ru) (HFR : FromC u fr) (s : ByteArray) (b k : Nat) (w : World) (h : RS w b s k u) :
    Calls Try.prog 63 #[.pointer (some ⟨b, 0, none⟩)] w (ClassesPost (gcLoop ru fr s 6 [] k) w b s u) := by
  obtain ⟨i0, hi, hz0, hz1, hz2⟩ := infoParts2 Try.infoGClass
  have hb := h.blt
  obtain ⟨R, hR⟩ : ∃ R, R = gcLoop ru fr s 6 [] k := ⟨_, rfl⟩
  rw [← hR]
  have HR : Hid (R = gcLoop ru fr s 6 [] k) := hR
  clear hR
  go_enter Try.func63, Try.ntmps63
  go_wp2
  go_loopg [4] 7 (fun gk v wr => ∃ cs rs k, gk = 7 - cs.length ∧ cs.length ≤ 6 ∧ R = gcLoop ru fr s (6 - cs.length) cs k ∧ RS wr b s k u ∧ GCs wr w.heap.size v rs cs ∧ w.grownBy wr (some b))
  case atStart => exact ⟨[], [], k, rfl, by decide, HR.out, h, GCs.nil _ _, World.grownBy.refl _ _⟩
  case round =>
    obtain ⟨cs, rs, k, hgk, hlen, hR', R0, V0, G0⟩ := hrel
    obtain ⟨ad, cp, rfl⟩ := V0.shape
    by_cases h6 : cs.length = 6
    · rw [h6, Nat.sub_self, gcLoop] at hR'
      subst hR'
      have h6' : 6 ≤ cs.length := by omega
      clear h6 hgk HR
      go_wp2
      go_ret2
      exact ⟨_, _, _, [], rfl, GCs.nil _ _, R0, G0⟩
    have Fc := gclass_any HRU HFR s b k wr R0
    obtain ⟨ok, a, c, hr⟩ : ∃ ok a c, gdClass ru fr s k = ⟨ok, a, c⟩ := ⟨_, _, _, rfl⟩
    obtain ⟨n', hn'⟩ : ∃ n', 6 - cs.length = n' + 1 := ⟨6 - cs.length - 1, by omega⟩
    rw [hn', gcLoop, hr] at hR'
    rw [hr] at Fc
    simp only [] at hR' Fc
    have hl6 : cs.length < 6 := by omega
    have hs0 := G0.size
    have HK : Hid (6 - cs.length = n' + 1 ∧ gk = 7 - cs.length) := ⟨hn', hgk⟩
    clear hgk HR hr hn' h6
    cases ok with
    | false =>
      rw [if_pos rfl] at hR'
      subst hR'
      go_wp2_with fail
      refine Fc.mono ?_
      rintro e w1 ⟨a1, n1, c1, rs1, rfl, F1, R1, g1⟩
      simp only [classV] at R1 F1 ⊢
      have G1 := gb_trans G0 g1
      clear Fc
      go_wp2
      go_ret2
      exact ⟨_, _, _, [], rfl, GCs.nil _ _, R1.alloc _, gb_alloc G1 _⟩
    | true =>
      rw [if_neg (by decide)] at hR'
      have HR : Hid (R = _) := hR'
      clear hR'
      go_wp2_with fail
      refine Fc.mono ?_
      rintro e w1 ⟨a1, n1, c1, rs1, rfl, F1', R1, g1⟩
      simp only [classV] at R1 F1' ⊢
      have V1 := V0.kept g1 hb
      have G1 := gb_trans G0 g1
      have hs1 := G1.size
      have hvl : rs.length = cs.length := V1.len
      have F1 : CRel w1 w.heap.size ⟨c.l, c.p, c.fl, c.fp, ⟨a1, n1, c1⟩⟩ c := ⟨rfl, rfl, rfl, rfl, rs1, F1'.mono hs0⟩
      clear Fc V0 F1' g1
      have V1r := V1.row
      rw [hvl] at V1r
      have HVL : Hid (rs.length = cs.length) := hvl
      clear hvl
      go_wp2_with (at_builtin; refine wpList_append_own _ rfl _ _ 93 rfl w.heap.size 120 i0 _ 5 56 Try.underlying93 hi hz0 hz1 hz2 rfl (by decide) _ cs.length (flatD rs) rfl ((V1r.alloc _).alloc _) ⟨w1.heap.size + 1, 0, none⟩ 1 1 (rcdV ⟨c.l, c.p, c.fl, c.fp, ⟨a1, n1, c1⟩⟩) rfl rfl ?c1 ?c2 ?c3 ?c4 ?c5 ?_)
      case c1 => exact cells_list _ _ _ _
      case c2 => intro y hy; simp [rcdV] at hy; rcases hy with rfl | rfl | rfl | rfl | rfl <;> rfl
      case c3 => unfold maxLen; omega
      case c4 => omega
      case c5 => simp; omega
      intro v' w2 hown hgr _
      rw [← HVL.out] at hown
      have V2 := V1.app F1 hown hgr
      obtain ⟨R2, G2⟩ := own_frame hb (Nat.le_refl _) R1 V1r G1 hgr
      obtain ⟨ad', cp', hv'⟩ := V2.shape
      have hl1 : (cs ++ [c]).length = cs.length + 1 := by simp
      rw [hl1] at hv'
      subst hv'
      clear hown hgr V1 V1r R1 F1 hl1 HVL
      obtain ⟨p0, p1, p2, _, q1, q3, ple, plt⟩ := id R2
      by_cases ha : a = s.size
      · have HR2 := HR.out
        rw [if_pos ha] at HR2
        subst HR2
        have ha' : ((a : Int) == (s.size : Int)) = true := by simp [ha]
        clear ha HR
        go_wp2
        go_quiet (fail)
        go_wp2
        go_ret2
        exact ⟨_, _, _, _, rfl, V2.below (gb_below_drew _ _), R2.drewN nq, gb_drew G2 nq⟩
      · have HR2 := HR.out
        rw [if_neg ha] at HR2
        have HR' : Hid (R = _) := HR2
        have ha' : ((a : Int) == (s.size : Int)) = false := by simp; omega
        clear ha HR HR2
        go_wp2
        go_quiet (fail)
        go_wp2
        go_roundg (n' + 1)
        case measure => have := HK.out; omega
        case rel =>
          have hk := HK.out
          refine ⟨cs ++ [c], _, a, by simp; omega, by simp; omega, ?_, R2.drewN nq, V2.below (gb_below_drew _ _), gb_drew G2 nq⟩
          have e : 6 - (cs ++ [c]).length = n' := by simp; omega
          rw [e]; exact HR'.out
end Go.Proofs.Ythckelcjncnalab
namespace Go.Proofs.Ythckelcjncnalab
open Go.RowKit

/-- What read comes to. -/
def gdE (R : GCSR) (s : ByteArray) : Int := if 200 < s.size then 1 else if R.ok = false then 2 else 0
def gdP (R : GCSR) (s : ByteArray) : Int := if 200 < s.size then 0 else if R.ok = false then (R.at_ : Int) else 0
def gdC (R : GCSR) (s : ByteArray) : List GCd := if 200 < s.size then [] else if R.ok = false then [] else R.cs
def GReadPost (R : GCSR) (s : ByteArray) (w : World) (e : Ending) (w' : World) : Prop := ∃ (a : Option Addr) (n c : Nat) (rs : List RCd),
  e = .returned (.tuple #[.slice a n c, .int .i64 (gdE R s), .int .i64 (gdP R s)]) ∧ GCs w' w.heap.size (.slice a n c) rs (gdC R s) ∧ Below w.heap.size w w'

set_option maxHeartbeats 400000 in
theorem gread_any {u : Bool} {ru : ByteArray → Nat → RuleR} {fr : ByteArray → Nat → FromR} (HRU : RuleC u ru) (HFR : FromC u fr) (s : ByteArray) (w : World) (hm : s.size ≤ 9223372036854775807) :
    Calls Try.prog 50 #[.string s, .bool u] w (GReadPost (gcLoop ru fr s 6 [] 0) s w) := by
  by_cases hs : 200 < s.size
  · have e1 : gdE (gcLoop ru fr s 6 [] 0) s = 1 := by rw [gdE, if_pos hs]
    have e2 : gdP (gcLoop ru fr s 6 [] 0) s = 0 := by rw [gdP, if_pos hs]
    have e3 : gdC (gcLoop ru fr s 6 [] 0) s = [] := by rw [gdC, if_pos hs]
    go_enter Try.func50, Try.ntmps50
    go_wp2
    refine bodyPost_ret (v := .tuple #[.slice none 0 0, .int .i64 1, .int .i64 0]) (by simp [results, Try.results50, go_sem]) rfl ⟨_, _, _, [], by rw [e1, e2], by rw [e3]; exact GCs.nil _ _, Below.refl _ _⟩
  · have hs' : s.size ≤ 200 := by omega
    have R0 : RS (w.alloc (.cells #[.string s, .int .i64 0, .bool u, .slice none 0 0] 143)) w.heap.size s 0 u := by
      refine ⟨?_, ?_, ?_, ⟨.slice none 0 0, ?_⟩, ?_, ?_, Nat.zero_le _, by omega⟩ <;> go_simp
    have Cc := gclasses_any HRU HFR s w.heap.size 0 _ R0
    obtain ⟨ok, a, cs, hr⟩ : ∃ ok a cs, gcLoop ru fr s 6 [] 0 = ⟨ok, a, cs⟩ := ⟨_, _, _, rfl⟩
    rw [hr] at Cc ⊢
    have e1 : gdE ⟨ok, a, cs⟩ s = if ok = false then 2 else 0 := by rw [gdE, if_neg hs]
    have e2 : gdP ⟨ok, a, cs⟩ s = if ok = false then (a : Int) else 0 := by rw [gdP, if_neg hs]
    have e3 : gdC ⟨ok, a, cs⟩ s = if ok = false then [] else cs := by rw [gdC, if_neg hs]
    clear hr hs R0
    cases ok with
    | false =>
      rw [if_pos rfl] at e1 e2 e3
      have E : Hid (gdE ⟨false, a, cs⟩ s = 2 ∧ gdP ⟨false, a, cs⟩ s = a ∧ gdC ⟨false, a, cs⟩ s = []) := ⟨e1, e2, e3⟩
      clear e1 e2 e3
      go_enter Try.func50, Try.ntmps50
      go_wp2_with fail
      refine Cc.mono ?_
      rintro e w1 ⟨va, vn, vc, rs, rfl, V1, R1, hg1⟩
      simp only [] at R1 ⊢
      obtain ⟨p0, p1, p2, _, q1, q3, _, _⟩ := id R1
      have B1 : Below w.heap.size w w1 := below_of_gb hg1 ((Below.refl _ _).alloc (Nat.le_refl _) _) (Nat.le_refl _)
      clear Cc hg1 V1
      go_wp2
      go_quiet (fail)
      go_wp2
      refine bodyPost_ret (v := .tuple #[.slice none 0 0, .int .i64 2, .int .i64 a]) (by simp [results, Try.results50, go_sem]) rfl ⟨_, _, _, [], by rw [E.out.1, E.out.2.1], by rw [E.out.2.2]; exact GCs.nil _ _, B1.trans ((gb_below_drew _ _).mono B1.size)⟩
    | true =>
      rw [if_neg (by decide)] at e1 e2 e3
      have E : Hid (gdE ⟨true, a, cs⟩ s = 0 ∧ gdP ⟨true, a, cs⟩ s = 0 ∧ gdC ⟨true, a, cs⟩ s = cs) := ⟨e1, e2, e3⟩
      clear e1 e2 e3
      go_enter Try.func50, Try.ntmps50
      go_wp2_with fail
      refine Cc.mono ?_
      rintro e w1 ⟨va, vn, vc, rs, rfl, V1', R1, hg1⟩
      simp only [] at R1 V1' ⊢
      have B1 : Below w.heap.size w w1 := below_of_gb hg1 ((Below.refl _ _).alloc (Nat.le_refl _) _) (Nat.le_refl _)
      have V1 : GCs w1 w.heap.size (.slice va vn vc) rs cs := V1'.mono (by simp)
      clear Cc hg1 V1'
      go_wp2
      refine bodyPost_ret (v := .tuple #[.slice va vn vc, .int .i64 0, .int .i64 0]) (by simp [results, Try.results50, go_sem]) rfl ⟨_, _, _, rs, by rw [E.out.1, E.out.2.1], by rw [E.out.2.2]; exact V1, B1⟩

set_option maxHeartbeats 400000 in
theorem readSchema_any (s : ByteArray) (w : World) (hm : s.size ≤ 9223372036854775807) :
    Calls Try.prog 35 #[.string s] w (GReadPost (gcLoop noRule noFrom s 6 [] 0) s w) := by
  obtain ⟨R, hR⟩ : ∃ R, R = gcLoop noRule noFrom s 6 [] 0 := ⟨_, rfl⟩
  have C := gread_any rule_no from_no s w hm
  rw [← hR] at C ⊢
  clear hR
  go_enter Try.func35, Try.ntmps35
  go_wp2_with fail
  refine C.mono ?_
  rintro e w1 ⟨va, vn, vc, rs, rfl, V1, B1⟩
  clear C
  obtain ⟨x, hx⟩ : ∃ x, x = gdE R s := ⟨_, rfl⟩
  obtain ⟨y, hy⟩ : ∃ y, y = gdP R s := ⟨_, rfl⟩
  rw [← hx, ← hy]
  have HX : Hid (x = gdE R s ∧ y = gdP R s) := ⟨hx, hy⟩
  clear hx hy
  go_wp2
  refine bodyPost_ret (v := .tuple #[.slice va vn vc, .int .i64 x, .int .i64 y]) (by simp [results, Try.results35, go_sem]) rfl ⟨_, _, _, rs, by rw [HX.out.1, HX.out.2], V1, B1⟩
end Go.Proofs.Ythckelcjncnalab
