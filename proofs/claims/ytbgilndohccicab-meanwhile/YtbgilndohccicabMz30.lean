import Derived.Test.YtbgilndohccicabMz29
namespace Go.Proofs.Ytbgilndohccicab
open Go.RowKit

/-- The Letter that a class is made of. -/
def srcI (vs : List (Int × SV)) (l fl : Int) : Int := if fl ≠ 0 then fl else if hasC vs l = true then l else 0
def rcA (r : RCd) : Value := .agg #[.int .u8 r.l, .int .i64 r.p, .int .u8 r.fl, .int .i64 r.fp, .slice r.f.a r.f.n r.f.c]
set_option maxHeartbeats 400000 in
theorem sourceLetter_any (a : Option Addr) (n k : Nat) (vs : List (Int × SV)) (r : RCd) (w : World) (hv : CV w (.slice a n k) vs) :
    Calls Try.prog 83 #[.agg #[.slice a n k], rcA r] w fun e w' => e = .returned (.int .u8 (srcI vs r.l r.fl)) ∧ Below w.heap.size w w' := by
  unfold srcI rcA
  by_cases h0 : r.fl = 0
  · rw [if_neg (by simpa using h0)]
    have e0 : (r.fl != 0) = false := by simp [h0]
    have HB : Hid (Below w.heap.size w ((w.alloc (.cells #[.slice a n k] 72)).alloc (.cells #[.int .u8 r.l, .int .i64 r.p, .int .u8 r.fl, .int .i64 r.fp, .slice r.f.a r.f.n r.f.c] 156))) := ((Below.refl _ _).alloc (Nat.le_refl _) _).alloc (by simp) _
    have C := fun y (hy : hasC vs r.l = y) => find_rs (x := r.l) (hv.below HB.out) y hy
    clear h0 hv
    obtain ⟨fl, fs, hf⟩ : ∃ fl fs, findC vs r.l = (fl, fs) := ⟨_, _, rfl⟩
    rw [hf] at C
    clear hf
    cases hy : hasC vs r.l with
    | true =>
      have C1 := C true hy
      clear C
      go_enter Try.func83, Try.ntmps83
      go_wp2_with fail
      refine C1.mono ?_
      rintro e w1 ⟨rfl, B1⟩
      have l0 : w1.cell? ⟨w.heap.size + 1, 0, none⟩ = some (.int .u8 r.l) := (B1.cell (p := ⟨w.heap.size + 1, 0, none⟩) (by simp)).trans (by go_simp)
      have s1 : w.heap.size + 1 < w1.heap.size := by have := B1.size; simp at this; omega
      have B2 : Below w.heap.size w w1 := HB.out.trans (B1.mono HB.out.size)
      clear B1 C1
      go_wp2
      go_ret
      exact ⟨rfl, B2.alloc B2.size _⟩
    | false =>
      have C1 := C false hy
      clear C
      go_enter Try.func83, Try.ntmps83
      go_wp2_with fail
      refine C1.mono ?_
      rintro e w1 ⟨rfl, B1⟩
      have B2 : Below w.heap.size w w1 := HB.out.trans (B1.mono HB.out.size)
      clear B1 C1
      go_wp2
      go_ret
      exact ⟨rfl, B2.alloc B2.size _⟩
  · rw [if_pos h0]
    have e0 : (r.fl != 0) = true := by simp [h0]
    clear hv
    go_enter Try.func83, Try.ntmps83
    go_wp2
    go_ret
    exact ⟨rfl, ((Below.refl _ _).alloc (Nat.le_refl _) _).alloc (by simp) _⟩
set_option maxHeartbeats 400000 in
theorem isSource_row (a : Option Addr) (n ks : Nat) (vs : List (Int × SV)) (x : Int) (g cap m : Nat) (L : Nat → RCd) (w : World) (hv : CV w (.slice a n ks) vs) (hg : 0 < m → g < w.heap.size) (hm : m ≤ 9223372036854775807) (hc : ∀ i, i < m → CCell w g i (L i)) :
    Calls Try.prog 92 #[.agg #[.slice a n ks], .slice (some ⟨g, 0, none⟩) m cap, .int .u8 x] w fun e w' => e = .returned (.bool (hasB (fun i => srcI vs (L i).l (L i).fl) m x)) ∧ Below w.heap.size w w' := by
  have HV : Hid (CV w (.slice a n ks) vs) := hv
  clear hv
  go_enter Try.func92, Try.ntmps92
  go_wp2
  go_loopw [11] (fun i wr => ∃ k : Nat, k ≤ m ∧ i = .int .i64 k ∧ Hid (∀ j, j < k → ¬ srcI vs (L j).l (L j).fl = x) ∧ Below (w.heap.size + 1) (w.alloc (.cells #[.slice a n ks] 72)) wr) (fun i _ => m - (intOf i).toNat)
  case atStart => exact ⟨0, Nat.zero_le _, rfl, fun j hj => by omega, Below.refl _ _⟩
  case round =>
    obtain ⟨k, hk, rfl, hno, hb⟩ := hrel
    have hsz : w.heap.size + 1 ≤ wr.heap.size := by have := hb.size; simpa using this
    have hB : Below w.heap.size w wr := ((Below.refl _ _).alloc (Nat.le_refl _) _).trans (hb.mono (by omega))
    have r0 : wr.cell? ⟨w.heap.size, 0, none⟩ = some (.slice a n ks) := (hb.cell (p := ⟨w.heap.size, 0, none⟩) (by show w.heap.size < _; omega)).trans (by go_simp)
    have hws : w.heap.size < wr.heap.size := by omega
    by_cases hlt : k < m
    · have hg' := hg (by omega)
      obtain ⟨c0, c1, c2, c3, c4⟩ := (hc k hlt).below hB hg'
      have hgr : g < wr.heap.size := by omega
      obtain ⟨r, hr⟩ : ∃ r, r = L k := ⟨_, rfl⟩
      rw [← hr] at c0 c1 c2 c3 c4
      have HR : Hid (r = L k) := hr
      clear hr
      have hBa : Below w.heap.size w (wr.alloc (.cells #[.int .u8 r.l, .int .i64 r.p, .int .u8 r.fl, .int .i64 r.fp, .slice r.f.a r.f.n r.f.c] 156)) := hB.alloc (by omega) _
      have C := sourceLetter_any a n ks vs r _ (HV.out.below hBa)
      unfold rcA at C
      obtain ⟨y, hy⟩ : ∃ y, srcI vs r.l r.fl = y := ⟨_, rfl⟩
      rw [hy] at C
      have HY : Hid (srcI vs r.l r.fl = y) := hy
      clear hy
      by_cases h1 : y = x
      · have h1' : (y == x) = true := by simpa using h1
        have HX : Hid (hasB (fun i => srcI vs (L i).l (L i).fl) m x = true) := hasB_hit hlt (by rw [← HR.out, HY.out]; exact h1')
        clear h1
        go_wp2_with fail
        refine C.mono ?_
        rintro e w1 ⟨rfl, B1⟩
        go_wp2
        go_ret
        rw [HX.out]
        exact ⟨rfl, hBa.trans (B1.mono (by simp; omega))⟩
      · have h1' : (y == x) = false := by simpa using h1
        clear h1
        go_wp2_with fail
        refine C.mono ?_
        rintro e w1 ⟨rfl, B1⟩
        go_wp2
        go_roundw
        case rel => exact ⟨k + 1, by omega, by go_num, none_step (L := fun i => srcI vs (L i).l (L i).fl) hno (by rw [← HR.out, HY.out]; exact h1'), (hb.alloc hsz _).trans (B1.mono (by simp; omega))⟩
        case measure => simp [intOf]; omega
    · go_wp2
      go_ret
      exact ⟨ret_boolG (hasB_none (L := fun i => srcI vs (L i).l (L i).fl) (fun j hj => hno j (by omega))).symm, hB⟩
/-- sourceTwice: the place of the first class that is made of a Letter once more. -/
def stw (vs : List (Int × SV)) : List Int → List GCd → Int
  | _, [] => -1
  | ls, c :: r => if srcI vs c.l c.fl ≠ 0 ∧ ls.any (fun p => p == srcI vs c.l c.fl) = true then c.p else stw vs (ls ++ [srcI vs c.l c.fl]) r
set_option maxHeartbeats 400000 in
theorem sourceTwice_nil (a : Option Addr) (n ks : Nat) (vs : List (Int × SV)) (w : World) :
    Calls Try.prog 82 #[.agg #[.slice a n ks], .slice none 0 0] w fun e w' => e = .returned (.int .i64 (stw vs [] [])) ∧ Below w.heap.size w w' := by
  go_enter Try.func82, Try.ntmps82
  go_wp2
  refine wp_loop_rounds 1 ?_; rw [rounds_succ]
  go_wp2
  go_ret
  exact ⟨rfl, (Below.refl _ _).alloc (Nat.le_refl _) _⟩
set_option maxHeartbeats 1000000 in
set_option maxRecDepth 20000 in
theorem sourceTwice_row (a : Option Addr) (sn ks : Nat) (vs : List (Int × SV)) (g cap : Nat) (rs : List RCd) (cs : List GCd) (w : World) (hv : CV w (.slice a sn ks) vs) (hg : g < w.heap.size) (hm : rs.length ≤ 9223372036854775807) (hcap : rs.length ≤ cap) (hlen : rs.length = cs.length)
    (hc : ∀ i, i < rs.length → CCell w g i (rs[i]?.getD zR)) (hel : ∀ (i : Nat) (r : RCd) (c : GCd), rs[i]? = some r → cs[i]? = some c → CRel w 0 r c) :
    Calls Try.prog 82 #[.agg #[.slice a sn ks], .slice (some ⟨g, 0, none⟩) rs.length cap] w fun e w' => e = .returned (.int .i64 (stw vs [] cs)) ∧ Below w.heap.size w w' := by
  obtain ⟨n, hn⟩ : ∃ n, n = rs.length := ⟨_, rfl⟩
  rw [← hn] at hm hc hcap hlen ⊢
  have HN : Hid (n = rs.length ∧ n = cs.length) := ⟨hn, hlen⟩
  have HE : Hid (∀ (i : Nat) (r : RCd) (c : GCd), rs[i]? = some r → cs[i]? = some c → CRel w 0 r c) := hel
  have HC : Hid (∀ i, i < n → CCell w g i (rs[i]?.getD zR)) := hc
  have HL : Hid (∀ (i : Nat) (c : GCd), cs[i]? = some c → srcI vs (rs[i]?.getD zR).l (rs[i]?.getD zR).fl = srcI vs c.l c.fl) := by
    intro i c h
    have hi : i < rs.length := by have := (List.getElem?_eq_some_iff.1 h).1; omega
    have := hel i _ c (getD_of hi zR) h
    rw [this.l, this.fl]
  have HV : Hid (CV w (.slice a sn ks) vs) := hv
  clear hn hlen hel hc hv
  go_enter Try.func82, Try.ntmps82
  go_wp2
  go_loopw [10] (fun i wr => ∃ k : Nat, k ≤ n ∧ i = .int .i64 k ∧ Hid (stw vs [] cs = stw vs ((cs.take k).map (fun c => srcI vs c.l c.fl)) (cs.drop k)) ∧ Below (w.heap.size + 1) (w.alloc (.cells #[.slice a sn ks] 72)) wr) (fun i _ => n - (intOf i).toNat)
  case atStart => exact ⟨0, Nat.zero_le _, rfl, (by simp : _ = _), Below.refl _ _⟩
  case round =>
    obtain ⟨k, hk, rfl, HT, hb⟩ := hrel
    have hsz : w.heap.size + 1 ≤ wr.heap.size := by have := hb.size; simpa using this
    have hB : Below w.heap.size w wr := ((Below.refl _ _).alloc (Nat.le_refl _) _).trans (hb.mono (by omega))
    have r0 : wr.cell? ⟨w.heap.size, 0, none⟩ = some (.slice a sn ks) := (hb.cell (p := ⟨w.heap.size, 0, none⟩) (by show w.heap.size < _; omega)).trans (by go_simp)
    have hws : w.heap.size < wr.heap.size := by omega
    by_cases hlt : k < n
    · obtain ⟨r, hr⟩ : ∃ r, r = rs[k]?.getD zR := ⟨_, rfl⟩
      have hrk : rs[k]? = some r := by rw [hr]; exact getD_of (by rw [← HN.out.1]; exact hlt) zR
      obtain ⟨c, hck⟩ : ∃ c, cs[k]? = some c := ⟨_, List.getElem?_eq_getElem (by rw [← HN.out.2]; exact hlt)⟩
      have hrel := HE.out k r c hrk hck
      obtain ⟨c0, c1, c2, c3, c4⟩ := (HC.out k hlt).below hB hg
      rw [← hr] at c0 c1 c2 c3 c4
      have hgr : g < wr.heap.size := by omega
      have hst := HT.out
      rw [drop_cons hck, stw] at hst
      obtain ⟨x, hx⟩ : ∃ x, srcI vs c.l c.fl = x := ⟨_, rfl⟩
      obtain ⟨y, hy⟩ : ∃ y, ((cs.take k).map (fun c => srcI vs c.l c.fl)).any (fun p => p == x) = y := ⟨_, rfl⟩
      rw [hx, hy] at hst
      have hmap : (cs.take (k + 1)).map (fun c => srcI vs c.l c.fl) = (cs.take k).map (fun c => srcI vs c.l c.fl) ++ [x] := by rw [take_map _ hck, hx]
      have HX : Hid (srcI vs r.l r.fl = x) := by show _ = _; rw [hrel.l, hrel.fl]; exact hx
      have HI : Hid (hasB (fun j => srcI vs (rs[j]?.getD zR).l (rs[j]?.getD zR).fl) k x = y) := by
        show _ = _
        rw [has_take (fun c => srcI vs c.l c.fl) cs (fun j => srcI vs (rs[j]?.getD zR).l (rs[j]?.getD zR).fl) k x (by rw [← HN.out.2]; exact hk) HL.out]
        exact hy
      have HS : Hid (stw vs [] cs = if x ≠ 0 ∧ y = true then r.p else stw vs ((cs.take (k + 1)).map (fun c => srcI vs c.l c.fl)) (cs.drop (k + 1))) := by
        show _ = _
        rw [hmap, hrel.p]; exact hst
      have hBa : Below w.heap.size w (wr.alloc (.cells #[.int .u8 r.l, .int .i64 r.p, .int .u8 r.fl, .int .i64 r.fp, .slice r.f.a r.f.n r.f.c] 156)) := hB.alloc (by omega) _
      have C := sourceLetter_any a sn ks vs r _ (HV.out.below hBa)
      unfold rcA at C
      rw [HX.out] at C
      clear hr hrk hck hrel hst hmap HT hx hy
      go_wp2_with fail
      refine C.mono ?_
      rintro e w1 ⟨rfl, B1⟩
      have q0 : w1.cell? ⟨w.heap.size, 0, none⟩ = some (.slice a sn ks) := (B1.cell (p := ⟨w.heap.size, 0, none⟩) (by simp; omega)).trans (by go_simp)
      have q1 : w1.cell? ⟨wr.heap.size, 1, none⟩ = some (.int .i64 r.p) := (B1.cell (p := ⟨wr.heap.size, 1, none⟩) (by simp)).trans (by go_simp)
      have hs1 : wr.heap.size < w1.heap.size := by have := B1.size; simp at this; omega
      have BB : Below (w.heap.size + 1) (w.alloc (.cells #[.slice a sn ks] 72)) w1 := (hb.alloc hsz _).trans (B1.mono (by simp; omega))
      have BW : Below w.heap.size w w1 := hBa.trans (B1.mono (by simp; omega))
      have hkc : ¬ (cap : Int) < (k : Int) := by omega
      have CL : ∀ W : World, Below w1.heap.size w1 W → Calls Try.prog 92 #[.agg #[.slice a sn ks], .slice (some ⟨g, 0, none⟩) k cap, .int .u8 x] W fun e w' => e = .returned (.bool y) ∧ Below W.heap.size W w' := by
        intro W hW
        have hW' : Below w.heap.size w W := BW.trans (hW.mono BW.size)
        have := isSource_row a sn ks vs x g cap k (fun j => rs[j]?.getD zR) W (HV.out.below hW') (fun _ => Nat.lt_of_lt_of_le hg hW'.size) (by omega) (fun i hi => (HC.out i (by omega)).below hW' hg)
        rw [HI.out] at this
        exact this
      clear C B1 r0 c0 c1 c2 c3 c4 hBa
      by_cases hx0 : x = 0
      · have ex : (x != 0) = false := by simp [hx0]
        have HT' : Hid (stw vs [] cs = stw vs ((cs.take (k + 1)).map (fun c => srcI vs c.l c.fl)) (cs.drop (k + 1))) := by show _ = _; rw [HS.out, if_neg (by simp [hx0])]
        clear CL hx0
        go_wp2
        go_region
        all_goals
          go_wp2
          go_roundw
          case rel => exact ⟨k + 1, by omega, by go_num, HT', BB.drew⟩
          case measure => simp [intOf]; omega
      · have ex : (x != 0) = true := by simp [hx0]
        cases y with
        | true =>
          have HP : Hid (stw vs [] cs = r.p) := by show _ = _; rw [HS.out, if_pos ⟨hx0, rfl⟩]
          clear hx0
          go_wp2
          go_region_with (go_at_call 92; refine (CL _ (by with_reducible repeat first | exact Below.refl _ _ | apply Below.drew | (refine Below.alloc ?_ (Nat.le_refl _) _))).mono ?_; rintro e w2 ⟨rfl, hb2⟩)
          all_goals
            have p1 : w2.cell? ⟨wr.heap.size, 1, none⟩ = some (.int .i64 r.p) := (hb2.cell (p := ⟨wr.heap.size, 1, none⟩) (by simpa using hs1)).trans (by go_simp)
            go_wp2
            go_ret
            rw [HP.out]
            exact ⟨rfl, BW.drew.trans (hb2.mono (by simpa using BW.size))⟩
        | false =>
          have HT' : Hid (stw vs [] cs = stw vs ((cs.take (k + 1)).map (fun c => srcI vs c.l c.fl)) (cs.drop (k + 1))) := by show _ = _; rw [HS.out, if_neg (by simp)]
          clear hx0
          go_wp2
          go_region_with (go_at_call 92; refine (CL _ (by with_reducible repeat first | exact Below.refl _ _ | apply Below.drew | (refine Below.alloc ?_ (Nat.le_refl _) _))).mono ?_; rintro e w2 ⟨rfl, hb2⟩)
          all_goals
            go_wp2
            go_roundw
            case rel => exact ⟨k + 1, by omega, by go_num, HT', BB.drew.trans (hb2.mono (by simpa using BB.size))⟩
            case measure => simp [intOf]; omega
    · have HP : Hid (stw vs [] cs = -1) := by show _ = _; rw [HT.out, List.drop_eq_nil_of_le (by rw [← HN.out.2]; omega)]; rfl
      go_wp2
      go_ret
      rw [HP.out]
      exact ⟨rfl, hB⟩
end Go.Proofs.Ytbgilndohccicab
