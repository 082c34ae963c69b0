import Derived.Test.YthckelcjncnalabKz14
import Derived.Test.YthckelcjncnalabKz01
namespace Go.Proofs.Ythckelcjncnalab
open Go.RowKit

/-- The Letter that a class is made of. -/
def srcI (vs : List (Int × SV)) (l fl : Int) : Int := if fl ≠ 0 then fl else if hasC vs l = true then l else 0
def rcA (r : RCd) : Value := .agg #[.int .u8 r.l, .int .i64 r.p, .int .u8 r.fl, .int .i64 r.fp, .slice r.f.a r.f.n r.f.c]
set_option maxHeartbeats 400000 in
theorem sourceLetter_any (a : Option Addr) (n k : Nat) (vs : List (Int × SV)) (r : RCd) (w : World) (hv : CV w (.slice a n k) vs) :
    Calls Try.prog 56 #[.agg #[.slice a n k], rcA r] w fun e w' => e = .returned (.int .u8 (srcI vs r.l r.fl)) ∧ Below w.heap.size w w' := by
  unfold srcI rcA
  by_cases h0 : r.fl = 0
  · rw [if_neg (by simpa using h0)]
    have e0 : (r.fl != 0) = false := by simp [h0]
    have HB : Hid (Below w.heap.size w ((w.alloc (.cells #[.slice a n k] 52)).alloc (.cells #[.int .u8 r.l, .int .i64 r.p, .int .u8 r.fl, .int .i64 r.fp, .slice r.f.a r.f.n r.f.c] 120))) := ((Below.refl _ _).alloc (Nat.le_refl _) _).alloc (by simp) _
    have C := fun y (hy : hasC vs r.l = y) => find_rs (x := r.l) (hv.below HB.out) y hy
    clear h0 hv
    obtain ⟨fl, fs, hf⟩ : ∃ fl fs, findC vs r.l = (fl, fs) := ⟨_, _, rfl⟩
    rw [hf] at C
    clear hf
    cases hy : hasC vs r.l with
    | true =>
      have C1 := C true hy
      clear C
      go_enter Try.func56, Try.ntmps56
      go_wp2_with fail
      refine C1.mono ?_
      rintro e w1 ⟨rfl, B1⟩
      have l0 : w1.cell? ⟨w.heap.size + 1, 0, none⟩ = some (.int .u8 r.l) := (B1.cell (p := ⟨w.heap.size + 1, 0, none⟩) (by simp)).trans (by go_simp)
      have s1 : w.heap.size + 1 < w1.heap.size := by have := B1.size; simp at this; omega
      have B2 : Below w.heap.size w w1 := HB.out.trans (B1.mono HB.out.size)
      clear B1 C1
      go_wp2
      go_ret
      exact ⟨rfl, B2.alloc B2.size _⟩
    | false =>
      have C1 := C false hy
      clear C
      go_enter Try.func56, Try.ntmps56
      go_wp2_with fail
      refine C1.mono ?_
      rintro e w1 ⟨rfl, B1⟩
      have B2 : Below w.heap.size w w1 := HB.out.trans (B1.mono HB.out.size)
      clear B1 C1
      go_wp2
      go_ret
      exact ⟨rfl, B2.alloc B2.size _⟩
  · rw [if_pos h0]
    have e0 : (r.fl != 0) = true := by simp [h0]
    clear hv
    go_enter Try.func56, Try.ntmps56
    go_wp2
    go_ret
    exact ⟨rfl, ((Below.refl _ _).alloc (Nat.le_refl _) _).alloc (by simp) _⟩
set_option maxHeartbeats 400000 in
theorem isSource_row (a : Option Addr) (n ks : Nat) (vs : List (Int × SV)) (x : Int) (g cap m : Nat) (L : Nat → RCd) (w : World) (hv : CV w (.slice a n ks) vs) (hg : 0 < m → g < w.heap.size) (hm : m ≤ 9223372036854775807) (hc : ∀ i, i < m → CCell w g i (L i)) :
    Calls Try.prog 64 #[.agg #[.slice a n ks], .slice (some ⟨g, 0, none⟩) m cap, .int .u8 x] w fun e w' => e = .returned (.bool (hasB (fun i => srcI vs (L i).l (L i).fl) m x)) ∧ Below w.heap.size w w' := by
  have HV : Hid (CV w (.slice a n ks) vs) := hv
  clear hv
  go_enter Try.func64, Try.ntmps64
  go_wp2
  go_loopw [11] (fun i wr => ∃ k : Nat, k ≤ m ∧ i = .int .i64 k ∧ Hid (∀ j, j < k → ¬ srcI vs (L j).l (L j).fl = x) ∧ Below (w.heap.size + 1) (w.alloc (.cells #[.slice a n ks] 52)) wr) (fun i _ => m - (intOf i).toNat)
  case atStart => exact ⟨0, Nat.zero_le _, rfl, fun j hj => by omega, Below.refl _ _⟩
  case round =>
    obtain ⟨k, hk, rfl, hno, hb⟩ := hrel
    have hsz : w.heap.size + 1 ≤ wr.heap.size := by have := hb.size; simpa using this
    have hB : Below w.heap.size w wr := ((Below.refl _ _).alloc (Nat.le_refl _) _).trans (hb.mono (by omega))
    have r0 : wr.cell? ⟨w.heap.size, 0, none⟩ = some (.slice a n ks) := (hb.cell (p := ⟨w.heap.size, 0, none⟩) (by show w.heap.size < _; omega)).trans (by go_simp)
    have hws : w.heap.size < wr.heap.size := by omega
    by_cases hlt : k < m
    · have hg' := hg (by omega)
      obtain ⟨c0, c1, c2, c3, c4⟩ := (hc k hlt).below hB hg'
      have hgr : g < wr.heap.size := by omega
      obtain ⟨r, hr⟩ : ∃ r, r = L k := ⟨_, rfl⟩
      rw [← hr] at c0 c1 c2 c3 c4
      have HR : Hid (r = L k) := hr
      clear hr
      have hBa : Below w.heap.size w (wr.alloc (.cells #[.int .u8 r.l, .int .i64 r.p, .int .u8 r.fl, .int .i64 r.fp, .slice r.f.a r.f.n r.f.c] 120)) := hB.alloc (by omega) _
      have C := sourceLetter_any a n ks vs r _ (HV.out.below hBa)
      unfold rcA at C
      obtain ⟨y, hy⟩ : ∃ y, srcI vs r.l r.fl = y := ⟨_, rfl⟩
      rw [hy] at C
      have HY : Hid (srcI vs r.l r.fl = y) := hy
      clear hy
      by_cases h1 : y = x
      · have h1' : (y == x) = true := by simpa using h1
        have HX : Hid (hasB (fun i => srcI vs (L i).l (L i).fl) m x = true) := hasB_hit hlt (by rw [← HR.out, HY.out]; exact h1')
        clear h1
        go_wp2_with fail
        refine C.mono ?_
        rintro e w1 ⟨rfl, B1⟩
        go_wp2
        go_ret
        rw [HX.out]
        exact ⟨rfl, hBa.trans (B1.mono (by simp; omega))⟩
      · have h1' : (y == x) = false := by simpa using h1
        clear h1
        go_wp2_with fail
        refine C.mono ?_
        rintro e w1 ⟨rfl, B1⟩
        go_wp2
        go_roundw
        case rel => exact ⟨k + 1, by omega, by go_num, none_step (L := fun i => srcI vs (L i).l (L i).fl) hno (by rw [← HR.out, HY.out]; exact h1'), (hb.alloc hsz _).trans (B1.mono (by simp; omega))⟩
        case measure => simp [intOf]; omega
    · go_wp2
      go_ret
      exact ⟨ret_boolG (hasB_none (L := fun i => srcI vs (L i).l (L i).fl) (fun j hj => hno j (by omega))).symm, hB⟩
/-- sourceTwice: the place of the first class that is made of a Letter once more. -/
def stw (vs : List (Int × SV)) : List Int → List GCd → Int
  | _, [] => -1
  | ls, c :: r => if srcI vs c.l c.fl ≠ 0 ∧ ls.any (fun p => p == srcI vs c.l c.fl) = true then c.p else stw vs (ls ++ [srcI vs c.l c.fl]) r
set_option maxHeartbeats 400000 in
theorem sourceTwice_nil (a : Option Addr) (n ks : Nat) (vs : List (Int × SV)) (w : World) :
    Calls Try.prog 55 #[.agg #[.slice a n ks], .slice none 0 0] w fun e w' => e = .returned (.int .i64 (stw vs [] [])) ∧ Below w.heap.size w w' := by
  go_enter Try.func55, Try.ntmps55
  go_wp2
  refine wp_loop_rounds 1 ?_; rw [rounds_succ]
  go_wp2
  go_ret
  exact ⟨rfl, (Below.refl _ _).alloc (Nat.le_refl _) _⟩
set_option maxHeartbeats 1000000 in
set_option maxRecDepth 20000 in
theorem sourceTwice_row (a : Option Addr) (sn ks : Nat) (vs : List (Int × SV)) (g cap : Nat) (rs : List RCd) (cs : List GCd) (w : World) (hv : CV w (.slice a sn ks) vs) (hg : g < w.heap.size) (hm : rs.length ≤ 9223372036854775807) (hcap : rs.length ≤ cap) (hlen : rs.length = cs.length)
    (hc : ∀ i, i < rs.length → CCell w g i (rs[i]?.getD zR)) (hel : ∀ (i : Nat) (r : RCd) (c : GCd), rs[i]? = some r → cs[i]? = some c → CRel w 0 r c) :
    Calls Try.prog 55 #[.agg #[.slice a sn ks], .slice (some ⟨g, 0, none⟩) rs.length cap] w fun e w' => e = .returned (.int .i64 (stw vs [] cs)) ∧ Below w.heap.size w w' := by
  obtain ⟨n, hn⟩ : ∃ n, n = rs.length := ⟨_, rfl⟩
  rw [← hn] at hm hc hcap hlen ⊢
  have HN : Hid (n = rs.length ∧ n = cs.length) := ⟨hn, hlen⟩
  have HE : Hid (∀ (i : Nat) (r : RCd) (c : GCd), rs[i]? = some r → cs[i]? = some c → CRel w 0 r c) := hel
  have HC : Hid (∀ i, i < n → CCell w g i (rs[i]?.getD zR)) := hc
  have HL : Hid (∀ (i : Nat) (c : GCd), cs[i]? = some c → srcI vs (rs[i]?.getD zR).l (rs[i]?.getD zR).fl = srcI vs c.l c.fl) := by
    intro i c h
    have hi : i < rs.length := by have := (List.getElem?_eq_some_iff.1 h).1; omega
    have := hel i _ c (getD_of hi zR) h
    rw [this.l, this.fl]
  have HV : Hid (CV w (.slice a sn ks) vs) := hv
  clear hn hlen hel hc hv
  go_enter Try.func55, Try.ntmps55
  go_wp2
  go_loopw [10] (fun i wr => ∃ k : Nat, k ≤ n ∧ i = .int .i64 k ∧ Hid (stw vs [] cs = stw vs ((cs.take k).map (fun c => srcI vs c.l c.fl)) (cs.drop k)) ∧ Below (w.heap.size + 1) (w.alloc (.cells #[.slice a sn ks] 52)) wr) (fun i _ => n - (intOf i).toNat)
  case atStart => exact ⟨0, Nat.zero_le _, rfl, (by simp : _ = _), Below.refl _ _⟩
  case round =>
    obtain ⟨k, hk, rfl, HT, hb⟩ := hrel
    have hsz : w.heap.size + 1 ≤ wr.heap.size := by have := hb.size; simpa using this
    have hB : Below w.heap.size w wr := ((Below.refl _ _).alloc (Nat.le_refl _) _).trans (hb.mono (by omega))
    have r0 : wr.cell? ⟨w.heap.size, 0, none⟩ = some (.slice a sn ks) := (hb.cell (p := ⟨w.heap.size, 0, none⟩) (by show w.heap.size < _; omega)).trans (by go_simp)
    have hws : w.heap.size < wr.heap.size := by omega
    by_cases hlt : k < n
    · obtain ⟨r, hr⟩ : ∃ r, r = rs[k]?.getD zR := ⟨_, rfl⟩
      have hrk : rs[k]? = some r := by rw [hr]; exact getD_of (by rw [← HN.out.1]; exact hlt) zR
      obtain ⟨c, hck⟩ : ∃ c, cs[k]? = some c := ⟨_, List.getElem?_eq_getElem (by rw [← HN.out.2]; exact hlt)⟩
      have hrel := HE.out k r c hrk hck
      obtain ⟨c0, c1, c2, c3, c4⟩ := (HC.out k hlt).below hB hg
      rw [← hr] at c0 c1 c2 c3 c4
      have hgr : g < wr.heap.size := by omega
      have hst := HT.out
      rw [drop_cons hck, stw] at hst
      obtain ⟨x, hx⟩ : ∃ x, srcI vs c.l c.fl = x := ⟨_, rfl⟩
      obtain ⟨y, hy⟩ : ∃ y, ((cs.take k).map (fun c => srcI vs c.l c.fl)).any (fun p => p == x) = y := ⟨_, rfl⟩
      rw [hx, hy] at hst
      have hmap : (cs.take (k + 1)).map (fun c => srcI vs c.l c.fl) = (cs.take k).map (fun c => srcI vs c.l c.fl) ++ [x] := by rw [take_map _ hck, hx]
      have HX : Hid (srcI vs r.l r.fl = x) := by show _ = _; rw [hrel.l, hrel.fl]; exact hx
      have HI : Hid (hasB (fun j => srcI vs (rs[j]?.getD zR).l (rs[j]?.getD zR).fl) k x = y) := by
        show _ = _
        rw [has_take (fun c => srcI vs c.l c.fl) cs (fun j => srcI vs (rs[j]?.getD zR).l (rs[j]?.getD zR).fl) k x (by rw [← HN.out.2]; exact hk) HL.out]
        exact hy
      have HS : Hid (stw vs [] cs = if x ≠ 0 ∧ y = true then r.p else stw vs ((cs.take (k + 1)).map (fun c => srcI vs c.l c.fl)) (cs.drop (k + 1))) := by
        show _ = _
        rw [hmap, hrel.p]; exact hst
      have hBa : Below w.heap.size w (wr.alloc (.cells #[.int .u8 r.l, .int .i64 r.p, .int .u8 r.fl, .int .i64 r.fp, .slice r.f.a r.f.n r.f.c] 120)) := hB.alloc (by omega) _
      have C := sourceLetter_any a sn ks vs r _ (HV.out.below hBa)
      unfold rcA at C
      rw [HX.out] at C
      clear hr hrk hck hrel hst hmap HT hx hy
      go_wp2_with fail
      refine C.mono ?_
      rintro e w1 ⟨rfl, B1⟩
      have q0 : w1.cell? ⟨w.heap.size, 0, none⟩ = some (.slice a sn ks) := (B1.cell (p := ⟨w.heap.size, 0, none⟩) (by simp; omega)).trans (by go_simp)
      have q1 : w1.cell? ⟨wr.heap.size, 1, none⟩ = some (.int .i64 r.p) := (B1.cell (p := ⟨wr.heap.size, 1, none⟩) (by simp)).trans (by go_simp)
      have hs1 : wr.heap.size < w1.heap.size := by have := B1.size; simp at this; omega
      have BB : Below (w.heap.size + 1) (w.alloc (.cells #[.slice a sn ks] 52)) w1 := (hb.alloc hsz _).trans (B1.mono (by simp; omega))
      have BW : Below w.heap.size w w1 := hBa.trans (B1.mono (by simp; omega))
      have hkc : ¬ (cap : Int) < (k : Int) := by omega
      have CL : ∀ W : World, Below w1.heap.size w1 W → Calls Try.prog 64 #[.agg #[.slice a sn ks], .slice (some ⟨g, 0, none⟩) k cap, .int .u8 x] W fun e w' => e = .returned (.bool y) ∧ Below W.heap.size W w' := by
        intro W hW
        have hW' : Below w.heap.size w W := BW.trans (hW.mono BW.size)
        have := isSource_row a sn ks vs x g cap k (fun j => rs[j]?.getD zR) W (HV.out.below hW') (fun _ => Nat.lt_of_lt_of_le hg hW'.size) (by omega) (fun i hi => (HC.out i (by omega)).below hW' hg)
        rw [HI.out] at this
        exact this
      clear C B1 r0 c0 c1 c2 c3 c4 hBa
      by_cases hx0 : x = 0
      · have ex : (x != 0) = false := by simp [hx0]
        have HT' : Hid (stw vs [] cs = stw vs ((cs.take (k + 1)).map (fun c => srcI vs c.l c.fl)) (cs.drop (k + 1))) := by show _ = _; rw [HS.out, if_neg (by simp [hx0])]
        clear CL hx0
        go_wp2
        go_region
        all_goals
          go_wp2
          go_roundw
          case rel => exact ⟨k + 1, by omega, by go_num, HT', BB.drew⟩
          case measure => simp [intOf]; omega
      · have ex : (x != 0) = true := by simp [hx0]
        cases y with
        | true =>
          have HP : Hid (stw vs [] cs = r.p) := by show _ = _; rw [HS.out, if_pos ⟨hx0, rfl⟩]
          clear hx0
          go_wp2
          go_region_with (go_at_call 64; refine (CL _ (by with_reducible repeat first | exact Below.refl _ _ | apply Below.drew | (refine Below.alloc ?_ (Nat.le_refl _) _))).mono ?_; rintro e w2 ⟨rfl, hb2⟩)
          all_goals
            have p1 : w2.cell? ⟨wr.heap.size, 1, none⟩ = some (.int .i64 r.p) := (hb2.cell (p := ⟨wr.heap.size, 1, none⟩) (by simpa using hs1)).trans (by go_simp)
            go_wp2
            go_ret
            rw [HP.out]
            exact ⟨rfl, BW.drew.trans (hb2.mono (by simpa using BW.size))⟩
        | false =>
          have HT' : Hid (stw vs [] cs = stw vs ((cs.take (k + 1)).map (fun c => srcI vs c.l c.fl)) (cs.drop (k + 1))) := by show _ = _; rw [HS.out, if_neg (by simp)]
          clear hx0
          go_wp2
          go_region_with (go_at_call 64; refine (CL _ (by with_reducible repeat first | exact Below.refl _ _ | apply Below.drew | (refine Below.alloc ?_ (Nat.le_refl _) _))).mono ?_; rintro e w2 ⟨rfl, hb2⟩)
          all_goals
            go_wp2
            go_roundw
            case rel => exact ⟨k + 1, by omega, by go_num, HT', BB.drew.trans (hb2.mono (by simpa using BB.size))⟩
            case measure => simp [intOf]; omega
    · have HP : Hid (stw vs [] cs = -1) := by show _ = _; rw [HT.out, List.drop_eq_nil_of_le (by rw [← HN.out.2]; omega)]; rfl
      go_wp2
      go_ret
      rw [HP.out]
      exact ⟨rfl, hB⟩
end Go.Proofs.Ythckelcjncnalab
namespace Go.Proofs.Ythckelcjncnalab

/-- What can be reached from the roots, along the edges. -/
inductive Rch (rt : Nat → Prop) (ed : Nat → Nat → Prop) : Nat → Prop where
  | root {x : Nat} (h : rt x) : Rch rt ed x
  | step {x y : Nat} (h : Rch rt ed x) (e : ed x y) : Rch rt ed y
theorem Rch.least {rt : Nat → Prop} {ed : Nat → Nat → Prop} {P : Nat → Prop} (h1 : ∀ x, rt x → P x) (h2 : ∀ x y, P x → ed x y → P y) {x : Nat} (h : Rch rt ed x) : P x := by
  induction h with
  | root h => exact h1 _ h
  | step _ e ih => exact h2 _ _ ih e
theorem nodup_le : ∀ (n : Nat) (L : List Nat), L.Nodup → (∀ x ∈ L, x < n) → L.length ≤ n := by
  intro n
  induction n with
  | zero => intro L _ h; cases L with
    | nil => simp
    | cons x L => have := h x (by simp); omega
  | succ n ih =>
    intro L hd h
    by_cases hn : n ∈ L
    · have hd' : (L.erase n).Nodup := hd.erase n
      have := ih (L.erase n) hd' (fun x hx => by
        have h1 := h x (List.mem_of_mem_erase hx)
        have h2 : x ≠ n := fun e => by subst e; exact (List.Nodup.not_mem_erase hd) hx
        omega)
      rw [List.length_erase_of_mem hn] at this
      have : 0 < L.length := List.length_pos_of_mem hn
      omega
    · have := ih L hd (fun x hx => by
        have h1 := h x hx
        have h2 : x ≠ n := fun e => by subst e; exact hn hx
        omega)
      omega
theorem nodup_snoc {L : List Nat} {x : Nat} (h : L.Nodup) (hx : x ∉ L) : (L ++ [x]).Nodup := by
  rw [List.nodup_append]
  refine ⟨h, by simp, fun a ha b hb => ?_⟩
  simp at hb; subst hb
  exact fun e => hx (e ▸ ha)
/-- Two lists of what can be reached, on either side, over a relation that is one to one: the same in sum. -/
theorem sum_meet {M : Nat → Nat → Prop} (fn : ∀ a b b', M a b → M a b' → b = b') (inj : ∀ a a' b, M a b → M a' b → a = a') (f g : Nat → Nat) (hfg : ∀ a b, M a b → f a = g b) :
    ∀ (L1 L2 : List Nat), L1.Nodup → L2.Nodup → (∀ a, a ∈ L1 → ∃ b, b ∈ L2 ∧ M a b) → (∀ b, b ∈ L2 → ∃ a, a ∈ L1 ∧ M a b) → (L1.map f).sum = (L2.map g).sum := by
  intro L1
  induction L1 with
  | nil => intro L2 _ _ _ h; cases L2 with
    | nil => rfl
    | cons b L2 => obtain ⟨a, ha, _⟩ := h b (by simp); simp at ha
  | cons a L1 ih =>
    intro L2 h1 h2 h3 h4
    obtain ⟨b, hb, hab⟩ := h3 a (by simp)
    have hp : L2.Perm (b :: L2.erase b) := List.perm_cons_erase hb
    have hs : (L2.map g).sum = g b + ((L2.erase b).map g).sum := by
      rw [(hp.map g).sum_nat]; simp
    have := ih (L2.erase b) (List.nodup_cons.1 h1).2 (h2.erase b) (fun a' ha' => ?_) (fun b' hb' => ?_)
    · rw [hs, ← this, ← hfg a b hab]; simp
    · obtain ⟨b', hb', hab'⟩ := h3 a' (by simp [ha'])
      refine ⟨b', ?_, hab'⟩
      have hne : b' ≠ b := fun e => by
        subst e
        have := inj _ _ _ hab hab'
        subst this
        exact (List.nodup_cons.1 h1).1 ha'
      exact (List.mem_erase_of_ne hne).2 hb'
    · obtain ⟨a', ha', hab'⟩ := h4 b' (List.mem_of_mem_erase hb')
      have hne : b' ≠ b := fun e => by subst e; exact (List.Nodup.not_mem_erase h2) hb'
      rcases List.mem_cons.1 ha' with rfl | ha'
      · exact absurd (fn _ _ _ hab' hab) hne
      · exact ⟨a', ha', hab'⟩
/-- How many of the first n are marked. -/
def cnt (f : Nat → Bool) (n : Nat) : Nat := ((List.range n).filter f).length
theorem cnt_succ (f : Nat → Bool) (n : Nat) : cnt f (n + 1) = cnt f n + (if f n = true then 1 else 0) := by
  unfold cnt; rw [List.range_succ, List.filter_append, List.length_append]
  cases h : f n <;> simp [h]
theorem cnt_le (f : Nat → Bool) (n : Nat) : cnt f n ≤ n := by
  induction n with
  | zero => simp [cnt]
  | succ n ih => rw [cnt_succ]; split <;> omega
theorem cnt_full (f : Nat → Bool) (n : Nat) (h : n ≤ cnt f n) : ∀ i, i < n → f i = true := by
  induction n with
  | zero => intro i hi; omega
  | succ n ih =>
    rw [cnt_succ] at h
    have := cnt_le f n
    intro i hi
    split at h
    · rename_i hn
      rcases Nat.lt_succ_iff_lt_or_eq.1 hi with hi | rfl
      · exact ih (by omega) i hi
      · exact hn
    · omega
theorem cnt_mono (f g : Nat → Bool) (n : Nat) (h : ∀ i, i < n → f i = true → g i = true) : cnt f n ≤ cnt g n := by
  induction n with
  | zero => simp [cnt]
  | succ n ih =>
    rw [cnt_succ, cnt_succ]
    have := ih (fun i hi => h i (by omega))
    have h2 := h n (by omega)
    split
    · rename_i hf; rw [if_pos (h2 hf)]; omega
    · split <;> omega
theorem cnt_more (f g : Nat → Bool) (n k : Nat) (h : ∀ i, i < n → f i = true → g i = true) (hk : k < n) (h1 : f k = false) (h2 : g k = true) : cnt f n < cnt g n := by
  induction n with
  | zero => omega
  | succ n ih =>
    rw [cnt_succ, cnt_succ]
    rcases Nat.lt_succ_iff_lt_or_eq.1 hk with hk | rfl
    · have := ih (fun i hi => h i (by omega)) hk
      have h3 := h n (by omega)
      split
      · rename_i hf; rw [if_pos (h3 hf)]; omega
      · split <;> omega
    · rw [h1, h2]
      have := cnt_mono f g k (fun i hi => h i (by omega))
      simp; omega
end Go.Proofs.Ythckelcjncnalab
