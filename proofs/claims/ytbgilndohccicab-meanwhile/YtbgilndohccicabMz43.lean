import Derived.Test.YtbgilndohccicabMz42
namespace Go.Proofs.Ytbgilndohccicab
open Go.RowKit

def isV (c : Int) : Prop := c = 118
theorem isV_N : ∀ c, isV c → isLw c = true ∧ (kdF (fof csL 78) c).2 = true ∧ (kdF (fof csL 78) c).1 ≠ 114 := by
  intro c h; rw [show c = 118 from h]; exact ⟨rfl, rfl, by decide⟩
theorem isV_Q : ∀ c, isV c → isLw c = true ∧ (kdF (fof csL 81) c).2 = true ∧ (kdF (fof csL 81) c).1 ≠ 114 := by
  intro c h; rw [show c = 118 from h]; exact ⟨rfl, rfl, by decide⟩
theorem fV (S : List Int → Int → Prop) : FacA isV (fun _ => 0) S [118] 0 := FacA.lt 118 ⟨by decide, by decide⟩ rfl
theorem uE_of {cs : Sch} {T : ByteArray} (hz : T.size ≤ 200) {c d : GCd} (h : uR T = ⟨true, T.size, [c, d]⟩) (e2 : fTw (vsO cs) [c, d] = -1) (e3 : gFault (vsO cs) cs [c, d] = (0, 0)) : uE cs T = 0 := by
  have e1 : gdE (uR T) T = 0 := by unfold gdE; rw [if_neg (by omega), h]; rfl
  unfold uE
  rw [if_neg (by rw [e1]; decide), h]
  simp only []
  rw [e2, if_neg (by decide), e3]
theorem fault_two {os : Sch} {c d : GCd} (h1 : ¬ (c.fl ≠ 0 ∧ hasC (vsO os) (srcI (vsO os) c.l c.fl) = false)) (g1 : gFlds (fof os (srcI (vsO os) c.l c.fl)) c.fs = (0, 0)) (h2 : ¬ (d.fl ≠ 0 ∧ hasC (vsO os) (srcI (vsO os) d.l d.fl) = false)) (g2 : gFlds (fof os (srcI (vsO os) d.l d.fl)) d.fs = (0, 0)) : gFault (vsO os) os [c, d] = (0, 0) := by
  rw [gFault, if_neg h1, g1, if_neg (by decide), gFault, if_neg h2, g2, if_neg (by decide)]; rfl
theorem flds_ok {fs : List (Int × Int)} : ∀ l : List GFd, (∀ f ∈ l, fFld fs f = (0, 0)) → gFlds fs l = (0, 0) := by
  intro l
  induction l with
  | nil => intro _; rfl
  | cons f r ih => intro h; rw [gFlds, h f List.mem_cons_self, if_neg (by decide)]; exact ih fun g hg => h g (List.mem_cons_of_mem _ hg)
theorem ref_zero (fs : List (Int × Int)) (a b p : Int) : fFld fs ⟨a, b, 114, [⟨48, 0, p⟩], p, false⟩ = (0, 0) := by
  show fRef fs [⟨48, 0, p⟩] p false = (0, 0)
  unfold fRef
  rw [if_neg (by simp), if_neg (fun h => absurd (show isLw 48 = true from h.1) (by decide)), if_pos ⟨.inr ⟨rfl, rfl⟩, by simp [aloneB]⟩]
theorem ref_let {fs : List (Int × Int)} {x : Int} (hk : kdF fs x = (114, true)) (a b p : Int) : fFld fs ⟨a, b, 114, [⟨x, 0, p⟩], p, false⟩ = (0, 0) := by
  show fRef fs [⟨x, 0, p⟩] p false = (0, 0)
  unfold fRef
  simp only [List.getElem?_cons_zero, Option.getD_some, hk]
  rw [if_neg (by simp), if_neg (by simp), if_pos ⟨.inl (by simp), by simp [aloneB]⟩]
def t2a : List Int := [81, 60, 78, 123, 118, 58, 119, 44, 97, 58, 114, 61, 98, 125, 78, 60, 81, 123, 118, 58, 108]
def t2b : List Int := [44, 97, 58, 114, 44, 98, 58, 114, 61, 48, 125]
theorem text2 {T : ByteArray} {x : Nat} (hx : x < 1000) (hT : bytesOf T = t2a ++ 61 :: ((([118] ++ 42 :: [118]) ++ 43 :: dgL x) ++ t2b)) : uE csL T = 0 := by
  have hA : At T 0 (t2a ++ 61 :: ((([118] ++ 42 :: [118]) ++ 43 :: dgL x) ++ t2b)) := At.all hT
  obtain ⟨s, hs⟩ : ∃ s : List Int, s = (([118] ++ 42 :: [118]) ++ 43 :: dgL x) := ⟨_, rfl⟩
  have hS : SumA isV (fun _ => 0) 1 s (wrap64 (wrap64 (0 * 0) + x)) := by
    rw [hs]
    exact Smm.add (Smm.one (Prd.more (Prd.one (fV _)) (fV _))) (Prd.one (FacA.num x (by omega)))
  have hl : s.length ≤ 7 := by rw [hs]; have := dgL_len 2 x (by simpa using hx); simp; omega
  rw [← hs] at hA hT
  have hsz : T.size = 33 + s.length := by rw [← bytesOf_len, hT]; simp [t2a, t2b]; omega
  clear hs
  have b := fun j y (hj : t2a[j]? = some y) => (show nextB T j = y by have := hA.sub j y hj; rwa [Nat.zero_add] at this)
  have A1 := hA.right
  rw [show t2a.length = 21 from rfl, Nat.zero_add] at A1
  have A2 := A1.tail.right
  obtain ⟨L, hL⟩ : ∃ L, L = s.length := ⟨_, rfl⟩
  rw [← hL] at A2 hsz hl
  have q := fun j y (hj : t2b[j]? = some y) => A2.get j y hj
  obtain ⟨ps, r1, o1, l1⟩ := rule_sumA (t := [97, 58, 114, 44, 98, 58, 114, 61, 48, 125]) (c := 44) (by omega) hS A1 (by omega) ⟨⟨by unfold facStop; omega, rfl⟩, rfl⟩
  rw [if_neg (by decide), ← hL] at r1
  have B1 : At T 11 [61, 98, 125] := by
    intro j hj
    have : j = 0 ∨ j = 1 ∨ j = 2 := by simp at hj; omega
    rcases this with rfl | rfl | rfl
    · exact b 11 61 rfl
    · exact b 12 98 rfl
    · exact b 13 125 rfl
  have B2 : At T (21 + 1 + L + 8) [61, 48, 125] := by
    intro j hj
    have : j = 0 ∨ j = 1 ∨ j = 2 := by simp at hj; omega
    rcases this with rfl | rfl | rfl
    · exact q 8 61 rfl
    · exact q 9 48 rfl
    · exact q 10 125 rfl
  have F1 := field_at (b 4 118 rfl) (b 5 58 rfl) (b 6 119 rfl) ⟨by decide, by decide⟩ rfl (rule_none (b 7 44 rfl) (by decide))
  have F2 := field_at (b 8 97 rfl) (b 9 58 rfl) (b 10 114 rfl) ⟨by decide, by decide⟩ rfl (rule_one B1 (.inl ⟨by decide, by decide⟩) ⟨⟨by unfold facStop; omega, rfl⟩, rfl⟩ (by decide))
  have F3 := field_at (b 18 118 rfl) (b 19 58 rfl) (b 20 108 rfl) ⟨by decide, by decide⟩ rfl r1
  have F4 := field_at (T := T) (k := 21 + 1 + L + 1) (q 1 97 rfl) (q 2 58 rfl) (q 3 114 rfl) ⟨by decide, by decide⟩ rfl (rule_none (q 4 44 rfl) (by decide))
  have F5 := field_at (T := T) (k := 21 + 1 + L + 5) (q 5 98 rfl) (q 6 58 rfl) (q 7 114 rfl) ⟨by decide, by decide⟩ rfl (rule_one B2 (.inr rfl) ⟨⟨by unfold facStop; omega, rfl⟩, rfl⟩ (by decide))
  have G1 := (loop_more (n := 5) (fs := []) F1 (by decide) (b 7 44 rfl)).trans (loop_last (n := 4) F2 (b 13 125 rfl))
  have G2 := (loop_more (n := 5) (fs := []) F3 (by decide) (q 0 44 rfl)).trans ((loop_more (n := 4) F4 (by simp) (q 4 44 rfl)).trans (loop_last (n := 3) (k := 21 + 1 + L + 1 + 1 + 1 + 1 + 1) F5 (q 10 125 rfl)))
  have K1 := cls_at (b 0 81 rfl) ⟨by decide, by decide⟩ (from_some (b 1 60 rfl) (b 2 78 rfl) ⟨by decide, by decide⟩) (b 3 123 rfl) (fields_at (b 4 118 rfl) (by decide) G1)
  have K2 := cls_at (b 14 78 rfl) ⟨by decide, by decide⟩ (from_some (b 15 60 rfl) (b 16 81 rfl) ⟨by decide, by decide⟩) (b 17 123 rfl) (fields_at (b 18 118 rfl) (by decide) G2)
  rw [show 21 + 1 + L + 5 + 1 + 1 + 1 + 2 + 1 = T.size by omega] at K2
  have f1 := okA_num isV_Q ps o1
  refine uE_of (by omega) (two_classes K1 (by omega) K2) rfl (fault_two (show ¬ ((78 : Int) ≠ 0 ∧ hasC (vsO csL) (srcI (vsO csL) 81 78) = false) by decide) rfl (show ¬ ((81 : Int) ≠ 0 ∧ hasC (vsO csL) (srcI (vsO csL) 78 81) = false) by decide) (flds_ok _ fun f hf => ?_))
  simp only [List.nil_append, List.cons_append, List.mem_cons, List.not_mem_nil, or_false] at hf
  rcases hf with rfl | rfl | rfl
  · exact f1
  · rfl
  · exact ref_zero _ _ _ _
end Go.Proofs.Ytbgilndohccicab
namespace Go.Proofs.Ytbgilndohccicab
open Go.RowKit

theorem at3 {T : ByteArray} {k : Nat} {x y z : Int} (h0 : nextB T k = x) (h1 : nextB T (k + 1) = y) (h2 : nextB T (k + 2) = z) : At T k [x, y, z] := by
  intro j hj
  have : j = 0 ∨ j = 1 ∨ j = 2 := by simp at hj; omega
  rcases this with rfl | rfl | rfl
  · exact h0
  · exact h1
  · exact h2
def t3a : List Int := [78, 123, 118, 58, 98, 61, 118, 33, 44, 97, 58, 114, 44, 98, 58, 114, 61, 97, 125, 81, 123, 118, 58, 119]
def t3b : List Int := [44, 97, 58, 114, 61, 48, 125]
theorem text3 {T : ByteArray} {y : Nat} (hy : y < 1000000000) (hT : bytesOf T = t3a ++ 61 :: (((40 :: (([118] ++ 43 :: dgL y) ++ [41])) ++ 42 :: dgL 2) ++ t3b)) : uE csL T = 0 := by
  have hA : At T 0 (t3a ++ 61 :: (((40 :: (([118] ++ 43 :: dgL y) ++ [41])) ++ 42 :: dgL 2) ++ t3b)) := At.all hT
  obtain ⟨s, hs⟩ : ∃ s : List Int, s = ((40 :: (([118] ++ 43 :: dgL y) ++ [41])) ++ 42 :: dgL 2) := ⟨_, rfl⟩
  have hS : SumA isV (fun _ => 0) 2 s (wrap64 (wrap64 (0 + y) * (2 : Nat))) := by
    rw [hs]
    exact Smm.one (Prd.more (Prd.one (FacA.par (Smm.add (Smm.one (Prd.one (fV _))) (Prd.one (FacA.num y hy))))) (FacA.num 2 (by omega)))
  have hl : s.length ≤ 15 := by rw [hs]; have := dgL_len 8 y (by simpa using hy); have := dgL_len 0 2 (by omega); simp; omega
  rw [← hs] at hA hT
  have hsz : T.size = 32 + s.length := by rw [← bytesOf_len, hT]; simp [t3a, t3b]; omega
  clear hs
  have b := fun j y (hj : t3a[j]? = some y) => (show nextB T j = y by have := hA.sub j y hj; rwa [Nat.zero_add] at this)
  have A1 := hA.right
  rw [show t3a.length = 24 from rfl, Nat.zero_add] at A1
  have A2 := A1.tail.right
  obtain ⟨L, hL⟩ : ∃ L, L = s.length := ⟨_, rfl⟩
  rw [← hL] at A2 hsz hl
  have q := fun j y (hj : t3b[j]? = some y) => A2.get j y hj
  obtain ⟨ps, r1, o1, l1⟩ := rule_sumA (t := [97, 58, 114, 61, 48, 125]) (c := 44) (by omega) hS A1 (by omega) ⟨⟨by unfold facStop; omega, rfl⟩, rfl⟩
  rw [if_neg (by decide), ← hL] at r1
  obtain ⟨p0, r0, o0, l0⟩ := rule_sumA (T := T) (k := 5) (s := [118]) (c := 33) (t := []) (d := 1) (by omega) (Smm.one (Prd.one (fV (SumA isV (fun _ => 0) 0)))) (at3 (b 5 61 rfl) (b 6 118 rfl) (b 7 33 rfl)) (by simp; omega) ⟨⟨by unfold facStop; omega, rfl⟩, rfl⟩
  rw [if_pos rfl] at r0
  have F1 := field_at (b 2 118 rfl) (b 3 58 rfl) (b 4 98 rfl) ⟨by decide, by decide⟩ rfl r0
  have F2 := field_at (b 9 97 rfl) (b 10 58 rfl) (b 11 114 rfl) ⟨by decide, by decide⟩ rfl (rule_none (b 12 44 rfl) (by decide))
  have F3 := field_at (b 13 98 rfl) (b 14 58 rfl) (b 15 114 rfl) ⟨by decide, by decide⟩ rfl (rule_one (t := []) (at3 (b 16 61 rfl) (b 17 97 rfl) (b 18 125 rfl)) (.inl ⟨by decide, by decide⟩) ⟨⟨by unfold facStop; omega, rfl⟩, rfl⟩ (by decide))
  have F4 := field_at (b 21 118 rfl) (b 22 58 rfl) (b 23 119 rfl) ⟨by decide, by decide⟩ rfl r1
  have F5 := field_at (T := T) (k := 24 + 1 + L + 1) (q 1 97 rfl) (q 2 58 rfl) (q 3 114 rfl) ⟨by decide, by decide⟩ rfl (rule_one (t := []) (at3 (q 4 61 rfl) (q 5 48 rfl) (q 6 125 rfl)) (.inr rfl) ⟨⟨by unfold facStop; omega, rfl⟩, rfl⟩ (by decide))
  have G1 := (loop_more (n := 5) (fs := []) F1 (by decide) (b 8 44 rfl)).trans ((loop_more (n := 4) (k := 9) F2 (by simp) (b 12 44 rfl)).trans (loop_last (n := 3) (k := 13) F3 (b 18 125 rfl)))
  have G2 := (loop_more (n := 5) (fs := []) F4 (by decide) (q 0 44 rfl)).trans (loop_last (n := 4) F5 (q 6 125 rfl))
  have K1 := cls_at (b 0 78 rfl) ⟨by decide, by decide⟩ (from_none (b 1 123 rfl) (by decide)) (b 1 123 rfl) (fields_at (b 2 118 rfl) (by decide) G1)
  have K2 := cls_at (k := 19) (b 19 81 rfl) ⟨by decide, by decide⟩ (from_none (b 20 123 rfl) (by decide)) (b 20 123 rfl) (fields_at (b 21 118 rfl) (by decide) G2)
  rw [show 24 + 1 + L + 1 + 1 + 1 + 1 + 2 + 1 = T.size by omega] at K2
  have f1 := okA_num isV_Q ps o1
  have f0 := okA_num isV_N p0 o0
  refine uE_of (by omega) (two_classes K1 (by omega) K2) rfl (fault_two (show ¬ ((0 : Int) ≠ 0 ∧ hasC (vsO csL) (srcI (vsO csL) 78 0) = false) by decide) (flds_ok _ fun f hf => ?_) (show ¬ ((0 : Int) ≠ 0 ∧ hasC (vsO csL) (srcI (vsO csL) 81 0) = false) by decide) (flds_ok _ fun f hf => ?_))
  · simp only [List.nil_append, List.cons_append, List.mem_cons, List.not_mem_nil, or_false] at hf
    rcases hf with rfl | rfl | rfl
    · exact f0
    · rfl
    · rfl
  · simp only [List.nil_append, List.cons_append, List.mem_cons, List.not_mem_nil, or_false] at hf
    rcases hf with rfl | rfl
    · exact f1
    · exact ref_zero _ _ _ _
def t1S : ByteArray := ⟨#[78, 123, 118, 58, 108, 44, 97, 58, 114, 44, 98, 58, 114, 125]⟩
set_option maxRecDepth 100000 in
theorem text1 : uE csL t1S = 0 := by kernel_rfl
def t0a : List Int := [77, 60, 78, 123, 118, 58, 104]
def t0b : List Int := [44, 98, 58, 114, 61, 97, 44, 97, 58, 114, 61, 98, 125, 81, 123, 118, 58, 119]
def t0c : List Int := [44, 97, 58, 114, 125]
theorem text0 {T : ByteArray} {x y : Nat} (hx : x < 1000) (hy : y < 1000000000) (hT : bytesOf T = t0a ++ 61 :: ((([118] ++ 42 :: dgL x) ++ 43 :: dgL y) ++ (t0b ++ 61 :: (([118] ++ 45 :: dgL x) ++ t0c)))) : uE csL T = 0 := by
  have hA : At T 0 _ := At.all hT
  obtain ⟨s, hs⟩ : ∃ s : List Int, s = (([118] ++ 42 :: dgL x) ++ 43 :: dgL y) := ⟨_, rfl⟩
  obtain ⟨u, hu⟩ : ∃ u : List Int, u = ([118] ++ 45 :: dgL x) := ⟨_, rfl⟩
  have hS : SumA isV (fun _ => 0) 1 s (wrap64 (wrap64 (0 * x) + y)) := by
    rw [hs]
    exact Smm.add (Smm.one (Prd.more (Prd.one (fV _)) (FacA.num x (by omega)))) (Prd.one (FacA.num y hy))
  have hU : SumA isV (fun _ => 0) 1 u (wrap64 (0 - x)) := by
    rw [hu]
    exact Smm.sub (Smm.one (Prd.one (fV _))) (Prd.one (FacA.num x (by omega)))
  have hl : s.length ≤ 15 ∧ u.length ≤ 5 := by rw [hs, hu]; have := dgL_len 8 y (by simpa using hy); have := dgL_len 2 x (by simpa using hx); simp; omega
  rw [← hs, ← hu] at hA hT
  have hsz : T.size = 32 + s.length + u.length := by rw [← bytesOf_len, hT]; simp [t0a, t0b, t0c]; omega
  clear hs hu
  have b := fun j y (hj : t0a[j]? = some y) => (show nextB T j = y by have := hA.sub j y hj; rwa [Nat.zero_add] at this)
  have A1 := hA.right
  rw [show t0a.length = 7 from rfl, Nat.zero_add] at A1
  have A2 := A1.tail.right
  have A3 := A2.right
  have A4 := A3.tail.right
  obtain ⟨L, hL⟩ : ∃ L, L = s.length := ⟨_, rfl⟩
  obtain ⟨M, hM⟩ : ∃ M, M = u.length := ⟨_, rfl⟩
  rw [show t0b.length = 18 from rfl] at A3 A4
  rw [← hL] at A2 A3 A4 hsz hl
  rw [← hM] at A4 hsz hl
  have q := fun j y (hj : t0b[j]? = some y) => A2.sub j y hj
  have z := fun j y (hj : t0c[j]? = some y) => A4.get j y hj
  obtain ⟨ps, r1, o1, l1⟩ := rule_sumA (c := 44) (by omega) hS A1 (by omega) ⟨⟨by unfold facStop; omega, rfl⟩, rfl⟩
  obtain ⟨p2, r2, o2, l2⟩ := rule_sumA (c := 44) (t := [97, 58, 114, 125]) (by omega) hU A3 (by omega) ⟨⟨by unfold facStop; omega, rfl⟩, rfl⟩
  rw [if_neg (by decide), ← hL] at r1
  rw [if_neg (by decide), ← hM] at r2
  have F1 := field_at (b 4 118 rfl) (b 5 58 rfl) (b 6 104 rfl) ⟨by decide, by decide⟩ rfl r1
  have F2 := field_at (T := T) (k := 7 + 1 + L + 1) (q 1 98 rfl) (q 2 58 rfl) (q 3 114 rfl) ⟨by decide, by decide⟩ rfl (rule_one (t := []) (at3 (q 4 61 rfl) (q 5 97 rfl) (q 6 44 rfl)) (.inl ⟨by decide, by decide⟩) ⟨⟨by unfold facStop; omega, rfl⟩, rfl⟩ (by decide))
  have F3 := field_at (T := T) (k := 7 + 1 + L + 7) (q 7 97 rfl) (q 8 58 rfl) (q 9 114 rfl) ⟨by decide, by decide⟩ rfl (rule_one (t := []) (at3 (q 10 61 rfl) (q 11 98 rfl) (q 12 125 rfl)) (.inl ⟨by decide, by decide⟩) ⟨⟨by unfold facStop; omega, rfl⟩, rfl⟩ (by decide))
  have F4 := field_at (T := T) (k := 7 + 1 + L + 15) (q 15 118 rfl) (q 16 58 rfl) (q 17 119 rfl) ⟨by decide, by decide⟩ rfl r2
  have F5 := field_at (T := T) (k := 7 + 1 + L + 18 + 1 + M + 1) (z 1 97 rfl) (z 2 58 rfl) (z 3 114 rfl) ⟨by decide, by decide⟩ rfl (rule_none (z 4 125 rfl) (by decide))
  have G1 := (loop_more (n := 5) (fs := []) F1 (by decide) (q 0 44 rfl)).trans ((loop_more (n := 4) F2 (by simp) (q 6 44 rfl)).trans (loop_last (n := 3) (k := 7 + 1 + L + 7) F3 (q 12 125 rfl)))
  have G2 := (loop_more (n := 5) (fs := []) F4 (by decide) (z 0 44 rfl)).trans (loop_last (n := 4) F5 (z 4 125 rfl))
  have K1 := cls_at (b 0 77 rfl) ⟨by decide, by decide⟩ (from_some (b 1 60 rfl) (b 2 78 rfl) ⟨by decide, by decide⟩) (b 3 123 rfl) (fields_at (b 4 118 rfl) (by decide) G1)
  have K2 := cls_at (T := T) (k := 7 + 1 + L + 13) (q 13 81 rfl) ⟨by decide, by decide⟩ (from_none (q 14 123 rfl) (by decide)) (q 14 123 rfl) (fields_at (q 15 118 rfl) (by decide) G2)
  rw [show 7 + 1 + L + 18 + 1 + M + 1 + 1 + 1 + 1 + 1 = T.size by omega] at K2
  have f1 := okA_num isV_N ps o1
  have f2 := okA_num isV_Q p2 o2
  refine uE_of (by omega) (two_classes K1 (by omega) K2) rfl (fault_two (show ¬ ((78 : Int) ≠ 0 ∧ hasC (vsO csL) (srcI (vsO csL) 77 78) = false) by decide) (flds_ok _ fun f hf => ?_) (show ¬ ((0 : Int) ≠ 0 ∧ hasC (vsO csL) (srcI (vsO csL) 81 0) = false) by decide) (flds_ok _ fun f hf => ?_))
  · simp only [List.nil_append, List.cons_append, List.mem_cons, List.not_mem_nil, or_false] at hf
    rcases hf with rfl | rfl | rfl
    · exact f1
    · exact ref_let rfl _ _ _
    · exact ref_let rfl _ _ _
  · simp only [List.nil_append, List.cons_append, List.mem_cons, List.not_mem_nil, or_false] at hf
    rcases hf with rfl | rfl
    · exact f2
    · rfl
end Go.Proofs.Ytbgilndohccicab
namespace Go.Proofs.Ytbgilndohccicab
open Go.RowKit

theorem HP.pending {w : World} {hb : Nat} {sv : SV} {sz : Int} {p : PH} (h : HP w hb sv sz p.R p.K p.N p.F) (hn : p.N 201 0 ≠ 0) : w.cell? ⟨hb, 2623, none⟩ = some (.bool true) := by
  have := h.pend
  rw [this, decide_eq_true hn]
set_option maxHeartbeats 400000 in
theorem step_on (hb : Nat) (sv : SV) (sz : Int) (p : PH) (w : World) (h : HP w hb sv sz p.R p.K p.N p.F) (hn : p.N 201 0 ≠ 0) (bud : Int) (hbud : 1 ≤ bud) :
    Calls Try.prog 22 #[.pointer (some ⟨hb, 0, none⟩), .int .i64 bud] w fun e w' => e = .returned (.tuple #[.bool true, .int .i64 0]) ∧ w' = w := by
  have hbl := h.lt
  have cp := h.pending hn
  have hb1 : ¬ bud < 1 := by omega
  clear h hbud
  go_enter Try.func22, Try.ntmps22
  go_wp2
  go_ret2
  exact ⟨rfl, rfl⟩
set_option maxHeartbeats 400000 in
theorem ready_on (hb : Nat) (sv : SV) (sz : Int) (p : PH) (w : World) (h : HP w hb sv sz p.R p.K p.N p.F) (hn : p.N 201 0 ≠ 0) :
    Calls Try.prog 23 #[.pointer (some ⟨hb, 0, none⟩)] w fun e w' => e = .returned (.bool true) ∧ w' = w := by
  have C1 := step_on hb sv sz p w h hn 200 (by omega)
  have C2 := step_on hb sv sz p w h hn 1 (by omega)
  clear h
  go_enter Try.func23, Try.ntmps23
  go_wp2_with fail
  refine C1.mono ?_
  rintro e w' ⟨rfl, rfl⟩
  go_wp2_with fail
  refine C2.mono ?_
  rintro e w' ⟨rfl, rfl⟩
  go_wp2
  go_ret
  exact ⟨rfl, rfl⟩
theorem commit_stub (hb : Nat) (w : World) : Calls Try.prog 24 #[.pointer (some ⟨hb, 0, none⟩)] w fun e w' => e = .returned (.int .i64 0) ∧ w' = w := by
  go_enter Try.func24, Try.ntmps24
  go_wp2
  go_ret
  exact ⟨rfl, rfl⟩
theorem Sim.congrN {cs : Sch} {p : PH} {r : DH} (h : Sim cs p r) {N' : Nat → Nat → Int} (hN : ∀ i j, i ≠ 201 → N' i j = p.N i j) : Sim cs { p with N := N' } r := by
  obtain ⟨M, B⟩ := h
  exact ⟨M, B.fn, B.inj, B.pos, B.root, B.cls, B.has, fun a b hM j f hf hk => (hN a j (by have := (B.pos a b hM).2.1; omega)).trans (B.num a b hM j f hf hk), B.ref, B.nor⟩
/-- Begin of a text that fits, on a graph's heap. -/
theorem begin_on {P : Nat → Prop} {gb lo hi hb : Nat} {sv : SV} {vs : List (Int × SV)} {sz : Int} {nv : Value} {p : PH} {G : GG} {w : World} (h : LK w P gb lo hi hb sv vs sz nv p G) (hn : p.N 201 0 = 0) (s : ByteArray) (hm : s.size ≤ 9223372036854775807) (hs : uE csL s = 0) :
    Calls Try.prog 16 #[.pointer (some ⟨hb, 0, none⟩), .string s] w fun e w' => (∃ z, e = .returned (.tuple #[.int .i64 0, .int .i64 z])) ∧ Prot P w w' ∧ w.grownBy w' (some hb) ∧ ∃ p', LK w' P gb lo hi hb sv vs sz nv p' G ∧ p'.N 201 0 ≠ 0 := by
  refine (pbegin_any hb sv sz p w h.hp h.cl.cls s hm).mono ?_
  rintro e w' ⟨rfl, g, _, hz⟩
  have e0 : bgE p csL s = (0, uP csL s) := by unfold bgE; rw [if_neg (by rw [hn]; decide), hs]
  obtain ⟨N', mv, hp, hN1, hN2, _⟩ := hz (by rw [e0])
  refine ⟨⟨uP csL s, by rw [e0]⟩, Prot.gb h.pl g (fun b e => by injection e with e; subst e; exact h.n1), g, { p with N := N' }, ?_, by show N' 201 0 ≠ 0; rw [hN1]; decide⟩
  obtain ⟨a, b, c, d, f, k⟩ := h.heap (p' := { p with N := N' }) hp g ⟨h.pw.root, h.pw.ref⟩
  exact ⟨a, b, c, d, h.n0, h.n1, h.n2, k.lt h.pl, h.b1, h.b2, h.b3, f, h.sim.congrN hN2, h.gw, h.s0, h.s1⟩
end Go.Proofs.Ytbgilndohccicab
