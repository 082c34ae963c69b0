import Derived.Test.YthckelcjncnalabKz05
import Derived.Test.YthckelcjncnalabKz28
import Derived.Test.YthckelcjncnalabKz44
namespace Go.Proofs.Ythckelcjncnalab
open Go.RowKit

/-- The schema and the update that the sums are written into. -/
def rF : List (Int × Int) := [(120, 108), (121, 119)]
def rC : Sch := [(80, rF)]
def rTail : List Int := [44, 98, 58, 108, 44, 120, 58, 98, 44, 121, 58, 119, 61, 120, 33, 125]
def rTxt (s : List Int) : List Int := [80, 123, 97, 58, 104, 61] ++ (s ++ rTail)
def nF : List (Int × Int) := [(97, 104), (98, 108), (120, 98), (121, 119)]
def rM (p1 p2 : List GT) : PM := ⟨80, nF, 80, [⟨p1.map (ptOf rF), false⟩, ⟨[], false⟩, ⟨[⟨120, 0, 0⟩], false⟩, ⟨p2.map (ptOf rF), true⟩]⟩
theorem At.get {s : ByteArray} {k : Nat} {t : List Int} (h : At s k t) (j : Nat) (x : Int) (hx : t[j]? = some x) : nextB s (k + j) = x := by
  rw [h j (List.getElem?_eq_some_iff.1 hx).1, hx]; rfl
theorem rule_sum {T : ByteArray} {num : Int → Int} {v w : Int} (hx : num 120 = v) (hy : num 121 = w) {d : Nat} (hd : d ≤ 7) {s : List Int} {n : Int} (h : SumS v w d s n) {k : Nat} {c : Int} (hA : At T k (61 :: (s ++ [c]))) (hk : k + 1 + s.length ≤ T.size) (hc : sumStop c) :
    ∃ ps, upRule T k = ⟨true, if c = 33 then k + 1 + s.length + 1 else k + 1 + s.length, ps, ((k + 1 : Nat) : Int), c == 33⟩ ∧ (∀ l, ev num ps l = l ++ [n]) ∧ (∀ t ∈ ps, okT t) ∧ 0 < ps.length := by
  have e1 := hA.head
  have e2 := hA.tail.right.head
  obtain ⟨ps, h1, h2, h3, h4⟩ := sum_rd hx hy d 6 hd s n h (k + 1) hA.tail.left hk (by rw [e2]; exact hc)
  refine ⟨ps, ?_, h2, h3, h4⟩
  unfold upRule
  rw [if_pos e1, h1 []]
  simp only [List.nil_append, e2, if_true]
theorem rule_none {T : ByteArray} {k : Nat} {c : Int} (h : nextB T k = c) (hc : c ≠ 61) : upRule T k = ⟨true, k, [], 0, false⟩ := by
  unfold upRule; rw [if_neg (by rw [h]; exact hc)]
theorem field_at {T : ByteArray} {k : Nat} {l kd : Int} (e0 : nextB T k = l) (e1 : nextB T (k + 1) = 58) (e2 : nextB T (k + 1 + 1) = kd) (hl : 97 ≤ l ∧ l ≤ 122) (hk : isKindB kd = true) {a : Nat} {ts : List GT} {sp : Int} {ex : Bool} (hR : upRule T (k + 1 + 1 + 1) = ⟨true, a, ts, sp, ex⟩) : gdField upRule T k = ⟨true, a, ⟨l, k, kd, ts, sp, ex⟩⟩ := by
  unfold gdField
  rw [e0, e1, e2, hR, hk, if_neg (by simp [hl.1, hl.2]), if_neg (by decide), if_neg (by decide), if_neg (by simp)]
theorem loop_more {T : ByteArray} {n : Nat} {fs : List GFd} {k a : Nat} {f : GFd} (hF : gdField upRule T k = ⟨true, a, f⟩) (hl : fs.length ≠ 5) (hc : nextB T a = 44) : gdLoop upRule T (n + 1) fs k = gdLoop upRule T n (fs ++ [f]) (a + 1) := by
  rw [gdLoop, hF]
  simp only []
  rw [if_neg (by decide), if_neg (by rw [hc]; decide), if_neg (by rw [hc]; simp [hl])]
theorem loop_last {T : ByteArray} {n : Nat} {fs : List GFd} {k a : Nat} {f : GFd} (hF : gdField upRule T k = ⟨true, a, f⟩) (hc : nextB T a = 125) : gdLoop upRule T (n + 1) fs k = ⟨true, a + 1, fs ++ [f]⟩ := by
  rw [gdLoop, hF]
  simp only []
  rw [if_neg (by decide), if_pos hc]
theorem fNum_ok : ∀ ps : List GT, (∀ t ∈ ps, okT t) → fNum rF ps = (0, 0) := by
  intro ps
  induction ps with
  | nil => intro _; rfl
  | cons t r ih =>
    intro h
    have ih := ih fun x hx => h x (List.mem_cons_of_mem _ hx)
    rw [fNum, ih]
    rcases h t List.mem_cons_self with h1 | h1 | h1 | h1
    · have : isLw t.w = false := by
        unfold isSg at h1
        simp at h1
        rcases h1 with (h1 | h1) | h1 <;> rw [h1] <;> rfl
      rw [this]; rfl
    · rw [h1]; rfl
    · rw [h1]; rfl
    · rw [h1]; rfl
/-- What the text is read as. -/
theorem up_run {T : ByteArray} {num : Int → Int} {v w : Int} (hx : num 120 = v) (hy : num 121 = w) {d : Nat} (hd : d ≤ 7) {s : List Int} {n : Int} (h : SumS v w d s n) (hT : bytesOf T = rTxt s) (hz : T.size ≤ 200) :
    ∃ p1 p2, uE rC T = 0 ∧ uP rC T = 0 ∧ uM rC T = [rM p1 p2] ∧ (∀ l, ev num p1 l = l ++ [n]) ∧ (∀ l, ev num p2 l = l ++ [v]) ∧ p1.length ≤ 200 ∧ p2.length ≤ 200 := by
  have hA : At T 0 (rTxt s) := At.all hT
  have hsz : T.size = 22 + s.length := by rw [← bytesOf_len, hT]; simp [rTxt, rTail]; omega
  have g0 := hA.left
  have g1 := hA.right
  have g2 := g1.right
  rw [show ([80, 123, 97, 58, 104, 61] : List Int).length = 6 from rfl, Nat.zero_add] at g1 g2
  have q := fun j x (hj : rTail[j]? = some x) => g2.get j x hj
  have b := fun j x (hj : ([80, 123, 97, 58, 104, 61] : List Int)[j]? = some x) => (show nextB T j = x by have := g0.get j x hj; rwa [Nat.zero_add] at this)
  obtain ⟨L, hL⟩ : ∃ L, L = s.length := ⟨_, rfl⟩
  rw [← hL] at hsz q g2
  have A1 : At T 5 (61 :: (s ++ [44])) := by
    intro j hj
    rcases Nat.lt_or_ge j 1 with h0 | h0
    · have : j = 0 := by omega
      subst this; exact b 5 61 rfl
    · obtain ⟨i, rfl⟩ : ∃ i, j = i + 1 := ⟨j - 1, by omega⟩
      simp only [List.length_cons, List.length_append, List.length_nil] at hj
      have := g1 i (by simp [rTail]; omega)
      rw [show 5 + (i + 1) = 6 + i by omega, this, List.getElem?_cons_succ]
      rcases Nat.lt_or_ge i s.length with h1 | h1
      · rw [List.getElem?_append_left h1, List.getElem?_append_left h1]
      · have : i = s.length := by omega
        subst this
        rw [List.getElem?_append_right (Nat.le_refl _), List.getElem?_append_right (Nat.le_refl _), Nat.sub_self]; rfl
  have A2 : At T (6 + L + 12) (61 :: ([120] ++ [33])) := by
    intro j hj
    have : j = 0 ∨ j = 1 ∨ j = 2 := by simp at hj; omega
    rcases this with rfl | rfl | rfl
    · exact q 12 61 rfl
    · exact q 13 120 rfl
    · exact q 14 33 rfl
  obtain ⟨p1, r1, v1, o1, l1⟩ := rule_sum hx hy hd h A1 (by omega) ⟨⟨by unfold facStop; omega, rfl⟩, rfl⟩
  obtain ⟨p2, r2, v2, o2, l2⟩ := rule_sum hx hy (d := 1) (by omega) (Smm.one (Prd.one (Fac.x (S := SumS v w 0)))) A2 (by simp; omega) ⟨⟨by unfold facStop; omega, rfl⟩, rfl⟩
  rw [if_neg (by decide), ← hL] at r1
  rw [if_pos rfl] at r2
  have F1 := field_at (b 2 97 rfl) (b 3 58 rfl) (b 4 104 rfl) ⟨by decide, by decide⟩ rfl r1
  have F2 := field_at (T := T) (k := 6 + L + 1) (q 1 98 rfl) (q 2 58 rfl) (q 3 108 rfl) ⟨by decide, by decide⟩ rfl (rule_none (q 4 44 rfl) (by decide))
  have F3 := field_at (T := T) (k := 6 + L + 5) (q 5 120 rfl) (q 6 58 rfl) (q 7 98 rfl) ⟨by decide, by decide⟩ rfl (rule_none (q 8 44 rfl) (by decide))
  have F4 := field_at (T := T) (k := 6 + L + 9) (q 9 121 rfl) (q 10 58 rfl) (q 11 119 rfl) ⟨by decide, by decide⟩ rfl r2
  obtain ⟨fs, hfs⟩ : ∃ fs, fs = ([] ++ [(⟨97, (2 : Nat), 104, p1, ((5 + 1 : Nat) : Int), false⟩ : GFd)] ++ [⟨98, ((6 + L + 1 : Nat) : Int), 108, [], 0, false⟩] ++ [⟨120, ((6 + L + 5 : Nat) : Int), 98, [], 0, false⟩] ++ [⟨121, ((6 + L + 9 : Nat) : Int), 119, p2, ((6 + L + 12 + 1 : Nat) : Int), true⟩] : List GFd) := ⟨_, rfl⟩
  have hG : gdLoop upRule T 6 [] 2 = ⟨true, T.size, fs⟩ := by
    rw [loop_more F1 (by decide) (by have := q 0 44 rfl; rw [show 5 + 1 + L = 6 + L + 0 by omega]; exact this), show 5 + 1 + L + 1 = 6 + L + 1 by omega,
      loop_more F2 (by simp) (q 4 44 rfl), loop_more (k := 6 + L + 1 + 1 + 1 + 1 + 1) F3 (by simp) (q 8 44 rfl),
      loop_last (k := 6 + L + 5 + 1 + 1 + 1 + 1) F4 (by have := q 15 125 rfl; exact this), hfs]
    congr 1
    simp; omega
  have hGF : gdFields upRule T 2 = ⟨true, T.size, fs⟩ := by unfold gdFields; rw [if_neg (by rw [b 2 97 rfl]; decide)]; exact hG
  have hFr : upFrom T 1 = ⟨true, 1, 0, 0⟩ := by unfold upFrom; rw [if_neg (by rw [b 1 123 rfl]; decide)]
  have hC : gdClass upRule upFrom T 0 = ⟨true, T.size, ⟨80, (0 : Nat), 0, 0, fs⟩⟩ := by
    unfold gdClass
    simp only [Nat.zero_add, hFr, b 0 80 rfl, b 1 123 rfl, hGF]
    rw [if_neg (by decide), if_neg (by decide), if_neg (by decide), if_neg (by decide)]
  have hU : uR T = ⟨true, T.size, [⟨80, (0 : Nat), 0, 0, fs⟩]⟩ := by
    unfold uR
    rw [gcLoop, hC]
    simp only []
    rw [if_neg (by decide), if_pos trivial]; rfl
  have hB := uR_bound T
  rw [hU] at hB
  have e1 : gdE (uR T) T = 0 := by unfold gdE; rw [if_neg (by omega), hU]; rfl
  have e2 : fTw (vsO rC) (uR T).cs = -1 := by rw [hU, hfs]; rfl
  have e3 : gFault (vsO rC) rC (uR T).cs = (0, 0) := by
    rw [hU]
    show (if _ then _ else if (gFlds rF fs).1 ≠ 0 then gFlds rF fs else (0, 0)) = _
    have : gFlds rF fs = (0, 0) := by
      rw [hfs]
      simp only [List.nil_append, List.cons_append, gFlds, fFld, fNum_ok p1 o1, fNum_ok p2 o2]
      rfl
    rw [this]; rfl
  have m1 : p1.length ≤ 200 := Nat.le_trans ((hB.2 _ List.mem_cons_self).2 ⟨97, (2 : Nat), 104, p1, ((5 + 1 : Nat) : Int), false⟩ (by rw [hfs]; simp)) hz
  have m2 : p2.length ≤ 200 := Nat.le_trans ((hB.2 _ List.mem_cons_self).2 ⟨121, ((6 + L + 9 : Nat) : Int), 119, p2, ((6 + L + 12 + 1 : Nat) : Int), true⟩ (by rw [hfs]; simp)) hz
  have e0 : uE rC T = 0 := by unfold uE; rw [if_neg (by rw [e1]; decide), if_neg (by rw [e2]; decide), e3]
  refine ⟨p1, p2, e0, ?_, ?_, v1, v2, m1, m2⟩
  · unfold uP; rw [if_neg (by rw [e1]; decide), if_neg (by rw [e2]; decide), e3]; rfl
  · unfold uM
    rw [if_pos e0, hU]
    show [mkOf (vsO rC) rC _] = _
    congr 1
    unfold mkOf rM
    rw [hfs]
    have c1 : prOf rF ⟨97, (2 : Nat), 104, p1, ((5 + 1 : Nat) : Int), false⟩ = ⟨p1.map (ptOf rF), false⟩ := by unfold prOf; rw [if_neg (by simp only []; omega)]
    have c2 : prOf rF ⟨121, ((6 + L + 9 : Nat) : Int), 119, p2, ((6 + L + 12 + 1 : Nat) : Int), true⟩ = ⟨p2.map (ptOf rF), true⟩ := by unfold prOf; rw [if_neg (by simp only []; omega)]
    have hf : fof rC (srcI (vsO rC) 80 0) = rF := rfl
    simp only [hf, List.nil_append, List.cons_append, List.map_cons, List.map_nil, c1, c2]
    rfl
end Go.Proofs.Ythckelcjncnalab
namespace Go.Proofs.Ythckelcjncnalab
open Go.RowKit

def rS : ByteArray := ⟨#[80, 123, 120, 58, 108, 44, 121, 58, 119, 125]⟩
set_option maxRecDepth 100000 in
theorem rS_ok : newE rS 9 = 0 := by kernel_rfl
set_option maxRecDepth 100000 in
theorem rS_cs : readC rS = rC := by kernel_rfl
theorem rC_fof : fof rC 80 = rF := rfl
theorem rC_6 : ∀ c ∈ rC, c.2.length ≤ 6 := by intro c hc; simp [rC] at hc; subst hc; decide
/-- The heap of the statement. -/
structure RST (w : World) (B lo hi hb : Nat) (sv : SV) (vs : List (Int × SV)) (a : Nat) (R : Nat → Nat) (K : Nat → Int) (F : Nat → Nat → Nat) (N : Nat → Nat → Int) : Prop where
  hp : HP w hb sv 9 R K N F
  cl : ClsIn w lo hi (.slice sv.a sv.n sv.c) vs rC
  b1 : B ≤ hb
  lh : hi ≤ hb
  ra : R 0 = a
  a0 : 0 < a
  a1 : a < 201
  rr : ∀ i, i < 8 → R i < 201
  ka : K a = 80
  np : N 201 0 = 0
theorem RST.gb {w w' : World} {B lo hi hb : Nat} {sv : SV} {vs : List (Int × SV)} {a : Nat} {R : Nat → Nat} {K : Nat → Int} {F : Nat → Nat → Nat} {N N' : Nat → Nat → Int} (h : RST w B lo hi hb sv vs a R K F N) (hp : HP w' hb sv 9 R K N' F) (np : N' 201 0 = 0) (g : w.grownBy w' (some hb)) : RST w' B lo hi hb sv vs a R K F N' :=
  ⟨hp, h.cl.keep fun b _ h2 => g.block b (by have := h.hp.lt; have := h.lh; omega) (fun e => by injection e with e; have := h.lh; omega), h.b1, h.lh, h.ra, h.a0, h.a1, h.rr, h.ka, np⟩
theorem rfind {a : Nat} {R : Nat → Nat} {K : Nat → Int} (ra : R 0 = a) (a0 : 0 < a) (ka : K a = 80) (x : Int) (i : Nat) (k : Int) (hi : idxF rF x = i) (hk : (rF[i]?.getD (0, 0)).2 = k) : ffind rC R K 0 x = ⟨a, i, k, 0⟩ := by
  unfold ffind
  have e3 : (0 : Int).toNat = 0 := rfl
  rw [if_neg (by decide), e3, ra, if_neg (by omega), ka, rC_fof, hi, if_neg (by omega), Int.toNat_natCast, hk]
theorem rput {w : World} {B lo hi hb : Nat} {sv : SV} {vs : List (Int × SV)} {a : Nat} {R : Nat → Nat} {K : Nat → Int} {F : Nat → Nat → Nat} {N : Nat → Nat → Int} (h : RST w B lo hi hb sv vs a R K F N) (x : Int) (i : Nat) (k : Int) (hi' : idxF rF x = i) (hk : (rF[i]?.getD (0, 0)).2 = k) (hk2 : k ≠ 114) (v : Int) (h1 : -9223372036854775808 ≤ v) (h2 : v ≤ 9223372036854775807) :
    Calls Try.prog 14 #[.pointer (some ⟨hb, 0, none⟩), .int .i64 0, .int .u8 x, .int .i64 v] w fun e w' => e = .returned (.int .i64 0) ∧ RST w' B lo hi hb sv vs a R K F (set2 N a i (wrK k v)) ∧ w.grownBy w' (some hb) := by
  have C := put_any hb sv 9 R K N F lo vs rC w h.hp h.cl.cls h.rr rC_6 0 x v h1 h2
  unfold PutPost at C
  rw [rfind h.ra h.a0 h.ka x i k hi' hk] at C
  have e : fnum ⟨a, i, k, 0⟩ = ⟨a, i, k, 0⟩ := by unfold fnum; rw [if_pos rfl, if_neg hk2]
  rw [e] at C
  refine C.mono ?_
  rintro e' w' ⟨he, hp, g⟩
  have h201 := h.a1
  exact ⟨he, h.gb hp (by show set2 N a i _ 201 0 = 0; rw [set2_ne _ _ (by omega)]; exact h.np) g, g⟩
def q0 : PH := ⟨fun _ => 0, fun _ => 0, fun _ _ => 0, fun _ _ => 0⟩
theorem q0_no (a : Nat) : ¬ q0.in a := fun h => Rch.least (P := fun _ => False) (by rintro x ⟨i, _, rfl, hx⟩; exact hx rfl) (by rintro x y hx _; exact hx) h
theorem rmake {w : World} {B lo hi hb : Nat} {sv : SV} {vs : List (Int × SV)} (hp : HP w hb sv 9 q0.R q0.K q0.N q0.F) (cl : ClsIn w lo hi (.slice sv.a sv.n sv.c) vs rC) (hB : B ≤ hb) (lh : hi ≤ hb) :
    Calls Try.prog 13 #[.pointer (some ⟨hb, 0, none⟩), .int .i64 0, .int .u8 80] w fun e w' => e = .returned (.int .i64 0) ∧ (∃ a, RST w' B lo hi hb sv vs a (mkP q0 a 80 0).R (mkP q0 a 80 0).K (mkP q0 a 80 0).F (mkP q0 a 80 0).N) ∧ w.grownBy w' (some hb) := by
  refine (pmake_any hb sv 9 q0 lo vs rC w hp cl.cls ⟨fun i _ => by simp [q0], fun a j _ _ => by simp [q0]⟩ rC_6 (by omega) (by omega) 0 80).mono ?_
  rintro e w' ⟨L, hd, hm, he, g, _, hz⟩
  have hL : L = [] := by
    cases L with
    | nil => rfl
    | cons x l => exact absurd ((hm x).1 (by simp)) (q0_no x)
  subst hL
  have hE : pmE rC 9 0 80 (wlist rC q0.K []) = 0 := by rfl
  rw [hE] at he
  obtain ⟨a, a0, a1, _, hpa⟩ := hz hE
  refine ⟨he, ⟨a, ⟨hpa, cl.keep fun b _ h2 => g.block b (by have := hp.lt; omega) (fun e => by injection e with e; omega), hB, lh, ?_, a0, a1, fun i hi' => ?_, ?_, ?_⟩⟩, g⟩
  · show set1 (fun _ => 0) 0 a 0 = a; rw [set1_self]
  · show set1 (fun _ => 0) 0 a i < 201
    by_cases e : i = 0
    · subst e; rw [set1_self]; exact a1
    · rw [set1_ne _ _ e]; omega
  · show set1 (fun _ => (0 : Int)) a 80 a = 80; rw [set1_self]
  · show (if 201 = a then (0 : Int) else 0) = 0
    split <;> rfl
/-- Behind Begin. -/
structure RPE (w : World) (B hb : Nat) (sv : SV) (a : Nat) (p : PH) (base : Nat) (mv : List MV) (p1 p2 : List GT) : Prop where
  hp : HP w hb sv 9 p.R p.K p.N p.F
  b1 : B ≤ hb
  ra : p.R 0 = a
  a0 : 0 < a
  rr : ∀ i, i < 8 → p.R i < 201
  ka : p.K a = 80
  np : p.N 201 0 = 1
  mks : Mks w base (updV p.N) mv [rM p1 p2]
theorem rM_ok {p1 p2 : List GT} (h1 : p1.length ≤ 200) (h2 : p2.length ≤ 200) : MOK [rM p1 p2] := by
  refine ⟨fun m hm => ?_, fun m hm r hr => ?_⟩
  · simp at hm; subst hm; rfl
  · simp at hm; subst hm
    simp [rM] at hr
    rcases hr with rfl | rfl | rfl | rfl <;> simp <;> omega
theorem heldI_0 {R : Nat → Nat} {a : Nat} (ra : R 0 = a) (a0 : 0 < a) : heldI R 0 = (a, 0) := by
  unfold heldI
  have e3 : (0 : Int).toNat = 0 := rfl
  rw [if_neg (by decide), e3, ra, if_neg (by omega)]
theorem rpeek {w : World} {B hb : Nat} {sv : SV} {a : Nat} {p : PH} {base : Nat} {mv : List MV} {p1 p2 : List GT} (h : RPE w B hb sv a p base mv p1 p2) (h1 : p1.length ≤ 200) (h2 : p2.length ≤ 200) (x : Int) (y z : Int) (hA : numOf (rM p1 p2) (p.N a) x = (y, z)) :
    Calls Try.prog 16 #[.pointer (some ⟨hb, 0, none⟩), .int .i64 0, .int .u8 x] w fun e w' => e = .returned (.tuple #[.int .i64 y, .int .i64 z]) ∧ RPE w' B hb sv a p base mv p1 p2 ∧ Below w.heap.size w w' := by
  have C := peek_any hb sv 9 p w h.hp h.rr (fun _ => ⟨h.mks, rM_ok h1 h2⟩) 0 x
  have e : pkI p [rM p1 p2] 0 x = (y, z) := by
    unfold pkI
    rw [h.np, if_neg (by decide), heldI_0 h.ra h.a0, if_neg (by simp), h.ka]
    exact hA
  rw [e] at C
  refine C.mono ?_
  rintro e w' ⟨rfl, B1⟩
  exact ⟨rfl, ⟨h.hp.below B1, h.b1, h.ra, h.a0, h.rr, h.ka, h.np, h.mks.below B1⟩, B1⟩
/-- What the four fields become. -/
theorem numOf_eq {m : PM} {N : Nat → Int} {x k v : Int} {r : PR} {i : Nat} (hi : idxF m.fs x = i) (hk : kdM m x = k) (hk2 : k ≠ 114) (hr : rlM m x = r) (hv : top (evP N r.ts []) = v) : numOf m N x = if r.ex = true ∧ wrK k v ≠ v then (0, 15) else (wrK k v, 0) := by
  have hv' : vlM m N x = v := by unfold vlM; rw [hr]; exact hv
  unfold numOf
  rw [hi, if_neg (by omega), hk, if_neg hk2, hr, hv']
theorem peek_a {p1 p2 : List GT} {N : Nat → Int} {n : Int} (h : ∀ l, ev (fun c => numAt N (idxF rF c)) p1 l = l ++ [n]) : numOf (rM p1 p2) N 97 = (wrK 104 n, 0) := by
  rw [numOf_eq (m := rM p1 p2) (i := 0) (k := 104) (r := ⟨p1.map (ptOf rF), false⟩) (v := n) rfl rfl (by decide) rfl (by simp only []; rw [evP_ev, h]; rfl), if_neg (by simp)]
theorem peek_b {p1 p2 : List GT} {N : Nat → Int} : numOf (rM p1 p2) N 98 = (0, 0) := by
  rw [numOf_eq (m := rM p1 p2) (i := 1) (k := 108) (r := ⟨[], false⟩) (v := 0) rfl rfl (by decide) rfl rfl, if_neg (by simp)]; rfl
theorem peek_x {p1 p2 : List GT} {N : Nat → Int} {v : Int} (h : N 0 = v) : numOf (rM p1 p2) N 120 = (wrK 98 v, 0) := by
  rw [numOf_eq (m := rM p1 p2) (i := 2) (k := 98) (r := ⟨[⟨120, 0, 0⟩], false⟩) (v := v) rfl rfl (by decide) rfl (by rw [← h]; rfl), if_neg (by simp)]
theorem peek_y {p1 p2 : List GT} {N : Nat → Int} {v : Int} (h : ∀ l, ev (fun c => numAt N (idxF rF c)) p2 l = l ++ [v]) : numOf (rM p1 p2) N 121 = if wrK 119 v ≠ v then (0, 15) else (wrK 119 v, 0) := by
  rw [numOf_eq (m := rM p1 p2) (i := 3) (k := 119) (r := ⟨p2.map (ptOf rF), true⟩) (v := v) rfl rfl (by decide) rfl (by simp only []; rw [evP_ev, h]; rfl)]
  by_cases e : wrK 119 v ≠ v
  · rw [if_pos ⟨rfl, e⟩, if_pos e]
  · rw [if_neg (fun h => e h.2), if_neg e]
theorem rbegin {w : World} {B lo hi hb : Nat} {sv : SV} {vs : List (Int × SV)} {a : Nat} {R : Nat → Nat} {K : Nat → Int} {F : Nat → Nat → Nat} {N : Nat → Nat → Int} (h : RST w B lo hi hb sv vs a R K F N) {v y : Int} (hv : N a 0 = v) (hy : N a 1 = y) {d : Nat} (hd : d ≤ 7) {s : List Int} {n : Int} (hS : SumS v y d s n) (T : ByteArray) (hT : bytesOf T = rTxt s) (hz : T.size ≤ 200) :
    Calls Try.prog 15 #[.pointer (some ⟨hb, 0, none⟩), .string T] w fun e w' => e = .returned (.tuple #[.int .i64 0, .int .i64 0]) ∧ (∃ (p : PH) (base : Nat) (mv : List MV) (p1 p2 : List GT), RPE w' B hb sv a p base mv p1 p2 ∧ Hid (p1.length ≤ 200 ∧ p2.length ≤ 200 ∧ numOf (rM p1 p2) (p.N a) 97 = (wrK 104 n, 0) ∧ numOf (rM p1 p2) (p.N a) 98 = (0, 0) ∧ numOf (rM p1 p2) (p.N a) 120 = (wrK 98 v, 0) ∧ numOf (rM p1 p2) (p.N a) 121 = if wrK 119 v ≠ v then (0, 15) else (wrK 119 v, 0))) ∧ w.grownBy w' (some hb) := by
  have h201 := h.a1
  obtain ⟨p1, p2, u1, u2, u3, u4, u5, u6, u7⟩ := up_run (num := fun c => numAt (N a) (idxF rF c)) (T := T) (v := v) (w := y) hv hy hd hS hT hz
  have C := begin_any hb sv 9 ⟨R, K, N, F⟩ w h.hp h.cl.cls T (by omega)
  unfold BgPost at C
  have e : bgE ⟨R, K, N, F⟩ rC T = (0, 0) := by unfold bgE; rw [if_neg (by simp [h.np]), u1, u2]
  rw [e, u3] at C
  refine C.mono ?_
  rintro e w' ⟨he, g, _, hz2⟩
  obtain ⟨N', mv, hp', n1, n2, M⟩ := hz2 rfl
  have eN : N' a = N a := funext fun j => n2 a j (by omega)
  refine ⟨he, ⟨⟨R, K, N', F⟩, _, mv, p1, p2, ⟨hp', h.b1, h.ra, h.a0, h.rr, h.ka, n1, M⟩, ?_⟩, g⟩
  show _ ∧ _ ∧ numOf (rM p1 p2) (N' a) 97 = _ ∧ numOf (rM p1 p2) (N' a) 98 = _ ∧ numOf (rM p1 p2) (N' a) 120 = _ ∧ numOf (rM p1 p2) (N' a) 121 = _
  rw [eN]
  exact ⟨u6, u7, peek_a u4, peek_b, peek_x hv, peek_y u5⟩
end Go.Proofs.Ythckelcjncnalab
