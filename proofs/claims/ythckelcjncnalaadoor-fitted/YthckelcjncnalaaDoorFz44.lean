import Derived.Test.YthckelcjncnalaaDoorFz43
import Derived.Test.YthckelcjncnalaaDoorFz41
namespace Go.Proofs.YthckelcjncnalaaDoor
open Go.RowKit

def nO (os : Sch) (i : Nat) : Int := (cat os i).1
/-- The first fault of an update's classes, place by place. -/
def FirstF (os : Sch) (cs : List HC) (n : Nat) (E P : Int) : Prop :=
  (E ≠ 0 ∧ ∃ (i k : Nat) (c : HC), i < n ∧ P = i ∧ cs[k]? = some c ∧ jC os c i = E ∧ (∀ (k' : Nat) c', k' < k → cs[k']? = some c' → jC os c' (i : Nat) = 0) ∧ (∀ i', i' < i → ∀ c' ∈ cs, jC os c' (i' : Nat) = 0)) ∨
  (E = 0 ∧ P = 0 ∧ ∀ i, i < n → ∀ c ∈ cs, jC os c (i : Nat) = 0)
/-- What Update answers. -/
def UpRef (os : Sch) (s : ByteArray) (E P : Int) : Prop :=
  (200 < s.size ∧ E = 1 ∧ P = 0) ∨ (s.size ≤ 200 ∧ ((haAll s = none ∧ E = 2 ∧ P = (uwrongN s s.size 0 : Nat)) ∨
    ∃ cs, haAll s = some cs ∧ ((0 ≤ P ∧ E = 3 ∧ Least (URepN (nO os) os.length cs) P) ∨ (Least (URepN (nO os) os.length cs) (-1) ∧ FirstF os cs s.size E P))))
def UUPost (os : Sch) (s : ByteArray) (w : World) (e : Ending) (w' : World) : Prop := ∃ (a : Option Addr) (n c : Nat) (E P : Int),
  e = .returned (.tuple #[.slice a n c, .int .i64 E, .int .i64 P]) ∧ UpRef os s E P ∧ (E = 0 → ∃ cs vs, haAll s = some cs ∧ UCls w' w.heap.size (.slice a n c) vs cs) ∧ Below w.heap.size w w'
theorem uwrong_rs {s : ByteArray} {w : World} (hm : s.size ≤ 300) (hE : Ends w) (y : Int) (hy : ((uwrongN s s.size 0 : Nat) : Int) = y) :
    Calls Tryd.prog 11 #[.string s, .bool true] w fun e w' => e = .returned (.int .i64 y) ∧ Below w.heap.size w w' := by
  subst hy; exact uwrong_any s w hm hE
set_option maxHeartbeats 400000 in
theorem update_long (x : KX) (os : Sch) (s : ByteArray) (w : World) (h : 200 < s.size) (hm : s.size ≤ 9223372036854775807) :
    Calls Tryd.prog 14 #[.slice (some ⟨x.g, 0, none⟩) os.length x.cap, .string s] w (UUPost os s w) := by
  have HP : Hid (UpRef os s 1 0) := .inl ⟨h, rfl, rfl⟩
  go_enter Tryd.func14, Tryd.ntmps14
  go_wp2
  refine bodyPost_ret (v := .tuple #[.slice none 0 0, .int .i64 1, .int .i64 0]) (by simp [results, Tryd.results14, go_sem]) rfl ⟨_, _, _, _, _, rfl, HP.out, (fun h => by cases h), Below.refl _ _⟩
set_option maxHeartbeats 400000 in
theorem update_none (x : KX) (os : Sch) (s : ByteArray) (w : World) (h : s.size ≤ 200) (hE : Ends w) (hn : haAll s = none) :
    Calls Tryd.prog 14 #[.slice (some ⟨x.g, 0, none⟩) os.length x.cap, .string s] w (UUPost os s w) := by
  obtain ⟨y, hy⟩ : ∃ y : Int, ((uwrongN s s.size 0 : Nat) : Int) = y := ⟨_, rfl⟩
  have HP : Hid (UpRef os s 2 y) := .inr ⟨h, .inl ⟨hn, rfl, hy.symm⟩⟩
  have C1 := uall_rs (u := s) (w := w) (by omega) false (by rw [hn]; rfl)
  have HW : Hid (∀ W, Below w.heap.size w W → Calls Tryd.prog 11 #[.string s, .bool true] W fun e w' => e = .returned (.int .i64 y) ∧ Below W.heap.size W w') := fun W hb => uwrong_rs (by omega) (hE.below hb) y hy
  clear hn hy hE
  go_enter Tryd.func14, Tryd.ntmps14
  go_wp2_with fail
  refine C1.mono ?_
  rintro e w1 ⟨a, n, c, rfl, B1⟩
  have D := HW.out w1 B1
  clear C1
  go_wp2_with fail
  refine D.mono ?_
  rintro e w2 ⟨rfl, B2⟩
  clear D
  go_wp2
  refine bodyPost_ret (v := .tuple #[.slice none 0 0, .int .i64 2, .int .i64 y]) (by simp [results, Tryd.results14, go_sem]) rfl ⟨_, _, _, _, _, rfl, HP.out, (fun h => by cases h), B1.trans (B2.mono B1.size)⟩
set_option maxHeartbeats 2000000 in
set_option maxRecDepth 100000 in
theorem update_some (x : KX) (os : Sch) (s : ByteArray) (cs : List HC) (w : World) (h : s.size ≤ 200) (K : KC w x os) (hU : Uq os) (hs : haAll s = some cs) :
    Calls Tryd.prog 14 #[.slice (some ⟨x.g, 0, none⟩) os.length x.cap, .string s] w (UUPost os s w) := by
  obtain ⟨hok, hne⟩ := haAll_ok s (by omega) cs hs
  have C1 := uall_any s w (by omega)
  unfold UAllPost at C1
  rw [hs] at C1
  simp only [Option.isSome_some] at C1
  have HS : Hid (haAll s = some cs) := hs
  have HK : Hid (KC w x os) := K
  have HU : Hid (Uq os) := hU
  have HO : Hid ((cs.length ≤ 6 ∧ ∀ c ∈ cs, CO c) ∧ cs ≠ []) := ⟨hok, hne⟩
  obtain ⟨ol, hol⟩ : ∃ ol, ol = os.length := ⟨_, rfl⟩
  rw [← hol]
  have HOL : Hid (ol = os.length) := hol
  have hol6 : ol ≤ 6 := by rw [hol]; exact hU.s
  unfold UUPost
  clear hs K hU hok hne hol
  go_enter Tryd.func14, Tryd.ntmps14
  go_wp2_with fail
  refine C1.mono ?_
  rintro e w1 ⟨va, vn, vc, rfl, hV, B1⟩
  obtain ⟨vs, V1⟩ := hV cs rfl
  obtain ⟨g, cap, hgv, hg, _, hc⟩ := V1.cells HO.out.2
  have C2 := utwice_any x.g x.cap os.length (nO os) cs vs _ _ w1 ((HK.out.below B1).oldN HU.out.s) V1 (UFine_of HO.out.1) HO.out.2
  obtain ⟨m, hm⟩ : ∃ m, m = cs.length := ⟨_, rfl⟩
  cases hgv
  rw [← hm] at C2 hc V1 ⊢
  rw [← HOL.out] at C2
  have hm6 : m ≤ 6 := by rw [hm]; exact HO.out.1.1
  have HM : Hid (m = cs.length) := hm
  have HV1 : Hid (UCls w1 w.heap.size (.slice (some ⟨g, 0, none⟩) m vc) vs cs) := V1
  have HC : Hid (∀ i, i < m → HCell w1 g i (vs[i]?.getD noHV)) := hc
  clear C1 hV V1 hm hc
  go_wp2_with fail
  refine C2.mono ?_
  rintro e w2 ⟨b, rfl, hL, B2⟩
  have BW2 : Below w.heap.size w w2 := B1.trans (B2.mono B1.size)
  have HLb : Hid (Least (URepN (nO os) ol cs) b) := hL
  clear C2 hL
  by_cases hb0 : 0 ≤ b
  · have HP : Hid (UpRef os s 3 b) := .inr ⟨h, .inr ⟨cs, HS.out, .inl ⟨hb0, rfl, by rw [← HOL.out]; exact HLb.out⟩⟩⟩
    go_wp2
    refine bodyPost_ret (v := .tuple #[.slice none 0 0, .int .i64 3, .int .i64 b]) (by simp [results, Tryd.results14, go_sem]) rfl ⟨_, _, _, _, _, rfl, HP.out, (fun h => by cases h), BW2⟩
  · have HL1 : Hid (Least (URepN (nO os) os.length cs) (-1)) := by
      have := HLb.out
      rw [HOL.out] at this
      rcases this with ⟨rfl, h'⟩ | ⟨h', _⟩
      · exact .inl ⟨rfl, h'⟩
      · exact absurd h' hb0
    go_wp2
    go_loopw [11] (fun iv wi => ∃ i : Nat, i ≤ s.size ∧ iv = .int .i64 i ∧ Hid (∀ i', i' < i → ∀ c' ∈ cs, jC os c' (i' : Nat) = 0) ∧ Below w2.heap.size w2 wi) (fun iv _ => s.size - (intOf iv).toNat)
    case atStart => exact ⟨0, Nat.zero_le _, rfl, fun i' h => by omega, Below.refl _ _⟩
    case round =>
      obtain ⟨i, hi, rfl, HJ, hbi⟩ := hrel
      have HJ0 : Hid (∀ i', i' < i → ∀ c' ∈ cs, jC os c' (i' : Nat) = 0) := HJ
      by_cases hil : i < s.size
      · go_wp2
        go_loopw [12] (fun kv wk => ∃ k : Nat, k ≤ m ∧ kv = .int .i64 k ∧ Hid (∀ (k' : Nat) c', k' < k → cs[k']? = some c' → jC os c' (i : Nat) = 0) ∧ Below w2.heap.size w2 wk) (fun kv _ => m - (intOf kv).toNat)
        case atStart => exact ⟨0, Nat.zero_le _, rfl, fun k' c' h => by omega, hbi⟩
        case round =>
          clear hbi HJ
          obtain ⟨k, hk, rfl, HKk, hb⟩ := hrel
          have BW : Below w.heap.size w wr := BW2.trans (hb.mono BW2.size)
          have BW1 : Below w1.heap.size w1 wr := B2.trans (hb.mono B2.size)
          by_cases hkl : k < m
          · have hvk : vs[k]? = some (vs[k]?.getD noHV) := getD_of (by rw [HV1.out.len, ← HM.out]; exact hkl) noHV
            obtain ⟨v, hv⟩ : ∃ v, v = vs[k]?.getD noHV := ⟨_, rfl⟩
            rw [← hv] at hvk
            obtain ⟨c, hck⟩ : ∃ c, cs[k]? = some c := ⟨_, List.getElem?_eq_getElem (by rw [← HM.out]; exact hkl)⟩
            obtain ⟨⟨r1, r2, r3⟩, r4, r5⟩ := HV1.out.fld k v c hvk hck
            have hcc := HC.out k hkl
            rw [← hv] at hcc
            have i0 : wr.cell? ⟨g, k * 5, none⟩ = some (.int .u8 c.n) := (BW1.cell (p := ⟨g, _, none⟩) hg).trans (by rw [← r1]; exact hcc.c0)
            have i1 : wr.cell? ⟨g, k * 5 + 1, none⟩ = some (.int .u8 c.s) := (BW1.cell (p := ⟨g, _, none⟩) hg).trans (by rw [← r2]; exact hcc.c1)
            have i2 : wr.cell? ⟨g, k * 5 + 2, none⟩ = some (.int .i64 c.p) := (BW1.cell (p := ⟨g, _, none⟩) hg).trans (by rw [← r4]; exact hcc.c2)
            have i3 : wr.cell? ⟨g, k * 5 + 3, none⟩ = some (.int .i64 c.sa) := (BW1.cell (p := ⟨g, _, none⟩) hg).trans (by rw [← r3]; exact hcc.c3)
            have i4 : wr.cell? ⟨g, k * 5 + 4, none⟩ = some (.slice v.v.a v.v.n v.v.c) := (BW1.cell (p := ⟨g, _, none⟩) hg).trans hcc.c4
            have hgr : g < wr.heap.size := Nat.lt_of_lt_of_le hg BW1.size
            have hco := HO.out.1.2 c (List.mem_of_getElem? hck)
            have UVk : UV wr w.heap.size (.slice v.v.a v.v.n v.v.c) c.l := r5.below BW1
            have C3 := judge_any (at_ := (i : Int)) (HK.out.below BW) HU.out UVk (by omega) (by omega) (fun f hf => ⟨(hco.1.2 f hf).2.2.1, (hco.1.2 f hf).2.2.2.1, (hco.1.2 f hf).2.2.2.2⟩) hco.1.1
            obtain ⟨E, hE⟩ : ∃ E, jC os c i = E := ⟨_, rfl⟩
            rw [hE, ← HOL.out] at C3
            have HE : Hid (cs[k]? = some c ∧ jC os c i = E) := ⟨hck, hE⟩
            clear r5 UVk
            generalize v.v = q at i4 C3
            obtain ⟨sa, sn, sc⟩ := q
            simp only [] at i4 C3
            obtain ⟨p, hp⟩ : ∃ p : Int, p = (c.p : Int) := ⟨_, rfl⟩
            rw [← hp] at i2 C3
            clear hv hvk hck r1 r2 r3 r4 hcc hco hE hp
            go_wp2_with fail
            refine C3.mono ?_
            rintro e w3 ⟨rfl, B3⟩
            have BB : Below w2.heap.size w2 w3 := hb.trans (B3.mono hb.size)
            have BW3 : Below w.heap.size w w3 := BW.trans (B3.mono BW.size)
            clear C3 B3 hb BW BW1 i0 i1 i2 i3 i4
            by_cases he : E = 0
            · have e1 : (E != 0) = false := by simp [he]
              have HN : Hid (∀ (k' : Nat) c', k' < k + 1 → cs[k']? = some c' → jC os c' (i : Nat) = 0) := by
                intro k' c' hk' hc'
                rcases Nat.lt_succ_iff_lt_or_eq.1 hk' with h' | rfl
                · exact HKk.out k' c' h' hc'
                · rw [HE.out.1] at hc'; injection hc' with hc'; rw [← hc', HE.out.2]; exact he
              clear he
              go_wp2
              exact ⟨⟨k + 1, by omega, rfl, HN, BB⟩, by simp [intOf]; omega⟩
            · have e1 : (E != 0) = true := by simp [he]
              have HP : Hid (UpRef os s E i) := .inr ⟨h, .inr ⟨cs, HS.out, .inr ⟨HL1.out, .inl ⟨he, i, k, c, hil, rfl, HE.out.1, HE.out.2, HKk.out, HJ0.out⟩⟩⟩⟩
              have HE0 : Hid (E ≠ 0) := he
              clear he
              go_wp2
              refine bodyPost_ret (v := .tuple #[.slice none 0 0, .int .i64 E, .int .i64 i]) (by simp [results, Tryd.results14, go_sem]) rfl ⟨_, _, _, _, _, rfl, HP.out, fun h => absurd h HE0.out, BW3⟩
          · have HN : Hid (∀ i', i' < i + 1 → ∀ c' ∈ cs, jC os c' (i' : Nat) = 0) := by
              intro i' hi' c' hc'
              rcases Nat.lt_succ_iff_lt_or_eq.1 hi' with h' | rfl
              · exact HJ0.out i' h' c' hc'
              · obtain ⟨k', hk', rfl⟩ := List.getElem_of_mem hc'
                exact HKk.out k' _ (by rw [← HM.out] at hk'; omega) (List.getElem?_eq_getElem hk')
            go_wp2
            exact ⟨⟨i + 1, by omega, rfl, HN, hb⟩, by simp [intOf]; omega⟩
      · have HP : Hid (UpRef os s 0 0) := .inr ⟨h, .inr ⟨cs, HS.out, .inr ⟨HL1.out, .inr ⟨rfl, rfl, fun i' hi' => HJ0.out i' (by omega)⟩⟩⟩⟩
        have BW : Below w.heap.size w wr := BW2.trans (hbi.mono BW2.size)
        have HF : Hid (UCls wr w.heap.size (.slice (some ⟨g, 0, none⟩) m vc) vs cs) := HV1.out.below (B2.trans (hbi.mono B2.size))
        go_wp2
        refine bodyPost_ret (v := .tuple #[.slice (some ⟨g, 0, none⟩) m vc, .int .i64 0, .int .i64 0]) (by simp [results, Tryd.results14, go_sem]) rfl ⟨_, _, _, _, _, rfl, HP.out, fun _ => ⟨cs, vs, HS.out, HF.out⟩, BW⟩
theorem update_any {x : KX} {os : Sch} {w : World} (s : ByteArray) (K : KC w x os) (hU : Uq os) (hE : Ends w) (hm : s.size ≤ 9223372036854775807) :
    Calls Tryd.prog 14 #[.slice (some ⟨x.g, 0, none⟩) os.length x.cap, .string s] w (UUPost os s w) := by
  by_cases h : 200 < s.size
  · exact update_long x os s w h hm
  · cases hs : haAll s with
    | none => exact update_none x os s w (by omega) hE hs
    | some cs => exact update_some x os s cs w (by omega) K hU hs
end Go.Proofs.YthckelcjncnalaaDoor
namespace Go.Proofs.YthckelcjncnalaaDoor
open Go.RowKit

/-- The fields' first fault. -/
theorem flds_first {s : ByteArray} {fs : List (Int × Int)} (K : KP fs) : ∀ (gf : List GFd) (gs : List GU) (lo hi : Nat), FMs s lo hi gf gs → hi ≤ s.size → Fst (fun i => jFs fs (i : Nat) gs) (lo + 4) hi (gFlds fs gf) := by
  intro gf
  induction gf with
  | nil =>
    intro gs lo hi h _
    cases gs with
    | nil => exact ⟨fun i h => absurd rfl h, fun _ _ => rfl, fun h => absurd rfl h⟩
    | cons g gs => exact h.elim
  | cons f gf ih =>
    intro gs lo hi h hh
    cases gs with
    | nil => exact h.elim
    | cons g gs =>
      obtain ⟨k, e, h1, h2, h3⟩ := h
      have hle := FMs_le h3
      have hle2 := h2.le
      have A := fld_first K h2 (by omega)
      have B := ih gs e hi h3 hh
      have hJ : ∀ i : Nat, jFs fs (i : Nat) (g :: gs) = if jF1 fs (i : Nat) g ≠ 0 then jF1 fs (i : Nat) g else jFs fs (i : Nat) gs := fun i => rfl
      refine ⟨fun i hi' => ?_, fun hG i => ?_, fun hG => ?_⟩
      · have hi'' : jFs fs (i : Nat) (g :: gs) ≠ 0 := hi'
        rw [hJ] at hi''
        by_cases hc : jF1 fs (i : Nat) g ≠ 0
        · have := A.sup i hc; omega
        · rw [if_neg hc] at hi''
          have := B.sup i hi''; omega
      · show jFs fs (i : Nat) (g :: gs) = 0
        rw [gFlds] at hG
        by_cases hc : (fFld fs f).1 ≠ 0
        · rw [if_pos hc] at hG; exact absurd hG hc
        · rw [if_neg hc] at hG
          have a0 : jF1 fs (i : Nat) g = 0 := A.none_ (by simpa using hc) i
          rw [hJ, if_neg (by simpa using a0)]
          exact B.none_ hG i
      · rw [gFlds] at hG ⊢
        by_cases hc : (fFld fs f).1 ≠ 0
        · rw [if_pos hc] at hG ⊢
          obtain ⟨i, i1, i2, i3⟩ := A.some_ hc
          have i2' : jF1 fs (i : Nat) g = (fFld fs f).1 := i2
          have hs := A.sup i (by show jF1 fs (i : Nat) g ≠ 0; rw [i2']; exact hc)
          refine ⟨i, i1, ?_, fun i' hi' => ?_⟩
          · show jFs fs (i : Nat) (g :: gs) = _
            rw [hJ, if_pos (by rw [i2']; exact hc)]; exact i2
          · show jFs fs (i' : Nat) (g :: gs) = 0
            have a0 : jF1 fs (i' : Nat) g = 0 := i3 i' hi'
            rw [hJ, if_neg (by simpa using a0)]
            apply Classical.byContradiction
            intro hb
            have := B.sup i' hb; omega
        · rw [if_neg hc] at hG ⊢
          obtain ⟨i, i1, i2, i3⟩ := B.some_ hG
          have a0 : ∀ i : Nat, jF1 fs (i : Nat) g = 0 := A.none_ (by simpa using hc)
          refine ⟨i, i1, ?_, fun i' hi' => ?_⟩
          · show jFs fs (i : Nat) (g :: gs) = _
            rw [hJ, if_neg (by simpa using a0 i)]; exact i2
          · show jFs fs (i' : Nat) (g :: gs) = 0
            rw [hJ, if_neg (by simpa using a0 i')]; exact i3 i' hi'
def gC1 (os : Sch) (c : GCd) : Int × Int := if c.fl ≠ 0 ∧ hasC (vsO os) (srcI (vsO os) c.l c.fl) = false then (4, c.fp) else gFlds (fof os (srcI (vsO os) c.l c.fl)) c.fs
/-- A class's first fault. -/
theorem cls_first {s : ByteArray} {os : Sch} (K : ∀ x, KP (fof os x)) {k e : Nat} {c : GCd} {h : HC} (C : CM s k e c h) (he : e ≤ s.size) : Fst (fun i => jC os h (i : Nat)) k e (gC1 os c) := by
  have B := flds_first (K (srcI (vsO os) c.l c.fl)) c.fs h.l (k + 2) e C.fs he
  have hle := C.le
  unfold gC1
  by_cases h0 : c.fl = 0
  · rw [if_neg (fun h' => h'.1 h0)]
    have hJ : ∀ i : Nat, jC os h (i : Nat) = jFs (fof os (srcI (vsO os) c.l c.fl)) (i : Nat) h.l := by
      intro i; unfold jC; rw [if_neg (fun h' => h'.1 (by rw [C.s_]; exact h0)), C.n, C.s_]
    refine ⟨fun i hi => ?_, fun hG i => ?_, fun hG => ?_⟩
    · have hi' : jC os h (i : Nat) ≠ 0 := hi
      rw [hJ] at hi'
      have := B.sup i hi'; omega
    · show jC os h (i : Nat) = 0
      rw [hJ]; exact B.none_ hG i
    · obtain ⟨i, i1, i2, i3⟩ := B.some_ hG
      exact ⟨i, i1, by show jC os h (i : Nat) = _; rw [hJ]; exact i2, fun i' hi' => by show jC os h (i' : Nat) = 0; rw [hJ]; exact i3 i' hi'⟩
  · have hs : srcI (vsO os) c.l c.fl = c.fl := by unfold srcI; rw [if_pos h0]
    obtain ⟨hsa, hfp⟩ := C.src h0
    rw [hs] at B ⊢
    have hb2 : jFs (fof os c.fl) ((k + 2 : Nat) : Int) h.l = 0 := by
      apply Classical.byContradiction
      intro hb
      have := B.sup (k + 2) hb; omega
    have hJ : ∀ i : Nat, jC os h (i : Nat) = if i = k + 2 then (if hasC (vsO os) c.fl = true then 0 else 4) else jFs (fof os c.fl) (i : Nat) h.l := by
      intro i
      unfold jC
      rw [C.s_, C.n, hs, hsa]
      by_cases hi : i = k + 2
      · rw [if_pos ⟨h0, by rw [hi]⟩, if_pos hi]
      · rw [if_neg (fun h' => hi (by have := h'.2; omega)), if_neg hi]
    by_cases hh : hasC (vsO os) c.fl = true
    · rw [if_neg (fun h' => by rw [hh] at h'; exact absurd h'.2 (by decide))]
      have hJ2 : ∀ i : Nat, jC os h (i : Nat) = jFs (fof os c.fl) (i : Nat) h.l := by
        intro i
        rw [hJ]
        by_cases hi : i = k + 2
        · rw [if_pos hi, if_pos hh, hi, hb2]
        · rw [if_neg hi]
      refine ⟨fun i hi => ?_, fun hG i => ?_, fun hG => ?_⟩
      · have hi' : jC os h (i : Nat) ≠ 0 := hi
        rw [hJ2] at hi'
        have := B.sup i hi'; omega
      · show jC os h (i : Nat) = 0
        rw [hJ2]; exact B.none_ hG i
      · obtain ⟨i, i1, i2, i3⟩ := B.some_ hG
        exact ⟨i, i1, by show jC os h (i : Nat) = _; rw [hJ2]; exact i2, fun i' hi' => by show jC os h (i' : Nat) = 0; rw [hJ2]; exact i3 i' hi'⟩
    · rw [if_pos ⟨h0, by simpa using hh⟩]
      -- the class closes behind its source's place
      have hke : k + 2 < e ∨ k + 2 = e := by omega
      refine ⟨fun i hi => ?_, fun hG => absurd hG (by show ¬ (4 : Int) = 0; decide), fun _ => ⟨k + 2, hfp, ?_, fun i' hi' => ?_⟩⟩
      · have hi' : jC os h (i : Nat) ≠ 0 := hi
        rw [hJ] at hi'
        by_cases hi2 : i = k + 2
        · rcases hke with h' | h'
          · omega
          · exact absurd (C.srclt h0) (by omega)
        · rw [if_neg hi2] at hi'
          have := B.sup i hi'; omega
      · show jC os h ((k + 2 : Nat) : Int) = 4
        rw [hJ, if_pos rfl, if_neg hh]
      · show jC os h (i' : Nat) = 0
        rw [hJ, if_neg (by omega)]
        apply Classical.byContradiction
        intro hb
        have := B.sup i' hb; omega
def jAll (os : Sch) (i : Nat) : List HC → Int
  | [] => 0
  | h :: r => if jC os h (i : Nat) ≠ 0 then jC os h (i : Nat) else jAll os i r
theorem gFault_cons (os : Sch) (c : GCd) (r : List GCd) : gFault (vsO os) os (c :: r) = if (gC1 os c).1 ≠ 0 then gC1 os c else gFault (vsO os) os r := by
  rw [gFault]
  unfold gC1
  by_cases h : c.fl ≠ 0 ∧ hasC (vsO os) (srcI (vsO os) c.l c.fl) = false
  · rw [if_pos h, if_pos h, if_pos (by show (4 : Int) ≠ 0; decide)]
  · rw [if_neg h, if_neg h]
theorem all_first {s : ByteArray} {os : Sch} (K : ∀ x, KP (fof os x)) : ∀ (cs : List GCd) (hs : List HC) (lo hi : Nat), CMs s lo hi cs hs → hi ≤ s.size → Fst (fun i => jAll os i hs) lo hi (gFault (vsO os) os cs) := by
  intro cs
  induction cs with
  | nil =>
    intro hs lo hi h _
    cases hs with
    | nil => exact ⟨fun i h => absurd rfl h, fun _ _ => rfl, fun h => absurd rfl h⟩
    | cons g gs => exact h.elim
  | cons c cs ih =>
    intro hs lo hi h hh
    cases hs with
    | nil => exact h.elim
    | cons g gs =>
      obtain ⟨k, e, h1, h2, h3⟩ := h
      have hle := CMs_le h3
      have hle2 := h2.le
      have A := cls_first K h2 (by omega)
      have B := ih gs (e + 1) hi h3 hh
      have hJ : ∀ i : Nat, jAll os i (g :: gs) = if jC os g (i : Nat) ≠ 0 then jC os g (i : Nat) else jAll os i gs := fun i => rfl
      rw [gFault_cons]
      refine ⟨fun i hi' => ?_, fun hG i => ?_, fun hG => ?_⟩
      · have hi'' : jAll os i (g :: gs) ≠ 0 := hi'
        rw [hJ] at hi''
        by_cases hc : jC os g (i : Nat) ≠ 0
        · have := A.sup i hc; omega
        · rw [if_neg hc] at hi''
          have := B.sup i hi''; omega
      · show jAll os i (g :: gs) = 0
        by_cases hc : (gC1 os c).1 ≠ 0
        · rw [if_pos hc] at hG; exact absurd hG hc
        · rw [if_neg hc] at hG
          have a0 : jC os g (i : Nat) = 0 := A.none_ (by simpa using hc) i
          rw [hJ, if_neg (by simpa using a0)]
          exact B.none_ hG i
      · by_cases hc : (gC1 os c).1 ≠ 0
        · rw [if_pos hc] at hG ⊢
          obtain ⟨i, i1, i2, i3⟩ := A.some_ hc
          have i2' : jC os g (i : Nat) = (gC1 os c).1 := i2
          have hs := A.sup i (by show jC os g (i : Nat) ≠ 0; rw [i2']; exact hc)
          refine ⟨i, i1, ?_, fun i' hi' => ?_⟩
          · show jAll os i (g :: gs) = _
            rw [hJ, if_pos (by rw [i2']; exact hc)]; exact i2
          · show jAll os i' (g :: gs) = 0
            have a0 : jC os g (i' : Nat) = 0 := i3 i' hi'
            rw [hJ, if_neg (by simpa using a0)]
            apply Classical.byContradiction
            intro hb
            have := B.sup i' hb; omega
        · rw [if_neg hc] at hG ⊢
          obtain ⟨i, i1, i2, i3⟩ := B.some_ hG
          have a0 : ∀ i : Nat, jC os g (i : Nat) = 0 := A.none_ (by simpa using hc)
          refine ⟨i, i1, ?_, fun i' hi' => ?_⟩
          · show jAll os i (g :: gs) = _
            rw [hJ, if_neg (by simpa using a0 i)]; exact i2
          · show jAll os i' (g :: gs) = 0
            rw [hJ, if_neg (by simpa using a0 i')]; exact i3 i' hi'
theorem jAll_zero {os : Sch} {i : Nat} : ∀ {hs : List HC}, (∀ c ∈ hs, jC os c (i : Nat) = 0) → jAll os i hs = 0 := by
  intro hs
  induction hs with
  | nil => intro _; rfl
  | cons h r ih =>
    intro hz
    rw [jAll, if_neg (by simpa using hz h (List.mem_cons_self ..))]
    exact ih fun c hc => hz c (List.mem_cons_of_mem _ hc)
theorem jAll_hit {os : Sch} {i : Nat} {E : Int} (hE : E ≠ 0) : ∀ {hs : List HC} {k : Nat} {c : HC}, hs[k]? = some c → jC os c (i : Nat) = E → (∀ (k' : Nat) c', k' < k → hs[k']? = some c' → jC os c' (i : Nat) = 0) → jAll os i hs = E := by
  intro hs
  induction hs with
  | nil => intro k c h; simp at h
  | cons h r ih =>
    intro k c hk hc hb
    cases k with
    | zero =>
      simp at hk
      subst hk
      rw [jAll, if_pos (by rw [hc]; exact hE)]; exact hc
    | succ k =>
      rw [jAll, if_neg (by have := hb 0 h (by omega) rfl; simpa using this)]
      exact ih (by simpa using hk) hc fun k' c' h1 h2 => hb (k' + 1) c' (by omega) (by simpa using h2)
/-- The reference's first fault is the program's. -/
theorem first_agree {s : ByteArray} {os : Sch} (K : ∀ x, KP (fof os x)) {cs : List GCd} {hs : List HC} (C : CMs s 0 s.size cs hs) {E P : Int} (h : FirstF os hs s.size E P) :
    E = (gFault (vsO os) os cs).1 ∧ P = if (gFault (vsO os) os cs).1 ≠ 0 then (gFault (vsO os) os cs).2 else 0 := by
  have A := all_first K cs hs 0 s.size C (Nat.le_refl _)
  generalize gFault (vsO os) os cs = G at A ⊢
  rcases h with ⟨hE, i, k, c, hi, rfl, hk, hc, hb, hz⟩ | ⟨rfl, rfl, hz⟩
  · have hJ := jAll_hit hE hk hc hb
    have hJ0 : ∀ i', i' < i → jAll os i' hs = 0 := fun i' hi' => jAll_zero (hz i' hi')
    have hG : G.1 ≠ 0 := fun h => hE (by rw [← hJ]; exact A.none_ h i)
    obtain ⟨i0, j1, j2, j3⟩ := A.some_ hG
    have j2' : jAll os i0 hs = G.1 := j2
    have : i = i0 := by
      rcases Nat.lt_trichotomy i i0 with h | h | h
      · exact absurd (j3 i h) (by show jAll os i hs ≠ 0; rw [hJ]; exact hE)
      · exact h
      · exact absurd (hJ0 i0 h) (by rw [j2']; exact hG)
    subst this
    exact ⟨by rw [← hJ, j2'], by rw [if_pos hG, j1]⟩
  · have hG : G.1 = 0 := by
      apply Classical.byContradiction
      intro hG
      obtain ⟨i0, j1, j2, j3⟩ := A.some_ hG
      have j2' : jAll os i0 hs = G.1 := j2
      have hs' := A.sup i0 (by show jAll os i0 hs ≠ 0; rw [j2']; exact hG)
      rw [jAll_zero (hz i0 hs'.2)] at j2'
      exact hG j2'.symm
    exact ⟨hG.symm, by rw [if_neg (by simpa using hG)]⟩
theorem Uq.kp {os : Sch} (h : Uq os) (x : Int) : KP (fof os x) := by
  have key : ∀ y, (kdF (fof os x) y).2 = true → (kdF (fof os x) y).1 ≠ 0 ∧ isLw y = true := by
    intro y hy
    by_cases hex : ∃ i, i < os.length ∧ (cat os i).1 = x
    · obtain ⟨i, hi, hc⟩ := hex
      have hf := (fof_hit hi hc (fun j hj h' => by have := h.c j i (by omega) hi (h'.trans hc.symm); omega)).1
      rw [hf] at hy ⊢
      unfold kdF at hy ⊢
      split at hy
      · cases hy
      · rename_i h0
        rw [if_neg h0]
        unfold idxF at h0 ⊢
        cases he : (cat os i).2.findIdx? (fun p => p.1 == y) with
        | none => rw [he] at h0; simp at h0
        | some j =>
          rw [he] at h0
          simp only [Int.toNat_natCast]
          rw [List.findIdx?_eq_some_iff_getElem] at he
          obtain ⟨hj, e1, _⟩ := he
          have hp := h.p i j hi hj
          have hl := h.l i j hi hj
          have e2 : (cat os i).2[j]?.getD (0, 0) = (cat os i).2[j] := by rw [List.getElem?_eq_getElem hj]; rfl
          rw [e2] at hp hl ⊢
          have e3 : (cat os i).2[j].1 = y := by simpa using e1
          rw [e3] at hl
          exact ⟨by omega, hl⟩
    · rw [(fof_no (c := x) fun j hj hc => hex ⟨j, hj, hc⟩).1] at hy
      cases hy
  exact ⟨fun y hy => (key y hy).1, fun y hy => (key y hy).2⟩
end Go.Proofs.YthckelcjncnalaaDoor
