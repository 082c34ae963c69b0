import Derived.Test.YtbgilndohccicabMz37
import Derived.Test.YtbgilndohccicabMz22
import Derived.Test.YtbgilndohccicabMz18
namespace Go.Proofs.Ytbgilndohccicab
open Go.RowKit

/-- Only the letters of the old classes matter. -/
def vsO (os : Sch) : List (Int × SV) := os.map fun c => (c.1, ⟨none, 0, 0⟩)
theorem vsO_ls (os : Sch) : (vsO os).map (·.1) = os.map (·.1) := by simp [vsO, Function.comp_def]
theorem hasC_congr {vs vs' : List (Int × SV)} (h : vs.map (·.1) = vs'.map (·.1)) (x : Int) : hasC vs x = hasC vs' x := by
  have e : ∀ l : List (Int × SV), hasC l x = (l.map (·.1)).any (fun p => p == x) := fun l => by unfold hasC; rw [List.any_map]; rfl
  rw [e, e, h]
theorem srcI_congr {vs vs' : List (Int × SV)} (h : vs.map (·.1) = vs'.map (·.1)) (l fl : Int) : srcI vs l fl = srcI vs' l fl := by
  unfold srcI; rw [hasC_congr h]
theorem stw_congr {vs vs' : List (Int × SV)} (h : vs.map (·.1) = vs'.map (·.1)) : ∀ (cs : List GCd) (ls : List Int), stw vs ls cs = stw vs' ls cs := by
  intro cs
  induction cs with
  | nil => intro ls; rfl
  | cons c r ih => intro ls; rw [stw, stw, srcI_congr h, ih]
theorem fTw_congr {vs vs' : List (Int × SV)} (h : vs.map (·.1) = vs'.map (·.1)) (cs : List GCd) : fTw vs cs = fTw vs' cs := by unfold fTw; rw [stw_congr h]
theorem gFault_congr {vs vs' : List (Int × SV)} (h : vs.map (·.1) = vs'.map (·.1)) (os : Sch) : ∀ cs : List GCd, gFault vs os cs = gFault vs' os cs := by
  intro cs
  induction cs with
  | nil => rfl
  | cons c r ih => rw [gFault, gFault, srcI_congr h, hasC_congr h, ih]
theorem mkOf_congr {vs vs' : List (Int × SV)} (h : vs.map (·.1) = vs'.map (·.1)) (os : Sch) (c : GCd) : mkOf vs os c = mkOf vs' os c := by unfold mkOf; rw [srcI_congr h]
def uR (s : ByteArray) : GCSR := gcLoop upRule upFrom s 6 [] 0
/-- What an update's text comes to: the error, its place, the makings. -/
def uE (os : Sch) (s : ByteArray) : Int := if gdE (uR s) s ≠ 0 then gdE (uR s) s else if fTw (vsO os) (uR s).cs ≠ -1 then 3 else (gFault (vsO os) os (uR s).cs).1
def uP (os : Sch) (s : ByteArray) : Int := if gdE (uR s) s ≠ 0 then gdP (uR s) s else if fTw (vsO os) (uR s).cs ≠ -1 then fTw (vsO os) (uR s).cs else if (gFault (vsO os) os (uR s).cs).1 ≠ 0 then (gFault (vsO os) os (uR s).cs).2 else 0
def uM (os : Sch) (s : ByteArray) : List PM := if uE os s = 0 then (uR s).cs.map (mkOf (vsO os) os) else []
/-- How many there are of each. -/
def FldB (n : Nat) (f : GFd) : Prop := f.ts.length ≤ n
theorem rule_bound (s : ByteArray) (k : Nat) : (upRule s k).ts.length ≤ s.size := by
  unfold upRule
  by_cases h : nextB s k = 61
  · rw [if_pos h]
    have hk : k < s.size := nextB_pos (by omega)
    cases hok : (sumRL s 6 (k + 1) []).ok with
    | true =>
      rw [if_pos rfl]
      have h1 := sumRL_bd s 6 (k + 1) [] hk
      have h2 := (sumRL_grow s 6 (k + 1) []).2
      simp only [List.length_nil] at h2 h1 ⊢
      omega
    | false => rw [if_neg (by decide)]; exact Nat.zero_le _
  · rw [if_neg h]; exact Nat.zero_le _
theorem field_bound (s : ByteArray) (k : Nat) : (gdField upRule s k).f.ts.length ≤ s.size := by
  unfold gdField
  split
  · exact Nat.zero_le _
  · split
    · exact Nat.zero_le _
    · split
      · exact Nat.zero_le _
      · split
        · exact Nat.zero_le _
        · exact rule_bound s _
theorem loop_bound (s : ByteArray) : ∀ n fs k, fs.length + n ≤ 6 → (∀ f ∈ fs, f.ts.length ≤ s.size) → (gdLoop upRule s n fs k).fs.length ≤ 6 ∧ ∀ f ∈ (gdLoop upRule s n fs k).fs, f.ts.length ≤ s.size := by
  intro n
  induction n with
  | zero => intro fs k _ _; rw [gdLoop]; exact ⟨Nat.zero_le _, fun f hf => by simp at hf⟩
  | succ n ih =>
    intro fs k hn hf
    have F := field_bound s k
    have hf' : ∀ f ∈ fs ++ [(gdField upRule s k).f], f.ts.length ≤ s.size := by
      intro f hm
      rcases List.mem_append.1 hm with h | h
      · exact hf f h
      · simp at h; rw [h]; exact F
    rw [gdLoop]
    split
    · exact ⟨Nat.zero_le _, fun f hf => by simp at hf⟩
    · split
      · exact ⟨by simp; omega, hf'⟩
      · split
        · exact ⟨Nat.zero_le _, fun f hf => by simp at hf⟩
        · exact ih _ _ (by simp; omega) hf'
theorem fields_bound (s : ByteArray) (k : Nat) : (gdFields upRule s k).fs.length ≤ 6 ∧ ∀ f ∈ (gdFields upRule s k).fs, f.ts.length ≤ s.size := by
  unfold gdFields
  split
  · exact ⟨Nat.zero_le _, fun f hf => by simp at hf⟩
  · exact loop_bound s 6 [] k (Nat.le_refl _) (fun f hf => by simp at hf)
theorem class_bound (s : ByteArray) (k : Nat) : (gdClass upRule upFrom s k).c.fs.length ≤ 6 ∧ ∀ f ∈ (gdClass upRule upFrom s k).c.fs, f.ts.length ≤ s.size := by
  have z : (zC.fs.length ≤ 6 ∧ ∀ f ∈ zC.fs, f.ts.length ≤ s.size) := ⟨Nat.zero_le _, fun f hf => by simp [zC] at hf⟩
  unfold gdClass
  split
  · exact z
  · split
    · exact z
    · split
      · exact z
      · split
        · exact z
        · exact fields_bound s _
theorem classes_bound (s : ByteArray) : ∀ n cs k, cs.length + n ≤ 6 → (∀ c ∈ cs, c.fs.length ≤ 6 ∧ ∀ f ∈ c.fs, f.ts.length ≤ s.size) → (gcLoop upRule upFrom s n cs k).cs.length ≤ 6 ∧ ∀ c ∈ (gcLoop upRule upFrom s n cs k).cs, c.fs.length ≤ 6 ∧ ∀ f ∈ c.fs, f.ts.length ≤ s.size := by
  intro n
  induction n with
  | zero => intro cs k _ _; rw [gcLoop]; exact ⟨Nat.zero_le _, fun f hf => by simp at hf⟩
  | succ n ih =>
    intro cs k hn hc
    have F := class_bound s k
    have hc' : ∀ c ∈ cs ++ [(gdClass upRule upFrom s k).c], c.fs.length ≤ 6 ∧ ∀ f ∈ c.fs, f.ts.length ≤ s.size := by
      intro c hm
      rcases List.mem_append.1 hm with h | h
      · exact hc c h
      · simp at h; rw [h]; exact F
    rw [gcLoop]
    split
    · exact ⟨Nat.zero_le _, fun f hf => by simp at hf⟩
    · split
      · exact ⟨by simp; omega, hc'⟩
      · exact ih _ _ (by simp; omega) hc'
theorem uR_bound (s : ByteArray) : (uR s).cs.length ≤ 6 ∧ ∀ c ∈ (uR s).cs, c.fs.length ≤ 6 ∧ ∀ f ∈ c.fs, f.ts.length ≤ s.size := classes_bound s 6 [] 0 (Nat.le_refl _) (fun c hc => by simp at hc)
def RUPost (os : Sch) (s : ByteArray) (w : World) (e : Ending) (w' : World) : Prop := ∃ (a : Option Addr) (n c : Nat) (mv : List MV),
  e = .returned (.tuple #[.agg #[.slice a n c], .int .i64 (uE os s), .int .i64 (uP os s)]) ∧ Mks w' w.heap.size (.slice a n c) mv (uM os s) ∧ Below w.heap.size w w'
set_option maxHeartbeats 1000000 in
set_option maxRecDepth 20000 in
theorem uread_any {a : Option Addr} {sn ks : Nat} {vs : List (Int × SV)} {os : Sch} {ob : Nat} {w : World} (s : ByteArray) (hv : Cls w ob (.slice a sn ks) vs os) (hm : s.size ≤ 9223372036854775807) :
    Calls Try.prog 41 #[.agg #[.slice a sn ks], .string s] w (RUPost os s w) := by
  have hls : vs.map (·.1) = (vsO os).map (·.1) := hv.ls.trans (vsO_ls os).symm
  obtain ⟨W, hW⟩ : ∃ W, W = (w.alloc (.cells #[.slice a sn ks] 72)).alloc (.cells #[.slice none 0 0] 82) := ⟨_, rfl⟩
  have B0 : Below w.heap.size w W := by rw [hW]; exact ((Below.refl _ _).alloc (Nat.le_refl _) _).alloc (by simp) _
  have z0 : W.heap.size = w.heap.size + 1 + 1 := by rw [hW]; simp
  have y0 : W.cell? ⟨w.heap.size, 0, none⟩ = some (.slice a sn ks) := by rw [hW]; go_simp
  have y1 : W.cell? ⟨w.heap.size + 1, 0, none⟩ = some (.slice none 0 0) := by rw [hW]; go_simp
  have y2 : W.frozen? ⟨w.heap.size + 1, 0, none⟩ = false := by rw [hW]; go_simp
  have u0 : w.heap.size < W.heap.size := by omega
  have u1 : w.heap.size + 1 < W.heap.size := by omega
  have C1 := readUpdate_any s W hm
  unfold GReadPost at C1
  have hb := uR_bound s
  have hE0 : gdE (uR s) s = 0 → s.size ≤ 200 ∧ gdC (uR s) s = (uR s).cs ∧ gdP (uR s) s = 0 := by
    intro h
    unfold gdE at h
    unfold gdC gdP
    by_cases h1 : 200 < s.size
    · rw [if_pos h1] at h; omega
    · rw [if_neg h1] at h
      by_cases h2 : (uR s).ok = false
      · rw [if_pos h2] at h; omega
      · rw [if_neg h1, if_neg h2, if_neg h1, if_neg h2]; exact ⟨by omega, rfl, rfl⟩
  obtain ⟨E, hE⟩ : ∃ E, uE os s = E := ⟨_, rfl⟩
  obtain ⟨P, hP⟩ : ∃ P, uP os s = P := ⟨_, rfl⟩
  obtain ⟨M, hM⟩ : ∃ M, uM os s = M := ⟨_, rfl⟩
  unfold RUPost
  rw [hE, hP, hM]
  unfold uM at hM
  rw [hE] at hM
  unfold uE at hE
  unfold uP at hP
  rw [← fTw_congr hls, ← gFault_congr hls] at hE hP
  have hmk : (uR s).cs.map (mkOf (vsO os) os) = (uR s).cs.map (mkOf vs os) := List.map_congr_left fun c _ => (mkOf_congr hls os c).symm
  rw [hmk] at hM
  change ∀ _, _ at hE0
  have C1' : Calls Try.prog 67 #[.string s] W fun e w' => ∃ (a : Option Addr) (n c : Nat) (rs : List RCd),
      e = .returned (.tuple #[.slice a n c, .int .i64 (gdE (uR s) s), .int .i64 (gdP (uR s) s)]) ∧ GCs w' W.heap.size (.slice a n c) rs (gdC (uR s) s) ∧ Below W.heap.size W w' := C1
  clear C1 hmk hls
  generalize gdE (uR s) s = e1 at C1' hE0 hE hP
  generalize gdP (uR s) s = p1 at C1' hE0 hP
  generalize gdC (uR s) s = cs1 at C1' hE0
  generalize (uR s).cs = cs at hE0 hE hP hM hb
  have HV : Hid (Cls w ob (.slice a sn ks) vs os) := hv
  by_cases h1 : e1 = 0
  · obtain ⟨hs, rfl, rfl⟩ := hE0 h1
    rw [if_neg (by simpa using h1)] at hE hP
    have q1 : (e1 != 0) = false := by simp [h1]
    have C2 := fun W2 (hW2 : Below w.heap.size w W2) va vn vc rs (V : GCs W2 W.heap.size (.slice va vn vc) rs cs1) => findTwice_any (HV.out.below hW2).cv V
    have C3 := fun W2 (hW2 : Below w.heap.size w W2) va vn vc rs (V : GCs W2 W.heap.size (.slice va vn vc) rs cs1) => findFault_any (HV.out.below hW2) V
    have C4 := fun W2 (hW2 : Below w.heap.size w W2) va vn vc rs (V : GCs W2 W.heap.size (.slice va vn vc) rs cs1) => updateOf_any (HV.out.below hW2) V hb.1 (fun c hc => ⟨(hb.2 c hc).1, fun f hf => Nat.le_trans ((hb.2 c hc).2 f hf) (by omega)⟩)
    unfold FN2 at C3
    unfold UpPost at C4
    generalize fTw vs cs1 = tw at C2 hE hP
    generalize gFault vs os cs1 = gf at C3 hE hP
    obtain ⟨g1, g2⟩ := gf
    simp only [] at C3 hE hP
    generalize cs1.map (mkOf vs os) = ms at C4 hM
    have HE : Hid ((if tw ≠ -1 then 3 else g1) = E) := hE
    have HP : Hid ((if tw ≠ -1 then tw else if g1 ≠ 0 then g2 else 0) = P) := hP
    have HM : Hid ((if E = 0 then ms else []) = M) := hM
    have HC4 := C4
    clear h1 hE0 hE hP hM hv C4 hb hs
    go_enter Try.func41, Try.ntmps41
    go_wp2_with fail
    rw [← hW]
    clear hW
    refine C1'.mono ?_
    rintro e w1 ⟨va, vn, vc, rs, rfl, V1, B1⟩
    have BW1 : Below w.heap.size w w1 := B0.trans (B1.mono B0.size)
    have x0 : w1.cell? ⟨w.heap.size, 0, none⟩ = some (.slice a sn ks) := (B1.cell (p := ⟨w.heap.size, 0, none⟩) u0).trans y0
    have x1 : w1.cell? ⟨w.heap.size + 1, 0, none⟩ = some (.slice none 0 0) := (B1.cell (p := ⟨w.heap.size + 1, 0, none⟩) u1).trans y1
    have x2 : w1.frozen? ⟨w.heap.size + 1, 0, none⟩ = false := (B1.frozen (p := ⟨w.heap.size + 1, 0, none⟩) u1).trans y2
    have z1 : w.heap.size + 1 < w1.heap.size := by have := B1.size; omega
    have z1' : w.heap.size < w1.heap.size := by omega
    have D2 := C2 w1 BW1 va vn vc rs V1
    clear C1' C2 B1
    go_wp2_with fail
    refine D2.mono ?_
    rintro e w2 ⟨rfl, B2⟩
    have BW2 : Below w.heap.size w w2 := BW1.trans (B2.mono BW1.size)
    have V2 := V1.below B2
    have x0a : w2.cell? ⟨w.heap.size, 0, none⟩ = some (.slice a sn ks) := (B2.cell (p := ⟨w.heap.size, 0, none⟩) z1').trans x0
    have x1a : w2.cell? ⟨w.heap.size + 1, 0, none⟩ = some (.slice none 0 0) := (B2.cell (p := ⟨w.heap.size + 1, 0, none⟩) z1).trans x1
    have x2a : w2.frozen? ⟨w.heap.size + 1, 0, none⟩ = false := (B2.frozen (p := ⟨w.heap.size + 1, 0, none⟩) z1).trans x2
    have z2 : w.heap.size + 1 < w2.heap.size := by have := B2.size; omega
    have z2' : w.heap.size < w2.heap.size := by omega
    have D3 := C3 w2 BW2 va vn vc rs V2
    clear D2 C3 B2 V1
    by_cases h2 : tw = -1
    · have q2 : (tw != -1) = false := by simp [h2]
      have HE2 : Hid (g1 = E) := by have := HE.out; rw [if_neg (by simpa using h2)] at this; exact this
      have HP2 : Hid ((if g1 ≠ 0 then g2 else 0) = P) := by have := HP.out; rw [if_neg (by simpa using h2)] at this; exact this
      clear h2
      go_wp2_with fail
      refine D3.mono ?_
      rintro e w3 ⟨rfl, B3⟩
      have BW3 : Below w.heap.size w w3 := BW2.trans (B3.mono BW2.size)
      have V3 := V2.below B3
      have x0b : w3.cell? ⟨w.heap.size, 0, none⟩ = some (.slice a sn ks) := (B3.cell (p := ⟨w.heap.size, 0, none⟩) z2').trans x0a
      have x1b : w3.cell? ⟨w.heap.size + 1, 0, none⟩ = some (.slice none 0 0) := (B3.cell (p := ⟨w.heap.size + 1, 0, none⟩) z2).trans x1a
      have x2b : w3.frozen? ⟨w.heap.size + 1, 0, none⟩ = false := (B3.frozen (p := ⟨w.heap.size + 1, 0, none⟩) z2).trans x2a
      have z3 : w.heap.size + 1 < w3.heap.size := by have := B3.size; omega
      have z3' : w.heap.size < w3.heap.size := by omega
      have D4 := HC4 w3 BW3 va vn vc rs V3
      clear D3 HC4 B3 V2
      by_cases h3 : g1 = 0
      · have q3 : (g1 != 0) = false := by simp [h3]
        have HE3 : Hid (E = 0) := by show E = 0; rw [← HE2.out]; exact h3
        have HP3 : Hid (P = 0) := by have := HP2.out; rw [if_neg (by simpa using h3)] at this; exact this.symm
        have HM3 : Hid (M = ms) := by have := HM.out; rw [if_pos HE3.out] at this; exact this.symm
        clear h3
        go_wp2_with fail
        refine D4.mono ?_
        rintro e w4 ⟨ua, un, uc, mv, rfl, K4, B4⟩
        have BW4 : Below w.heap.size w w4 := BW3.trans (B4.mono BW3.size)
        have x1c : w4.cell? ⟨w.heap.size + 1, 0, none⟩ = some (.slice none 0 0) := (B4.cell (p := ⟨w.heap.size + 1, 0, none⟩) z3).trans x1b
        have x2c : w4.frozen? ⟨w.heap.size + 1, 0, none⟩ = false := (B4.frozen (p := ⟨w.heap.size + 1, 0, none⟩) z3).trans x2b
        have z4 : w.heap.size + 1 < w4.heap.size := by have := B4.size; omega
        clear D4 B4
        go_wp2
        refine bodyPost_ret (v := .tuple #[.agg #[.slice ua un uc], .int .i64 0, .int .i64 0]) (by simp [results, Try.results41, go_sem, x1c]) rfl ⟨_, _, _, mv, by rw [HE3.out, HP3.out], ?_, ?_⟩
        · rw [HM3.out]; exact (K4.kept (gb_set _ (w.heap.size + 1) _ _) (by omega)).mono (by omega)
        · exact BW4.setCell (by show _ ≤ w.heap.size + 1; omega) _
      · have q3 : (g1 != 0) = true := by simp [h3]
        have HP3 : Hid (P = g2) := by have := HP2.out; rw [if_pos h3] at this; exact this.symm
        have HM3 : Hid (M = []) := by have := HM.out; rw [if_neg (by rw [← HE2.out]; exact h3)] at this; exact this.symm
        clear h3 D4
        go_wp2
        refine bodyPost_ret (v := .tuple #[.agg #[.slice none 0 0], .int .i64 g1, .int .i64 g2]) (by simp [results, Try.results41, go_sem, x1b]) rfl ⟨_, _, _, [], by rw [HE2.out, HP3.out], ?_, ?_⟩
        · rw [HM3.out]; exact Mks.nil _ _
        · exact BW3.setCell (by show _ ≤ w.heap.size + 1; omega) _
    · have q2 : (tw != -1) = true := by simp [h2]
      have HE2 : Hid (E = 3) := by have := HE.out; rw [if_pos h2] at this; exact this.symm
      have HP2 : Hid (P = tw) := by have := HP.out; rw [if_pos h2] at this; exact this.symm
      have HM3 : Hid (M = []) := by have := HM.out; rw [if_neg (by rw [HE2.out]; decide)] at this; exact this.symm
      clear h2 D3 HC4
      go_wp2
      refine bodyPost_ret (v := .tuple #[.agg #[.slice none 0 0], .int .i64 3, .int .i64 tw]) (by simp [results, Try.results41, go_sem, x1a]) rfl ⟨_, _, _, [], by rw [HE2.out, HP2.out], ?_, ?_⟩
      · rw [HM3.out]; exact Mks.nil _ _
      · exact BW2.setCell (by show _ ≤ w.heap.size + 1; omega) _
  · rw [if_pos h1] at hE hP
    have q1 : (e1 != 0) = true := by simp [h1]
    have HE : Hid (e1 = E ∧ p1 = P) := ⟨hE, hP⟩
    have HM : Hid (M = []) := by show M = []; rw [← hM, if_neg (by rw [← hE]; exact h1)]
    clear h1 hE0 hE hP hM hv hb
    go_enter Try.func41, Try.ntmps41
    go_wp2_with fail
    rw [← hW]
    clear hW
    refine C1'.mono ?_
    rintro e w1 ⟨va, vn, vc, rs, rfl, V1, B1⟩
    have BW1 : Below w.heap.size w w1 := B0.trans (B1.mono B0.size)
    have x1 : w1.cell? ⟨w.heap.size + 1, 0, none⟩ = some (.slice none 0 0) := (B1.cell (p := ⟨w.heap.size + 1, 0, none⟩) u1).trans y1
    have x2 : w1.frozen? ⟨w.heap.size + 1, 0, none⟩ = false := (B1.frozen (p := ⟨w.heap.size + 1, 0, none⟩) u1).trans y2
    have z1 : w.heap.size + 1 < w1.heap.size := by have := B1.size; omega
    clear C1' B1 V1
    go_wp2
    refine bodyPost_ret (v := .tuple #[.agg #[.slice none 0 0], .int .i64 e1, .int .i64 p1]) (by simp [results, Try.results41, go_sem, x1]) rfl ⟨_, _, _, [], by rw [HE.out.1, HE.out.2], ?_, ?_⟩
    · rw [HM.out]; exact Mks.nil _ _
    · exact BW1.setCell (by show _ ≤ w.heap.size + 1; omega) _

end Go.Proofs.Ytbgilndohccicab
namespace Go.Proofs.Ytbgilndohccicab
open Go.RowKit

theorem addOffQ (g j : Nat) : (⟨g, 0, none⟩ : Addr).add j = ⟨g, j, none⟩ := by unfold Addr.add; split <;> simp_all
theorem Try.infoI64Q : (Try.prog.info? 2).map (fun i => (i.zero, i.size, i.bytes)) = some (some (.int .i64 0), 1, 8) := by kernel_rfl
/-- The pile's row. -/
def SKq (w : World) (base : Nat) (v : Value) (l : List Int) : Prop := w.ownsRow base 2 1 v l.length (l.map fun x => Value.int .i64 x)
theorem SKq.shape {w : World} {base : Nat} {v : Value} {l : List Int} (h : SKq w base v l) : (v = .slice none 0 0 ∧ l = []) ∨ ∃ g cap, v = .slice (some ⟨g, 0, none⟩) l.length cap ∧ base ≤ g ∧ g < w.heap.size ∧ l.length ≤ cap ∧ cap ≤ maxLen ∧ ∀ i x, l[i]? = some x → w.cell? ⟨g, i, none⟩ = some (.int .i64 x) := by
  rcases h.2 with ⟨rfl, hn⟩ | ⟨g, cap, cur, rfl, hbg, hg, h1, h2, _⟩
  · exact .inl ⟨rfl, List.length_eq_zero_iff.1 hn⟩
  · refine .inr ⟨g, cap, rfl, hbg, (Array.getElem?_eq_some_iff.1 hg).1, h1, h2, fun i x hx => ?_⟩
    have c := World.ownsRow.cells h (g := g) rfl i (.int .i64 x) (by rw [List.getElem?_map, hx]; rfl)
    rw [addOffQ] at c; exact c
theorem SKq.pop {w : World} {base g cap : Nat} {l : List Int} {x : Int} (h : SKq w base (.slice (some ⟨g, 0, none⟩) (l.length + 1) cap) (l ++ [x])) : SKq w base (.slice (some ⟨g, 0, none⟩) l.length cap) l := by
  rcases h.2 with ⟨e, _⟩ | ⟨g', cap', cur, e, hbg, hg, h1, h2, h3, h4⟩
  · cases e
  · simp only [Value.slice.injEq, Option.some.injEq, Addr.mk.injEq, and_true, List.length_append, List.length_cons, List.length_nil, Nat.zero_add, true_and] at e
    obtain ⟨rfl, rfl⟩ := e
    simp only [List.length_append, List.length_cons, List.length_nil] at h1
    refine ⟨by simp, .inr ⟨g, cap, cur, rfl, hbg, hg, by omega, h2, h3, ?_⟩⟩
    have e1 : cur.toList.take (l.length * 1) = (cur.toList.take ((l ++ [x]).length * 1)).take (l.length * 1) := by
      rw [List.take_take]; congr 1; simp
    rw [e1, h4, List.map_append, List.take_append_of_le_length (by simp)]
    exact List.take_of_length_le (by simp)
theorem SKq.keep {w w' : World} {base : Nat} {v : Value} {l : List Int} (h : SKq w base v l) (e : ∀ g, v.ownBlock = some g → w'.heap[g]? = w.heap[g]?) : SKq w' base v l := row_keepH h e
/-- The pile in block b. -/
structure PL (w : World) (b base : Nat) (v : Value) (l : List Int) : Prop where
  c : w.cell? ⟨b, 0, none⟩ = some v
  f : w.frozen? ⟨b, 0, none⟩ = false
  r : SKq w base v l
  lt : b < base
  le : base ≤ w.heap.size
theorem PL.below {w w' : World} {b base : Nat} {v : Value} {l : List Int} (h : PL w b base v l) (B : Below w.heap.size w w') : PL w' b base v l := by
  have hb : b < w.heap.size := Nat.lt_of_lt_of_le h.lt h.le
  exact ⟨(B.cell (p := ⟨b, 0, none⟩) hb).trans h.c, (B.frozen (p := ⟨b, 0, none⟩) hb).trans h.f, h.r.keep fun g hg => B.block g (World.ownsRow.lt h.r g hg).2, h.lt, Nat.le_trans h.le B.size⟩
theorem PL.set {w : World} {b base : Nat} {v v' : Value} {l l' : List Int} (h : PL w b base v l) (r : SKq w base v' l') : PL (w.setCell ⟨b, 0, none⟩ v') b base v' l' := by
  have hb : b < w.heap.size := Nat.lt_of_lt_of_le h.lt h.le
  have hc := h.c
  have hf := h.f
  refine ⟨by go_simp, by go_simp, r.keep fun g hg => heap_setCell_other _ _ _ _ ?_, h.lt, by simpa [World.setCell] using h.le⟩
  show g ≠ b
  have := (World.ownsRow.lt r g hg).1
  have := h.lt
  omega
/-- What a push leaves alone. -/
structure PF (b : Nat) (v : Value) (w w' : World) : Prop where
  os : w'.os = w.os
  tape : w'.tape = w.tape
  output : w'.output = w.output
  size : w.heap.size ≤ w'.heap.size
  blk : ∀ k, k < w.heap.size → k ≠ b → v.ownBlock ≠ some k → w'.heap[k]? = w.heap[k]?
theorem PF.below {B b base : Nat} {v : Value} {l : List Int} {w0 w w' : World} (h : PF b v w w') (hP : PL w b base v l) (hB : B ≤ b) (B0 : Below B w0 w) : Below B w0 w' := by
  refine B0.trans ⟨h.os, h.tape, h.output, h.size, fun k hk => h.blk k (by have := hP.lt; have := hP.le; omega) (by omega) (fun e => ?_)⟩
  have := (World.ownsRow.lt hP.r k e).1
  have := hP.lt
  omega
set_option maxRecDepth 20000 in
set_option maxHeartbeats 1000000 in
theorem ppush_any {w : World} {b base : Nat} {v : Value} {l : List Int} (h : PL w b base v l) (hl : l.length ≤ 1000) (x : Int) :
    Calls Try.prog 88 #[.pointer (some ⟨b, 0, none⟩), .int .i64 x] w fun e w' => e = .returned (.tuple #[]) ∧ ∃ v', PL w' b base v' (l ++ [x]) ∧ PF b v w w' := by
  obtain ⟨iI, hiI, hzI0, hzI1, hzI2⟩ := infoPartsH Try.infoI64Q
  have HH : Hid (PL w b base v l) := h
  have hb : b < w.heap.size := Nat.lt_of_lt_of_le h.lt h.le
  have hc := h.c
  have hf := h.f
  have hle := h.le
  have hlt := h.lt
  have hr := h.r
  unfold SKq at hr
  obtain ⟨n, hn⟩ : ∃ n, n = l.length := ⟨_, rfl⟩
  have HN : Hid (n = l.length) := hn
  rw [← hn] at hr hl
  obtain ⟨va, vc, hv⟩ : ∃ a c, v = .slice a n c := by
    rcases hr.2 with ⟨e, e0⟩ | ⟨g', cap', cur, e, _⟩
    · exact ⟨none, 0, by rw [e, e0]⟩
    · exact ⟨_, _, e⟩
  subst hv
  clear h hn
  go_enter Try.func88, Try.ntmps88
  go_wp2_with (at_builtin; refine wpList_append_own _ rfl _ _ 168 rfl base 2 iI (.int .i64 0) 1 8 Try.underlying168 hiI hzI0 hzI1 hzI2 rfl (by decide) _ n (l.map fun x => Value.int .i64 x) rfl (hr.alloc _) ⟨w.heap.size, 0, none⟩ 1 1 [.int .i64 x] rfl rfl ?c1 ?c2 ?c3 ?c4 ?c5 ?_)
  case c1 =>
    intro j u hj
    match j, hj with
    | 0, hj => simp at hj; subst hj; simp [Addr.add]
  case c2 => intro u hu; simp at hu; subst hu; rfl
  case c3 => unfold maxLen; omega
  case c4 => omega
  case c5 => simp; omega
  intro v' w2 hown hgr _
  obtain ⟨va', vc', hv'⟩ : ∃ a c, v' = .slice a (n + 1) c := by
    rcases hown.2 with ⟨_, e0⟩ | ⟨g', cap', cur, e, _⟩
    · simp at e0
    · exact ⟨_, _, e⟩
  subst hv'
  have hg2 : w.grownBy w2 (Value.ownBlock (.slice va n vc)) := gb_trans (World.grownBy_alloc _ _ _) hgr
  have hnb : some b ≠ Value.ownBlock (.slice va n vc) := fun e => by have := (World.ownsRow.lt hr b e.symm).1; omega
  have eb := hg2.block b hb hnb
  have c2 : w2.cell? ⟨b, 0, none⟩ = some (.slice va n vc) := (World.cell?_of_block (a := ⟨b, 0, none⟩) eb).trans hc
  have f2 : w2.frozen? ⟨b, 0, none⟩ = false := (World.frozen?_of_block (a := ⟨b, 0, none⟩) eb).trans hf
  have hb2 : b < w2.heap.size := Nat.lt_of_lt_of_le hb hg2.size
  have HP2 : Hid (PL (w2.setCell ⟨b, 0, none⟩ (.slice va' (n + 1) vc')) b base (.slice va' (n + 1) vc') (l ++ [x])) := by
    have hb' := hb2
    refine ⟨by go_simp, by go_simp, ?_, hlt, by have := hg2.size; simp [World.setCell]; omega⟩
    have r : SKq w2 base (.slice va' (n + 1) vc') (l ++ [x]) := by unfold SKq; rw [List.length_append, ← HN.out, List.map_append]; exact hown
    exact r.keep fun g hg => heap_setCell_other _ _ _ _ (by show g ≠ b; have := (World.ownsRow.lt r g hg).1; omega)
  have HF : Hid (PF b (.slice va n vc) w (w2.setCell ⟨b, 0, none⟩ (.slice va' (n + 1) vc'))) := ⟨hg2.os, hg2.tape, hg2.output, Nat.le_trans hg2.size (gb_set w2 b 0 (.slice va' (n + 1) vc')).size, fun k hk hkb hkv => ((gb_set w2 b 0 (.slice va' (n + 1) vc')).block k (Nat.lt_of_lt_of_le hk hg2.size) (by simpa using hkb)).trans (hg2.block k hk (fun e => hkv e.symm))⟩
  clear hown hgr hg2 hr HH eb hnb
  go_wp2
  refine bodyPost_end (v := .tuple #[]) (by simp [results, Try.results88, go_sem]) rfl ⟨rfl, _, HP2.out, HF.out⟩
set_option maxRecDepth 20000 in
set_option maxHeartbeats 1000000 in
theorem ppop_any {w : World} {b base : Nat} {v : Value} {l : List Int} (h : PL w b base v l) (hl : l.length ≤ 1000) :
    Calls Try.prog 86 #[.pointer (some ⟨b, 0, none⟩)] w fun e w' => e = .returned (.int .i64 (top l)) ∧ (∃ v', PL w' b base v' l.dropLast) ∧ w.grownBy w' (some b) := by
  have HH : Hid (PL w b base v l) := h
  have hb : b < w.heap.size := Nat.lt_of_lt_of_le h.lt h.le
  have hc := h.c
  have hf := h.f
  rcases h.r.shape with ⟨rfl, rfl⟩ | ⟨g, cap, rfl, hbg, hg, hlc, hcm, hcell⟩
  · clear h
    go_enter Try.func86, Try.ntmps86
    go_wp2
    go_ret
    exact ⟨rfl, ⟨_, HH.out⟩, World.grownBy.refl _ _⟩
  · rcases List.eq_nil_or_concat l with hl0 | ⟨l', x, hl'⟩
    · subst hl0
      simp only [List.length_nil] at hc hlc
      clear h hcell
      go_enter Try.func86, Try.ntmps86
      go_wp2
      go_ret
      exact ⟨rfl, ⟨_, HH.out⟩, World.grownBy.refl _ _⟩
    · rw [List.concat_eq_append] at hl'
      subst hl'
      obtain ⟨q, hq⟩ : ∃ q, q = l'.length := ⟨_, rfl⟩
      have hlen : (l' ++ [x]).length = q + 1 := by rw [hq]; simp
      have cx : w.cell? ⟨g, q, none⟩ = some (.int .i64 x) := hcell q x (by rw [hq]; simp)
      have r' : SKq w base (.slice (some ⟨g, 0, none⟩) q cap) l' := by
        have := h.r; rw [hlen, hq] at this; rw [hq]; exact SKq.pop this
      have HP : Hid (PL (w.setCell ⟨b, 0, none⟩ (.slice (some ⟨g, 0, none⟩) q cap)) b base (.slice (some ⟨g, 0, none⟩) q cap) l') := h.set r'
      rw [hlen] at hc hlc hl
      have et : top (l' ++ [x]) = x := by unfold top; simp
      have ed : (l' ++ [x]).dropLast = l' := List.dropLast_concat ..
      rw [et, ed]
      clear h hcell hq hlen r' et ed
      go_enter Try.func86, Try.ntmps86
      go_wp2
      go_ret
      exact ⟨rfl, ⟨_, HP.out⟩, gb_set _ _ _ _⟩
set_option maxHeartbeats 400000 in
theorem join_any (a s b : Int) (w : World) : Calls Try.prog 87 #[.int .i64 a, .int .u8 s, .int .i64 b] w fun e w' => e = .returned (.int .i64 (joinI a s b)) ∧ w' = w := by
  unfold joinI
  by_cases h1 : s = 43
  · subst h1
    rw [if_pos rfl]
    go_enter Try.func87, Try.ntmps87
    go_wp2
    go_ret
    exact ⟨rfl, rfl⟩
  · have e1 : (s == 43) = false := by simp [h1]
    rw [if_neg h1]
    by_cases h2 : s = 45
    · subst h2
      rw [if_pos rfl]
      clear e1 h1
      go_enter Try.func87, Try.ntmps87
      go_wp2
      go_ret
      exact ⟨rfl, rfl⟩
    · have e2 : (s == 45) = false := by simp [h2]
      rw [if_neg h2]
      clear h1 h2
      go_enter Try.func87, Try.ntmps87
      go_wp2
      go_ret
      exact ⟨rfl, rfl⟩
end Go.Proofs.Ytbgilndohccicab
