import Derived.Test.YthckelcjncnalabKz42
namespace Go.Proofs.Ythckelcjncnalab
open Go.RowKit

set_option maxHeartbeats 400000 in
theorem wrapF_any (k v : Int) (w : World) :
    Calls Try.prog 30 #[.int .u8 k, .int .i64 v] w fun e w' => e = .returned (.int .i64 (wrK k v)) ∧ w' = w := by
  by_cases k1 : k = 98
  · have e : wrK k v = v % 256 := by unfold wrK; rw [if_pos k1]
    rw [e]; subst k1; clear e
    go_enter Try.func30, Try.ntmps30
    go_wp2
    go_ret
    exact ⟨rfl, rfl⟩
  by_cases k2 : k = 104
  · have e : wrK k v = (v + 32768) % 65536 - 32768 := by unfold wrK; rw [if_neg k1, if_pos k2]
    rw [e]; subst k2; clear e k1
    go_enter Try.func30, Try.ntmps30
    go_wp2
    go_ret
    exact ⟨ret_i64 (by rw [wrap_i16]; unfold wrap64; omega), rfl⟩
  by_cases k3 : k = 119
  · have e : wrK k v = (v + 2147483648) % 4294967296 - 2147483648 := by unfold wrK; rw [if_neg k1, if_neg k2, if_pos k3]
    rw [e]; subst k3; clear e k1 k2
    go_enter Try.func30, Try.ntmps30
    go_wp2
    go_ret
    exact ⟨ret_i64 (by unfold wrap64 wrap32; omega), rfl⟩
  · have e : wrK k v = v := by unfold wrK; rw [if_neg k1, if_neg k2, if_neg k3]
    have q1 : (k == 98) = false := by simpa using k1
    have q2 : (k == 104) = false := by simpa using k2
    have q3 : (k == 119) = false := by simpa using k3
    rw [e]; clear e
    go_enter Try.func30, Try.ntmps30
    go_wp2
    go_ret
    exact ⟨rfl, rfl⟩
/-- What a field becomes. -/
def kdM (m : PM) (x : Int) : Int := (m.fs[(idxF m.fs x).toNat]?.getD (0, 0)).2
def rlM (m : PM) (x : Int) : PR := m.rs[(idxF m.fs x).toNat]?.getD ⟨[], false⟩
def vlM (m : PM) (N : Nat → Int) (x : Int) : Int := top (evP N (rlM m x).ts [])
def numOf (m : PM) (N : Nat → Int) (x : Int) : Int × Int :=
  if idxF m.fs x < 0 then (0, 5) else if kdM m x = 114 then (0, 6)
  else if (rlM m x).ex = true ∧ wrK (kdM m x) (vlM m N x) ≠ vlM m N x then (0, 15) else (wrK (kdM m x) (vlM m N x), 0)
theorem TPb.drew {w : World} {base : Nat} {v : Value} {ts : List PT} (h : TPb w base v ts) : TPb w.drew base v ts := h
theorem Rls.cells {w : World} {base : Nat} {v : Value} {us : List (SV × Bool)} {rs : List PR} (h : Rls w base v us rs) {j : Nat} (hj : j < rs.length) :
    ∃ (g cap : Nat) (u : SV) (r : PR), v = .slice (some ⟨g, 0, none⟩) rs.length cap ∧ g < w.heap.size ∧ rs[j]? = some r ∧ w.cell? ⟨g, j * 2, none⟩ = some (.slice u.a u.n u.c) ∧ w.cell? ⟨g, j * 2 + 1, none⟩ = some (.bool r.ex) ∧ TPb w base u.val r.ts := by
  have h' := h.row
  unfold flatRl at h'
  have hl := h.len
  rcases h.row.2 with ⟨rfl, hn⟩ | ⟨g, cap, cur, rfl, _, hg, h1, h2, _⟩
  · omega
  · have hu : us[j]? = some (us[j]'(by omega)) := List.getElem?_eq_getElem (by omega)
    have hr : rs[j]? = some (rs[j]'hj) := List.getElem?_eq_getElem hj
    obtain ⟨e1, e2⟩ := h.el j _ _ hu hr
    refine ⟨g, cap, _, _, by rw [hl], (World.ownsRow.lt h' g rfl).2, hr, by simpa using row_cell h' (fun _ => rfl) (j := 0) hu rfl, ?_, e2⟩
    rw [← e1]; exact row_cell h' (fun _ => rfl) (j := 1) hu rfl
set_option maxHeartbeats 2000000 in
set_option maxRecDepth 20000 in
theorem number_m {p : MV} {m : PM} {us : List (SV × Bool)} {base : Nat} {w : World} (hF : FV w p.f.val m.fs) (hR : Rls w base p.r.val us m.rs) (hlen : m.rs.length = m.fs.length) (hts : ∀ r ∈ m.rs, r.ts.length ≤ 900) (N : Nat → Int) (x : Int) :
    Calls Try.prog 34 #[mvV p, .int .u8 x, numV N] w fun e w' => e = .returned (.tuple #[.int .i64 (numOf m N x).1, .int .i64 (numOf m N x).2]) ∧ Below w.heap.size w w' := by
  obtain ⟨pl, ⟨fa, fn, fc⟩, ps, ⟨ra, rn, rc⟩⟩ := p
  simp only [SV.val] at hF hR
  obtain ⟨ix, hix⟩ : ∃ ix, idxF m.fs x = ix := ⟨_, rfl⟩
  obtain ⟨A, hA⟩ : ∃ A, numOf m N x = A := ⟨_, rfl⟩
  rw [hA]
  have CR := fun (W : World) (ex : Bool) (u : SV) (r : PR) (hr : r ∈ m.rs) (h : TPb W base u.val r.ts) => reckon_any ex N h (hts r hr)
  unfold numV at CR ⊢
  unfold mvV
  simp only []
  obtain ⟨W, hW⟩ : ∃ W, W = (w.alloc (.cells #[.int .u8 pl, .slice fa fn fc, .int .u8 ps, .slice ra rn rc] 89)).alloc (.cells #[.int .i64 (N 0), .int .i64 (N 1), .int .i64 (N 2), .int .i64 (N 3), .int .i64 (N 4), .int .i64 (N 5)] 56) := ⟨_, rfl⟩
  have B0 : Below w.heap.size w W := by rw [hW]; exact ((Below.refl _ _).alloc (Nat.le_refl _) _).alloc (by simp) _
  have z0 : W.heap.size = w.heap.size + 1 + 1 := by rw [hW]; simp
  have y0 : W.cell? ⟨w.heap.size, 0, none⟩ = some (.int .u8 pl) := by rw [hW]; go_simp
  have y1 : W.cell? ⟨w.heap.size, 1, none⟩ = some (.slice fa fn fc) := by rw [hW]; go_simp
  have y3 : W.cell? ⟨w.heap.size, 3, none⟩ = some (.slice ra rn rc) := by rw [hW]; go_simp
  have n0 : W.cell? ⟨w.heap.size + 1, 0, none⟩ = some (.int .i64 (N 0)) := by rw [hW]; go_simp
  have n1 : W.cell? ⟨w.heap.size + 1, 1, none⟩ = some (.int .i64 (N 1)) := by rw [hW]; go_simp
  have n2 : W.cell? ⟨w.heap.size + 1, 2, none⟩ = some (.int .i64 (N 2)) := by rw [hW]; go_simp
  have n3 : W.cell? ⟨w.heap.size + 1, 3, none⟩ = some (.int .i64 (N 3)) := by rw [hW]; go_simp
  have n4 : W.cell? ⟨w.heap.size + 1, 4, none⟩ = some (.int .i64 (N 4)) := by rw [hW]; go_simp
  have n5 : W.cell? ⟨w.heap.size + 1, 5, none⟩ = some (.int .i64 (N 5)) := by rw [hW]; go_simp
  have u0 : w.heap.size < W.heap.size := by omega
  have u1 : w.heap.size + 1 < W.heap.size := by omega
  have CI := index_rs (L := pl) (x := x) (hF.below B0) ix hix
  by_cases h0 : ix < 0
  · have HA : Hid (A = (0, 5)) := by show A = _; rw [← hA]; unfold numOf; rw [hix, if_pos h0]
    clear hA CR hF hR hix
    go_enter Try.func34, Try.ntmps34
    go_wp2_with fail
    rw [← hW]
    clear hW
    go_wp2_with fail
    refine CI.mono ?_
    rintro e w1 ⟨rfl, B1⟩
    clear CI
    go_wp2
    go_ret2
    rw [HA.out]
    exact ⟨rfl, B0.trans (B1.mono B0.size)⟩
  · have hlt := idxF_ltU m.fs x
    rw [hix] at hlt
    obtain ⟨j, rfl⟩ := Int.eq_ofNat_of_zero_le (by omega : 0 ≤ ix)
    have hj : j < m.fs.length := by omega
    obtain ⟨g, cap, hgf, hg, hm, hcc⟩ : ∃ g cap, Value.slice fa fn fc = .slice (some ⟨g, 0, none⟩) m.fs.length cap ∧ g < w.heap.size ∧ m.fs.length ≤ maxLen ∧ (∀ i, i < m.fs.length → w.cell? ⟨g, i * 2, none⟩ = some (.int .u8 (m.fs[i]?.getD (0, 0)).1) ∧ w.cell? ⟨g, i * 2 + 1, none⟩ = some (.int .u8 (m.fs[i]?.getD (0, 0)).2)) := by
      rcases hF.shape with ⟨_, h⟩ | h
      · rw [h] at hj; simp at hj
      · exact h
    obtain ⟨gr, rcap, u, r, hgr, hgr2, hr, k0, k1, T0⟩ := hR.cells (j := j) (by omega)
    have hkd := (hcc j hj).2
    obtain ⟨kd, hkd0⟩ : ∃ kd, (m.fs[j]?.getD (0, 0)).2 = kd := ⟨_, rfl⟩
    rw [hkd0] at hkd
    simp only [Value.slice.injEq] at hgf hgr
    obtain ⟨rfl, rfl, rfl⟩ := hgf
    obtain ⟨rfl, rfl, rfl⟩ := hgr
    have ek : kdM m x = kd := by unfold kdM; rw [hix]; exact hkd0
    have er : rlM m x = r := by unfold rlM; rw [hix]; show m.rs[j]?.getD _ = _; rw [hr]; rfl
    obtain ⟨v, hv⟩ : ∃ v, vlM m N x = v := ⟨_, rfl⟩
    have hv' : top (evP N r.ts []) = v := by rw [← hv]; unfold vlM; rw [er]
    have hA' : (if kd = 114 then (0, 6) else if r.ex = true ∧ wrK kd v ≠ v then (0, 15) else (wrK kd v, 0)) = A := by
      rw [← hA]; unfold numOf; rw [hix, if_neg h0, ek, er, hv]
    have hmem : r ∈ m.rs := List.mem_of_getElem? hr
    have CR' := fun (W : World) (h : TPb W base u.val r.ts) => CR W r.ex u r hmem h
    rw [hv'] at CR'
    have hlen' : m.rs.length = m.fs.length := hlen
    obtain ⟨n, hn⟩ : ∃ n, m.fs.length = n := ⟨_, rfl⟩
    rw [hlen'] at y3 hW ⊢
    rw [hn] at y1 y3 hW CI hj hm ⊢
    have hmx : n ≤ 9223372036854775807 := by unfold maxLen at hm; omega
    have HT0 : Hid (TPb w base u.val r.ts) := T0
    obtain ⟨ua, un, uc⟩ := u
    simp only [SV.val] at k0 CR'
    have HT : Hid (TPb w base (.slice ua un uc) r.ts) := HT0
    obtain ⟨ex, hex⟩ : ∃ ex, r.ex = ex := ⟨_, rfl⟩
    obtain ⟨ts, hts0⟩ : ∃ ts, r.ts = ts := ⟨_, rfl⟩
    rw [hex] at k1 hA' CR'
    rw [hts0] at CR' HT
    have HA' : Hid ((if kd = 114 then (0, 6) else if ex = true ∧ wrK kd v ≠ v then (0, 15) else (wrK kd v, 0)) = A) := hA'
    clear hA hA' hv hv' ek er hr hmem CR hts hF hR hcc hkd0 hix hlt T0 HT0 hex hts0 hlen hlen' hn hm
    have hjn : (j : Int) < (n : Int) := by omega
    go_enter Try.func34, Try.ntmps34
    go_wp2_with fail
    rw [← hW]
    clear hW
    go_wp2_with fail
    refine CI.mono ?_
    rintro e w1 ⟨rfl, B1⟩
    clear CI
    have BW1 : Below w.heap.size w w1 := B0.trans (B1.mono B0.size)
    have s1 := B1.size
    have a1 := (B1.cell (p := ⟨w.heap.size, 1, none⟩) u0).trans y1
    have a3 := (B1.cell (p := ⟨w.heap.size, 3, none⟩) u0).trans y3
    have m0 := (B1.cell (p := ⟨w.heap.size + 1, 0, none⟩) u1).trans n0
    have m1 := (B1.cell (p := ⟨w.heap.size + 1, 1, none⟩) u1).trans n1
    have m2 := (B1.cell (p := ⟨w.heap.size + 1, 2, none⟩) u1).trans n2
    have m3 := (B1.cell (p := ⟨w.heap.size + 1, 3, none⟩) u1).trans n3
    have m4 := (B1.cell (p := ⟨w.heap.size + 1, 4, none⟩) u1).trans n4
    have m5 := (B1.cell (p := ⟨w.heap.size + 1, 5, none⟩) u1).trans n5
    have f1 := (BW1.cell (p := ⟨g, j * 2 + 1, none⟩) hg).trans hkd
    have r0 := (BW1.cell (p := ⟨gr, j * 2, none⟩) hgr2).trans k0
    have r1 := (BW1.cell (p := ⟨gr, j * 2 + 1, none⟩) hgr2).trans k1
    have t0 : w.heap.size < w1.heap.size := by omega
    have t1 : w.heap.size + 1 < w1.heap.size := by omega
    have t2 : g < w1.heap.size := by omega
    have t3 : gr < w1.heap.size := by omega
    clear y0 y1 y3 n0 n1 n2 n3 n4 n5 hkd k0 k1
    by_cases h114 : kd = 114
    · have HA : Hid (A = (0, 6)) := by show A = _; rw [← HA'.out, if_pos h114]
      subst h114
      clear CR'
      go_wp2
      go_ret2
      rw [HA.out]
      exact ⟨rfl, BW1⟩
    · have HA : Hid ((if ex = true ∧ wrK kd v ≠ v then (0, 15) else (wrK kd v, 0)) = A) := by show _ = A; rw [← HA'.out, if_neg h114]
      have e114 : (kd == 114) = false := by simp [h114]
      have C := CR' w1.drew (TPb.drew (World.ownsRow.kept HT.out (gb_below (BW1.mono (Nat.le_refl _)) none) (by cases hv : (Value.slice ua un uc).ownBlock <;> simp)))
      clear h114 CR' HA'
      go_wp2
      go_region_with (go_at_call 49; refine C.mono ?_; rintro e w2 ⟨rfl, B2⟩)
      all_goals
        have B3 : Below w1.heap.size w1 w2 := (Below.refl _ w1).drew.trans B2
        have BW3 : Below w.heap.size w w2 := BW1.trans (B3.mono BW1.size)
        have s3 := B3.size
        have b3 := (B3.cell (p := ⟨w.heap.size, 3, none⟩) t0).trans a3
        have q1 := (B3.cell (p := ⟨gr, j * 2 + 1, none⟩) t3).trans r1
        have t4 : w.heap.size < w2.heap.size := by omega
        have t5 : gr < w2.heap.size := by omega
        have CW := wrapF_any kd v w2
        obtain ⟨wv, hwv⟩ : ∃ wv, wrK kd v = wv := ⟨_, rfl⟩
        rw [hwv] at CW HA
        clear C B2 B3 a1 a3 m0 m1 m2 m3 m4 m5 f1 r0 r1
        go_wp2_with fail
        refine CW.mono ?_
        rintro e w2' ⟨rfl, rfl⟩
        clear CW
        cases ex with
        | false =>
          have HA2 : Hid ((wv, 0) = A) := by have := HA.out; rw [if_neg (by simp)] at this; exact this
          go_wp2
          go_ret2
          rw [← HA2.out]
          exact ⟨rfl, BW3⟩
        | true =>
          by_cases hne : wv = v
          · have HA2 : Hid ((wv, 0) = A) := by have := HA.out; rw [if_neg (by simp [hne])] at this; exact this
            have e1 : (wv != v) = false := by simp [hne]
            clear hne
            go_wp2
            go_ret2
            rw [← HA2.out]
            exact ⟨rfl, BW3⟩
          · have HA2 : Hid ((0, 15) = A) := by have := HA.out; rw [if_pos ⟨rfl, hne⟩] at this; exact this
            have e1 : (wv != v) = true := by simp [hne]
            clear hne
            go_wp2
            go_ret2
            rw [← HA2.out]
            exact ⟨rfl, BW3⟩
end Go.Proofs.Ythckelcjncnalab
