import Derived.Test.YtbgilndohccicabMz40
import Derived.Deep.CutRange
namespace Go.Proofs.Ytbgilndohccicab
open Go.RowKit

/-- What Peek tells. -/
def pkI (p : PH) (ms : List PM) (root x : Int) : Int × Int :=
  if p.N 201 0 = 0 then (0, 12) else if (heldI p.R root).2 ≠ 0 then (0, (heldI p.R root).2)
  else match findPM ms (p.K (heldI p.R root).1) with
    | none => (0, 4)
    | some m => numOf m (p.N (heldI p.R root).1) x
/-- The makings of a right update. -/
structure MOK (ms : List PM) : Prop where
  len : ∀ m ∈ ms, m.rs.length = m.fs.length
  ts : ∀ m ∈ ms, ∀ r ∈ m.rs, r.ts.length ≤ 900
theorem findPM_mem {ms : List PM} {x : Int} {m : PM} (h : findPM ms x = some m) : m ∈ ms := by
  unfold findPM at h
  split at h
  · cases h
  · exact List.mem_of_find?_eq_some h
theorem FVb.fv' {w : World} {base : Nat} {v : Value} {fs : List (Int × Int)} (h : FVb w base v fs) : FV w v fs := row_mono h (Nat.zero_le _)
theorem Mks.drew {w : World} {base : Nat} {v : Value} {vs : List MV} {ms : List PM} (h : Mks w base v vs ms) : Mks w.drew base v vs ms := h.below (Below.refl _ _).drew
theorem Mks.alloc {w : World} {base : Nat} {v : Value} {vs : List MV} {ms : List PM} (h : Mks w base v vs ms) (o : Obj) : Mks (w.alloc o) base v vs ms := h.below ((Below.refl _ _).alloc (Nat.le_refl _) _)
/-- A making in a block of its own. -/
structure MB (w : World) (b : Nat) (x y z t : Value) : Prop where
  c0 : w.cell? ⟨b, 0, none⟩ = some x
  c1 : w.cell? ⟨b, 1, none⟩ = some y
  c2 : w.cell? ⟨b, 2, none⟩ = some z
  c3 : w.cell? ⟨b, 3, none⟩ = some t
  lt : b < w.heap.size
theorem MB.new (w : World) (x y z t : Value) (T : TypeId) : MB (w.alloc (.cells #[x, y, z, t] T)) w.heap.size x y z t := ⟨by go_simp, by go_simp, by go_simp, by go_simp, by simp⟩
theorem MB.set {w : World} {b : Nat} {x0 y0 z0 t0 : Value} (x y z t : Value) (q0 : w.cell? ⟨b, 0, none⟩ = some x0) (q1 : w.cell? ⟨b, 1, none⟩ = some y0) (q2 : w.cell? ⟨b, 2, none⟩ = some z0) (q3 : w.cell? ⟨b, 3, none⟩ = some t0) :
    MB ((((w.setCell ⟨b, 0, none⟩ x).setCell ⟨b, 1, none⟩ y).setCell ⟨b, 2, none⟩ z).setCell ⟨b, 3, none⟩ t) b x y z t := by
  have hb : b < w.heap.size := World.block_lt_of_cell? w ⟨b, 0, none⟩ q0
  exact ⟨by go_simp, by go_simp, by go_simp, by go_simp, by simpa [World.setCell] using hb⟩
set_option maxHeartbeats 4000000 in
set_option maxRecDepth 20000 in
theorem peek_any (hb : Nat) (sv : SV) (sz : Int) (p : PH) (w : World) (h : HP w hb sv sz p.R p.K p.N p.F) (hR : ∀ i, i < 8 → p.R i < 201) {base : Nat} {vs : List MV} {ms : List PM} (hU : p.N 201 0 ≠ 0 → Mks w base (updV p.N) vs ms ∧ MOK ms) (root x : Int) :
    Calls Try.prog 17 #[.pointer (some ⟨hb, 0, none⟩), .int .i64 root, .int .u8 x] w fun e w' => e = .returned (.tuple #[.int .i64 (pkI p ms root x).1, .int .i64 (pkI p ms root x).2]) ∧ Below w.heap.size w w' := by
  have hbl := h.lt
  obtain ⟨A, hA⟩ : ∃ A, pkI p ms root x = A := ⟨_, rfl⟩
  rw [hA]
  unfold pkI at hA
  have cp := h.pend
  by_cases h0 : p.N 201 0 = 0
  · have HA : Hid (A = (0, 12)) := by show A = _; rw [← hA, if_pos h0]
    rw [decide_eq_false (by simpa using h0)] at cp
    clear hA hU h0
    go_enter Try.func17, Try.ntmps17
    go_wp2
    go_ret2
    rw [HA.out]
    exact ⟨rfl, Below.refl _ _⟩
  · rw [decide_eq_true h0] at cp
    rw [if_neg h0] at hA
    obtain ⟨U, OK⟩ := hU h0
    have CH := held_any hb sv sz p.R p.K p.N p.F w h root
    obtain ⟨n, e0, hh⟩ : ∃ n e0, heldI p.R root = (n, e0) := ⟨_, _, rfl⟩
    rw [hh] at CH hA
    simp only [] at CH hA
    by_cases he : e0 = 0
    · have hn : n < 201 := by
        unfold heldI at hh
        split at hh
        · injection hh with h1 h2; omega
        · split at hh
          · injection hh with h1 h2; omega
          · rename_i q1 q2
            injection hh with h1 h2
            rw [← h1]
            exact hR _ (by
              cases hq : rtB root with
              | false => exact absurd hq q1
              | true => obtain ⟨r, rfl, hr⟩ := rtB_nat hq; simpa using hr)
      subst he
      rw [if_neg (by decide)] at hA
      have cu := h.upd
      have ck := h.cls n hn
      have m0 := h.num n 0 hn (by omega)
      have m1 := h.num n 1 hn (by omega)
      have m2 := h.num n 2 hn (by omega)
      have m3 := h.num n 3 hn (by omega)
      have m4 := h.num n 4 hn (by omega)
      have m5 := h.num n 5 hn (by omega)
      have hi : (0 : Int) ≤ (n : Int) ∧ (n : Int) < 201 := by omega
      obtain ⟨ua, un, uc, hu⟩ : ∃ a n c, updV p.N = .slice a n c := ⟨_, _, _, rfl⟩
      rw [hu] at cu U
      obtain ⟨K, hK⟩ : ∃ K, p.K n = K := ⟨_, rfl⟩
      rw [hK] at ck hA
      have CF := fun (W : World) (hW : Mks W base (.slice ua un uc) vs ms) => ufind_any hW K
      obtain ⟨q, hq⟩ : ∃ q, (findMV vs K).getD zMV = q := ⟨_, rfl⟩
      obtain ⟨y, hy⟩ : ∃ y, (findMV vs K).isSome = y := ⟨_, rfl⟩
      rw [hq, hy] at CF
      have HQ0 : Hid (y = false → A = (0, 4)) := by
        intro hy0
        rcases U.find K with ⟨f1, f2⟩ | ⟨p', m, f1, f2, f3, f4, us, f5⟩
        · rw [f2] at hA; exact hA.symm
        · rw [f1] at hy; rw [← hy] at hy0; simp at hy0
      have HQ1 : Hid (y = true → ∃ m us, A = numOf m (p.N n) x ∧ FV w q.f.val m.fs ∧ Rls w base q.r.val us m.rs ∧ m ∈ ms) := by
        intro hy0
        rcases U.find K with ⟨f1, f2⟩ | ⟨p', m, f1, f2, f3, f4, us, f5⟩
        · rw [f1] at hy; rw [← hy] at hy0; simp at hy0
        · rw [f1] at hq; rw [f2] at hA
          have : p' = q := hq
          subst this
          exact ⟨m, us, hA.symm, FVb.fv' f4, f5, findPM_mem f2⟩
      have CN := fun (W : World) (m : PM) (us : List (SV × Bool)) (h1 : FV W q.f.val m.fs) (h2 : Rls W base q.r.val us m.rs) (h3 : m ∈ ms) => number_m h1 h2 (OK.len m h3) (OK.ts m h3) (p.N n) x
      clear hA hq hy hu OK hh hK h hU h0 hR
      obtain ⟨ql, ⟨fa, fn, fc⟩, qs, ⟨ra, rn, rc⟩⟩ := q
      unfold mvV at CF CN
      unfold numV at CN
      simp only [] at CF CN
      generalize p.N n 0 = N0 at m0 CN
      generalize p.N n 1 = N1 at m1 CN
      generalize p.N n 2 = N2 at m2 CN
      generalize p.N n 3 = N3 at m3 CN
      generalize p.N n 4 = N4 at m4 CN
      generalize p.N n 5 = N5 at m5 CN
      have HCN := CN
      go_enter Try.func17, Try.ntmps17
      go_wp2_with fail
      refine CH.mono ?_
      rintro e wq ⟨rfl, rfl⟩
      clear CH CN
      go_upto_region 6 with fail
      go_cut [10, 11] from 26 to 40 (fun s10 s11 wx => ∃ bm, s10 = .pointer (some ⟨bm, 0, none⟩) ∧ s11 = .bool y ∧ MB wx bm (.int .u8 ql) (.slice fa fn fc) (.int .u8 qs) (.slice ra rn rc) ∧ Below wq.heap.size wq wx)
      case first =>
       go_region_with (go_at_call 43; refine (CF _ (by with_reducible repeat first | exact U | apply Mks.drew | apply Mks.alloc)).mono ?_; rintro e w2 ⟨rfl, hb2⟩; have hz2 : wq.heap.size ≤ w2.heap.size := (by have := hb2.size; simp at this; omega); (first | (have hq : wq.heap.size < w2.heap.size := (by have := hb2.size; simp at this; omega); have q0 : w2.cell? ⟨wq.heap.size, 0, none⟩ = some (.int .u8 0) := (hb2.cell (by show wq.heap.size < _; simp)).trans (by go_simp); have q1 : w2.cell? ⟨wq.heap.size, 1, none⟩ = some (.slice none 0 0) := (hb2.cell (by show wq.heap.size < _; simp)).trans (by go_simp); have q2 : w2.cell? ⟨wq.heap.size, 2, none⟩ = some (.int .u8 0) := (hb2.cell (by show wq.heap.size < _; simp)).trans (by go_simp); have q3 : w2.cell? ⟨wq.heap.size, 3, none⟩ = some (.slice none 0 0) := (hb2.cell (by show wq.heap.size < _; simp)).trans (by go_simp); have qf0 : w2.frozen? ⟨wq.heap.size, 0, none⟩ = false := (hb2.frozen (by show wq.heap.size < _; simp)).trans (by go_simp); have qf1 : w2.frozen? ⟨wq.heap.size, 1, none⟩ = false := (hb2.frozen (by show wq.heap.size < _; simp)).trans (by go_simp); have qf2 : w2.frozen? ⟨wq.heap.size, 2, none⟩ = false := (hb2.frozen (by show wq.heap.size < _; simp)).trans (by go_simp); have qf3 : w2.frozen? ⟨wq.heap.size, 3, none⟩ = false := (hb2.frozen (by show wq.heap.size < _; simp)).trans (by go_simp)) | skip))
       all_goals
        have B2 : Below wq.heap.size wq w2 := by
          first
            | exact ((Below.refl _ wq).drew).trans (hb2.mono (by simp))
            | exact (((Below.refl _ wq).alloc (Nat.le_refl _) _).drew).trans (hb2.mono (by simp))
            | exact (((Below.refl _ wq).drew).alloc (Nat.le_refl _) _).trans (hb2.mono (by simp))
        clear hb2
        go_wp2_with fail
        go_meet
        first
          | exact ⟨wq.heap.size, rfl, rfl, MB.set (.int .u8 ql) (.slice fa fn fc) (.int .u8 qs) (.slice ra rn rc) q0 q1 q2 q3, Below.setN (Below.setN (Below.setN (Below.setN B2 (Nat.le_refl _) _) (Nat.le_refl _) _) (Nat.le_refl _) _) (Nat.le_refl _) _⟩
          | exact ⟨w2.heap.size, rfl, rfl, MB.new w2 (.int .u8 ql) (.slice fa fn fc) (.int .u8 qs) (.slice ra rn rc) 108, B2.alloc hz2 _⟩
      case rest =>
        rename World => W3
        obtain ⟨bm, rfl, rfl, M, B3⟩ := hcut
        cases y with
        | false =>
          have HA : Hid (A = (0, 4)) := HQ0.out rfl
          go_wp2
          go_ret2
          rw [HA.out]
          exact ⟨rfl, B3⟩
        | true =>
          obtain ⟨m, us, hAm, hF, hRl, hmm⟩ := HQ1.out rfl
          have C := HCN W3.drew m us (FV.below hF B3.drew) (hRl.below B3.drew) hmm
          rw [← hAm] at C
          have k0 := (B3.cell (p := ⟨hb, 10 + n * 13 + 1 + 0, none⟩) hbl).trans m0
          have k1 := (B3.cell (p := ⟨hb, 10 + n * 13 + 1 + 1, none⟩) hbl).trans m1
          have k2 := (B3.cell (p := ⟨hb, 10 + n * 13 + 1 + 2, none⟩) hbl).trans m2
          have k3 := (B3.cell (p := ⟨hb, 10 + n * 13 + 1 + 3, none⟩) hbl).trans m3
          have k4 := (B3.cell (p := ⟨hb, 10 + n * 13 + 1 + 4, none⟩) hbl).trans m4
          have k5 := (B3.cell (p := ⟨hb, 10 + n * 13 + 1 + 5, none⟩) hbl).trans m5
          obtain ⟨j0, j1, j2, j3, jl⟩ := M
          have hbl3 : hb < W3.heap.size := Nat.lt_of_lt_of_le hbl B3.size
          clear hAm hF hRl hmm HCN CF U m0 m1 m2 m3 m4 m5 cp cu ck
          go_wp2
          go_region_with (go_at_call 44; refine C.mono ?_; rintro e w4 ⟨rfl, B4⟩)
          all_goals
            have B5 : Below wq.heap.size wq w4 := B3.trans (((Below.refl _ W3).drew.trans B4).mono B3.size)
            clear B4 C
            go_wp2
            go_ret2
            exact ⟨rfl, B5⟩
    · have HA : Hid (A = (0, e0)) := by show A = _; rw [← hA, if_pos he]
      have e1 : (e0 != 0) = true := by simp [he]
      clear hA he
      go_enter Try.func17, Try.ntmps17
      go_wp2_with fail
      refine CH.mono ?_
      rintro e w' ⟨rfl, rfl⟩
      clear CH
      go_wp2
      go_ret2
      rw [HA.out]
      exact ⟨rfl, Below.refl _ _⟩
end Go.Proofs.Ytbgilndohccicab
namespace Go.Proofs.Ytbgilndohccicab
open Go.RowKit

def begN (N : Nat → Nat → Int) (g f n c : Nat) : Nat → Nat → Int := fun i j => if i = 201 then (if j = 0 then 1 else if j = 1 then (g : Int) else if j = 2 then (n : Int) else if j = 3 then (c : Int) else if j = 4 then (f : Int) else N i j) else N i j
theorem begN_ne (N : Nat → Nat → Int) (g f n c : Nat) {i : Nat} (h : i ≠ 201) (j : Nat) : begN N g f n c i j = N i j := by unfold begN; rw [if_neg h]
theorem begN_upd (N : Nat → Nat → Int) (g f n c : Nat) : updV (begN N g f n c) = .slice (if f = 0 then none else some ⟨g, 0, none⟩) n c := by
  unfold updV
  have e1 : begN N g f n c 201 1 = (g : Int) := rfl
  have e2 : begN N g f n c 201 2 = (n : Int) := rfl
  have e3 : begN N g f n c 201 3 = (c : Int) := rfl
  have e4 : begN N g f n c 201 4 = (f : Int) := rfl
  rw [e1, e2, e3, e4, Int.toNat_natCast, Int.toNat_natCast, Int.toNat_natCast]
  congr 1
  by_cases h : f = 0
  · rw [if_pos h, if_pos (by omega)]
  · rw [if_neg h, if_neg (by omega)]
theorem HP.setUpd {w : World} {hb : Nat} {sv : SV} {sz : Int} {R : Nat → Nat} {K : Nat → Int} {N N' : Nat → Nat → Int} {F : Nat → Nat → Nat} (h : HP w hb sv sz R K N F) (b : Bool) (v : Value) (h1 : decide (N' 201 0 ≠ 0) = b) (h2 : updV N' = v) (h3 : ∀ i j, i ≠ 201 → N' i j = N i j) :
    HP ((w.setCell ⟨hb, 2623, none⟩ (.bool b)).setCell ⟨hb, 2624, none⟩ v) hb sv sz R K N' F := by
  have ne : ∀ o, o < 2623 → ((w.setCell ⟨hb, 2623, none⟩ (.bool b)).setCell ⟨hb, 2624, none⟩ v).cell? ⟨hb, o, none⟩ = w.cell? ⟨hb, o, none⟩ := by
    intro o ho
    rw [World.cell?_setCell_other _ _ _ _ (by intro e; injection e with _ e2 _; omega), World.cell?_setCell_other _ _ _ _ (by intro e; injection e with _ e2 _; omega)]
  have hbl := h.lt
  have cp := h.pend
  have cu := h.upd
  refine ⟨by rw [ne _ (by omega)]; exact h.sch, by rw [ne _ (by omega)]; exact h.size, fun a ha => by rw [ne _ (by omega)]; exact h.root a ha, fun a ha => by rw [ne _ (by omega)]; exact h.cls a ha, fun a c ha hc => by rw [ne _ (by omega), h3 _ _ (by omega)]; exact h.num a c ha hc, fun a c ha hc => by rw [ne _ (by omega)]; exact h.ref a c ha hc, fun o => by have := h.frz o; go_simp, ?_, ?_⟩
  · rw [h1]; go_simp
  · rw [h2]; go_simp
/-- What Begin answers. -/
def bgE (p : PH) (cs : Sch) (s : ByteArray) : Int × Int := if p.N 201 0 ≠ 0 then (11, 0) else (uE cs s, uP cs s)
def BgPost (hb : Nat) (sv : SV) (sz : Int) (p : PH) (cs : Sch) (s : ByteArray) (w : World) (e : Ending) (w' : World) : Prop :=
  e = .returned (.tuple #[.int .i64 (bgE p cs s).1, .int .i64 (bgE p cs s).2]) ∧ w.grownBy w' (some hb) ∧ ((bgE p cs s).1 ≠ 0 → HP w' hb sv sz p.R p.K p.N p.F) ∧
  ((bgE p cs s).1 = 0 → ∃ N' mv, HP w' hb sv sz p.R p.K N' p.F ∧ N' 201 0 = 1 ∧ (∀ i j, i ≠ 201 → N' i j = p.N i j) ∧ Mks w' w.heap.size (updV N') mv (uM cs s))
set_option maxHeartbeats 2000000 in
set_option maxRecDepth 20000 in
theorem pbegin_any (hb : Nat) (sv : SV) (sz : Int) (p : PH) (w : World) (h : HP w hb sv sz p.R p.K p.N p.F) {ob : Nat} {vs : List (Int × SV)} {cs : Sch} (hv : Cls w ob (.slice sv.a sv.n sv.c) vs cs) (s : ByteArray) (hm : s.size ≤ 9223372036854775807) :
    Calls Try.prog 16 #[.pointer (some ⟨hb, 0, none⟩), .string s] w (BgPost hb sv sz p cs s w) := by
  have hbl := h.lt
  have cp := h.pend
  obtain ⟨A, hA⟩ : ∃ A, bgE p cs s = A := ⟨_, rfl⟩
  unfold BgPost
  rw [hA]
  unfold bgE at hA
  by_cases h0 : p.N 201 0 = 0
  · rw [if_neg (by simpa using h0)] at hA
    rw [decide_eq_false (by simpa using h0)] at cp
    have cs0 := h.sch
    have C := uread_any s hv hm
    unfold RUPost at C
    have HM : Hid (uE cs s = 0 → uP cs s = 0) := by
      intro he
      unfold uE at he
      unfold uP
      split at he
      · rename_i h1; exact absurd he h1
      · rename_i h1
        rw [if_neg h1]
        split at he
        · omega
        · rename_i h2; rw [if_neg h2, if_neg (by simpa using he)]
    generalize uM cs s = ms at C ⊢
    have HA1 : Hid (A.1 = uE cs s) := by show A.1 = _; rw [← hA]
    have HA2 : Hid (A.2 = uP cs s) := by show A.2 = _; rw [← hA]
    generalize uE cs s = e1 at C HA1 HM
    generalize uP cs s = p1 at C HA2 HM
    have HH : Hid (HP w hb sv sz p.R p.K p.N p.F) := h
    obtain ⟨sa, sn, sc⟩ := sv
    simp only [] at cs0 C
    clear hA hv h h0
    by_cases he : e1 = 0
    · have e0 : (e1 != 0) = false := by simp [he]
      have HE : Hid (e1 = 0) := he
      clear he
      go_enter Try.func16, Try.ntmps16
      go_wp2_with fail
      refine C.mono ?_
      rintro e w1 ⟨a, n, c, mv, rfl, M1, B1⟩
      clear C
      have H1 : HP (w1.alloc (.cells #[.slice a n c] 82)) hb ⟨sa, sn, sc⟩ sz p.R p.K p.N p.F := (HH.out.below B1).alloc _
      have s1 := B1.size
      have hbl1 : hb < w1.heap.size := by omega
      have q1 := H1.pend
      have q2 := H1.upd
      have q3 := H1.frz 2623
      have q4 := H1.frz 2624
      have HD : Hid (∃ g f, Value.slice a n c = .slice (if f = 0 then none else some ⟨g, 0, none⟩) n c) := by
        rcases M1.cells with ⟨e, _⟩ | ⟨g, cap, e, _⟩
        · exact ⟨0, 0, by cases e; rfl⟩
        · exact ⟨g, 1, by cases e; rfl⟩
      have H1' : Hid (HP (w1.alloc (.cells #[.slice a n c] 82)) hb ⟨sa, sn, sc⟩ sz p.R p.K p.N p.F) := H1
      have M1' : Hid (Mks w1 w.heap.size (.slice a n c) mv ms) := M1
      have c1 : w1.cell? ⟨hb, 2623, none⟩ = some (.bool (decide (p.N 201 0 ≠ 0))) := (HH.out.below B1).pend
      have c2 : w1.cell? ⟨hb, 2624, none⟩ = some (updV p.N) := (HH.out.below B1).upd
      have f1 : w1.frozen? ⟨hb, 2623, none⟩ = false := (HH.out.below B1).frz _
      have f2 : w1.frozen? ⟨hb, 2624, none⟩ = false := (HH.out.below B1).frz _
      generalize updV p.N = uv at c2
      generalize decide (p.N 201 0 ≠ 0) = bv at c1
      clear H1 M1 q1 q2 q3 q4
      go_wp2
      go_ret2
      obtain ⟨g, f, hD⟩ := HD.out
      refine ⟨by rw [HA1.out, HA2.out, HM.out HE.out, HE.out]; rfl, ?_, fun hne => absurd (HA1.out.trans HE.out) hne, fun _ => ⟨begN p.N g f n c, mv, ?_, rfl, fun i j hi => begN_ne _ _ _ _ _ hi j, ?_⟩⟩
      · exact gb_alloc (gb_trans (gb_trans (gb_below B1 _) (gb_set _ _ _ _)) (gb_set _ _ _ _)) _
      · exact ((HH.out.below B1).setUpd true (.slice a n c) rfl (by rw [begN_upd, ← hD]) (fun i j hi => begN_ne _ _ _ _ _ hi j)).alloc _
      · rw [begN_upd, ← hD]
        exact ((M1'.out.kept (gb_set _ hb 2623 _) hbl).kept (gb_set _ hb 2624 _) hbl).alloc _
    · have e0 : (e1 != 0) = true := by simp [he]
      have HE : Hid (e1 ≠ 0) := he
      clear he
      go_enter Try.func16, Try.ntmps16
      go_wp2_with fail
      refine C.mono ?_
      rintro e w1 ⟨a, n, c, mv, rfl, M1, B1⟩
      clear C M1
      go_wp2
      go_ret2
      exact ⟨by rw [HA1.out, HA2.out]; rfl, gb_alloc (gb_below B1 _) _, fun _ => (HH.out.below B1).alloc _, fun h0 => absurd (HA1.out.symm.trans h0) HE.out⟩
  · rw [if_pos h0] at hA
    rw [decide_eq_true h0] at cp
    have HA : Hid (A = (11, 0)) := hA.symm
    have HH : Hid (HP w hb sv sz p.R p.K p.N p.F) := h
    clear hA h0 h
    go_enter Try.func16, Try.ntmps16
    go_wp2
    go_ret2
    rw [HA.out]
    exact ⟨rfl, World.grownBy.refl _ _, fun _ => HH.out, fun h => by simp at h⟩
end Go.Proofs.Ytbgilndohccicab
