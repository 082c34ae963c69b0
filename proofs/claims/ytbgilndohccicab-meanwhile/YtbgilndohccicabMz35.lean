import Derived.Test.YtbgilndohccicabMz34
namespace Go.Proofs.Ytbgilndohccicab
open Go.RowKit

theorem RT.drewN {w : World} {b : Nat} {s : ByteArray} {k base : Nat} {v : Value} {ts : List GT} (h : RT w b s k base v ts) (n : Nat) : RT (w.drewN n) b s k base v ts := h.below ⟨rfl, rfl, rfl, Nat.le_refl _, fun _ _ => rfl⟩
theorem Fr.drewN {b : Nat} {v v' : Value} {w w' : World} (h : Fr b v v' w w') (n : Nat) : Fr b v v' w (w'.drewN n) := h.trans (Fr.below ⟨rfl, rfl, rfl, Nat.le_refl _, fun _ _ => rfl⟩)
def TPost (y : Bool) (b : Nat) (s : ByteArray) (k base : Nat) (v : Value) (ts : List GT) (w : World) (e : Ending) (w' : World) : Prop := e = .returned (.bool y) ∧ RT w' b s (if y then k + 1 else k) base v ts ∧ Fr b v v w w'
set_option maxHeartbeats 400000 in
theorem take_rt {s : ByteArray} {b k base : Nat} {v : Value} {ts : List GT} {x : Int} {w : World} (h : RT w b s k base v ts) (hx : 0 < x) (y : Bool) (hy : (nextB s k == x) = y) :
    Calls Try.prog 104 #[.pointer (some ⟨b, 0, none⟩), .int .u8 x] w (TPost y b s k base v ts w) := by
  have H : Hid (RT w b s k base v ts) := h
  have N := next_rs h.rs
  obtain ⟨c0, c1, c2, _, f1, f3, le, lt⟩ := id h.rs
  subst hy
  obtain ⟨z, hz⟩ : ∃ z, z = nextB s k := ⟨_, rfl⟩
  have hlt : z = x → k < s.size := by
    intro e; exact nextB_pos (by omega)
  rw [← hz] at N ⊢
  clear hz h
  by_cases e : z = x
  · have hl := hlt e
    have e' : (z == x) = true := by simpa using e
    rw [e']
    clear hlt e
    go_enter Try.func104, Try.ntmps104
    go_wp2_with (go_at_call 107; refine N.mono ?_; rintro e w' ⟨rfl, n, rfl⟩)
    go_ret
    exact ⟨rfl, by simpa using (H.out.drewN n).inc hl, ((Fr.refl b v w).drewN n).trans (Fr.setB b 1 v _ _)⟩
  · have e' : (z == x) = false := by simpa using e
    rw [e']
    clear hlt
    go_enter Try.func104, Try.ntmps104
    go_wp2_with (go_at_call 107; refine N.mono ?_; rintro e w' ⟨rfl, n, rfl⟩)
    go_ret
    exact ⟨rfl, by simpa using H.out.drewN n, (Fr.refl b v w).drewN n⟩
/-- A reader does as F says. -/
def PC (fn : Nat) (s : ByteArray) (d : Nat) (F : Nat → List GT → SumR) : Prop := ∀ (b k base : Nat) (v : Value) (ts : List GT) (w : World), RT w b s k base v ts →
  Calls Try.prog fn #[.pointer (some ⟨b, 0, none⟩), .int .i64 d] w (SumPost (F k ts) b s base v w)
set_option maxHeartbeats 1000000 in
set_option maxRecDepth 20000 in
theorem fac_number (s : ByteArray) (b k base : Nat) (v : Value) (ts : List GT) (d : Nat) (w : World) (h : RT w b s k base v ts) (h1 : 48 ≤ nextB s k) (h2 : nextB s k ≤ 57) :
    Calls Try.prog 114 #[.pointer (some ⟨b, 0, none⟩), .int .i64 d] w (SumPost ⟨true, (gNum s 9 k 0).2, ts ++ [⟨48, (gNum s 9 k 0).1, k⟩]⟩ b s base v w) := by
  have q1 : (decide (48 ≤ nextB s k) && decide (nextB s k ≤ 57)) = true := by simp; omega
  have H : Hid (RT w b s k base v ts) := h
  have HR := here_any s b k true w h.rs
  have NA := fun W (hW : RT W b s k base v ts) => number_any s b k base v ts W hW h1 h2
  unfold NumPost at NA
  unfold SumPost
  generalize gNum s 9 k 0 = G at NA ⊢
  clear h
  go_enter Try.func114, Try.ntmps114
  go_wp2_with fail
  refine HR.mono ?_
  rintro e w1 ⟨rfl, B1⟩
  have H1 := (H.out.below B1).alloc (.cells #[.int .u8 (nextB s k), .int .i64 0, .int .i64 k] 191)
  have F1 : Fr b v v w (w1.alloc (.cells #[.int .u8 (nextB s k), .int .i64 0, .int .i64 k] 191)) := Fr.below (B1.alloc B1.size _)
  have C := NA _ H1
  clear HR NA
  go_wp2_with fail
  refine (isIn_rs true q1).mono ?_
  rintro e w' ⟨rfl, rfl⟩
  go_wp2_with fail
  refine C.mono ?_
  rintro e w2 ⟨rfl, v2, H2, F2⟩
  go_wp2
  go_ret
  exact ⟨rfl, v2, H2, F1.trans F2⟩
set_option maxHeartbeats 1000000 in
set_option maxRecDepth 20000 in
theorem fac_bad (s : ByteArray) (b k base : Nat) (v : Value) (ts : List GT) (d : Nat) (w : World) (h : RT w b s k base v ts) (h1 : ¬ (48 ≤ nextB s k ∧ nextB s k ≤ 57)) (h2 : ¬ (97 ≤ nextB s k ∧ nextB s k ≤ 122)) (h3 : nextB s k ≠ 40 ∨ 6 ≤ d) :
    Calls Try.prog 114 #[.pointer (some ⟨b, 0, none⟩), .int .i64 d] w (SumPost ⟨false, k, ts⟩ b s base v w) := by
  have q1 : (decide (48 ≤ nextB s k) && decide (nextB s k ≤ 57)) = false := by
    cases hh : (decide (48 ≤ nextB s k) && decide (nextB s k ≤ 57)) with
    | false => rfl
    | true => simp at hh; exact absurd hh h1
  have q2 : (decide (97 ≤ nextB s k) && decide (nextB s k ≤ 122)) = false := by
    cases hh : (decide (97 ≤ nextB s k) && decide (nextB s k ≤ 122)) with
    | false => rfl
    | true => simp at hh; exact absurd hh h2
  have H : Hid (RT w b s k base v ts) := h
  have HR := here_any s b k true w h.rs
  have hb := h.rs.blt
  clear h h1 h2
  by_cases h40 : nextB s k = 40
  · have hd : (6 : Int) ≤ (d : Int) := by omega
    have e40 : (nextB s k != 40) = false := by simp [h40]
    clear h3 h40
    go_enter Try.func114, Try.ntmps114
    go_wp2_with fail
    refine HR.mono ?_
    rintro e w1 ⟨rfl, B1⟩
    have H1 := (H.out.below B1).alloc (.cells #[.int .u8 (nextB s k), .int .i64 0, .int .i64 k] 191)
    have F1 : Fr b v v w (w1.alloc (.cells #[.int .u8 (nextB s k), .int .i64 0, .int .i64 k] 191)) := Fr.below (B1.alloc B1.size _)
    clear HR
    go_wp2_with fail
    refine (isIn_rs false q1).mono ?_
    rintro e w' ⟨rfl, rfl⟩
    go_wp2_with fail
    refine (isLetter_any _ _ _ _).mono ?_
    rintro e w2 ⟨rfl, B2⟩
    rw [q2]
    have H2 : Hid _ := H1.below B2
    have F2 : Hid _ := F1.trans (Fr.below B2)
    have lc := fun o => B2.cell (p := ⟨w1.heap.size, o, none⟩) (by simp)
    have l0 : w2.cell? ⟨w1.heap.size, 0, none⟩ = some (.int .u8 (nextB s k)) := (lc 0).trans (by go_simp)
    clear B2 lc H1 F1
    go_wp2
    go_ret
    exact ⟨rfl, v, H2.out, F2.out⟩
  · have e40 : (nextB s k != 40) = true := by simp [h40]
    clear h3
    go_enter Try.func114, Try.ntmps114
    go_wp2_with fail
    refine HR.mono ?_
    rintro e w1 ⟨rfl, B1⟩
    have H1 := (H.out.below B1).alloc (.cells #[.int .u8 (nextB s k), .int .i64 0, .int .i64 k] 191)
    have F1 : Fr b v v w (w1.alloc (.cells #[.int .u8 (nextB s k), .int .i64 0, .int .i64 k] 191)) := Fr.below (B1.alloc B1.size _)
    clear HR
    go_wp2_with fail
    refine (isIn_rs false q1).mono ?_
    rintro e w' ⟨rfl, rfl⟩
    go_wp2_with fail
    refine (isLetter_any _ _ _ _).mono ?_
    rintro e w2 ⟨rfl, B2⟩
    rw [q2]
    have H2 : Hid _ := H1.below B2
    have F2 : Hid _ := F1.trans (Fr.below B2)
    have lc := fun o => B2.cell (p := ⟨w1.heap.size, o, none⟩) (by simp)
    have l0 : w2.cell? ⟨w1.heap.size, 0, none⟩ = some (.int .u8 (nextB s k)) := (lc 0).trans (by go_simp)
    clear B2 lc H1 F1
    go_wp2
    go_ret
    exact ⟨rfl, v, H2.out, F2.out⟩
set_option maxHeartbeats 1000000 in
set_option maxRecDepth 20000 in
theorem fac_open (s : ByteArray) (b k base : Nat) (v : Value) (ts : List GT) (d : Nat) (w : World) (h : RT w b s k base v ts) (h1 : nextB s k = 40) (hd : d < 6) (f : Nat → List GT → SumR) (hf : PC 111 s (d + 1) f) :
    Calls Try.prog 114 #[.pointer (some ⟨b, 0, none⟩), .int .i64 d] w (SumPost (if (f (k + 1) ts).ok = true ∧ nextB s (f (k + 1) ts).at_ = 41 then ⟨true, (f (k + 1) ts).at_ + 1, (f (k + 1) ts).ts⟩ else ⟨false, (f (k + 1) ts).at_, (f (k + 1) ts).ts⟩) b s base v w) := by
  have hk : k < s.size := nextB_pos (by omega)
  have q1 : (decide (48 ≤ nextB s k) && decide (nextB s k ≤ 57)) = false := by rw [h1]; rfl
  have q2 : (decide (97 ≤ nextB s k) && decide (nextB s k ≤ 122)) = false := by rw [h1]; rfl
  have e40 : (nextB s k != 40) = false := by simp [h1]
  have H : Hid (RT w b s k base v ts) := h
  have HR := here_any s b k true w h.rs
  have hb := h.rs.blt
  have C := fun W (hW : RT W b s (k + 1) base v ts) => hf b (k + 1) base v ts W hW
  obtain ⟨ok, q, us, hq⟩ : ∃ ok q us, f (k + 1) ts = ⟨ok, q, us⟩ := ⟨_, _, _, rfl⟩
  rw [hq] at C ⊢
  unfold SumPost at C
  have ed : ((d + 1 : Nat) : Int) = (d : Int) + 1 := by omega
  simp only [ed] at C
  obtain ⟨R, hR⟩ : ∃ R : SumR, R = (if ok = true ∧ nextB s q = 41 then ⟨true, q + 1, us⟩ else ⟨false, q, us⟩) := ⟨_, rfl⟩
  have HRR : Hid (R = (if ok = true ∧ nextB s q = 41 then ⟨true, q + 1, us⟩ else ⟨false, q, us⟩)) := hR
  simp only []
  rw [← hR]
  clear hR ed
  have hd6 : (d : Int) < 6 := by omega
  have hd0 : (0 : Int) ≤ (d : Int) := by omega
  clear h h1 hq hf
  go_enter Try.func114, Try.ntmps114
  go_wp2_with fail
  refine HR.mono ?_
  rintro e w1 ⟨rfl, B1⟩
  have H1 := (H.out.below B1).alloc (.cells #[.int .u8 (nextB s k), .int .i64 0, .int .i64 k] 191)
  have F1 : Fr b v v w (w1.alloc (.cells #[.int .u8 (nextB s k), .int .i64 0, .int .i64 k] 191)) := Fr.below (B1.alloc B1.size _)
  clear HR
  go_wp2_with fail
  refine (isIn_rs false q1).mono ?_
  rintro e w' ⟨rfl, rfl⟩
  go_wp2_with fail
  refine (isLetter_any _ _ _ _).mono ?_
  rintro e w2 ⟨rfl, B2⟩
  rw [q2]
  have H2 := H1.below B2
  have F2 := F1.trans (Fr.below (b := b) (v := v) B2)
  have lc := fun o => B2.cell (p := ⟨w1.heap.size, o, none⟩) (by simp)
  have l0 : w2.cell? ⟨w1.heap.size, 0, none⟩ = some (.int .u8 (nextB s k)) := (lc 0).trans (by go_simp)
  have C3 := C _ (H2.inc hk)
  have F3 : Hid _ := F2.trans (Fr.setB b 1 v (.int .i64 ((k : Int) + 1)) w2)
  obtain ⟨c0, c1, c2, _, f1, f3, _, _⟩ := id H2.rs
  clear B2 lc H1 F1 H2 F2 C
  go_wp2_with fail
  refine C3.mono ?_
  rintro e w3 ⟨rfl, v3, H3, F4⟩
  cases ok with
  | false =>
    have HE : Hid (R = ⟨false, q, us⟩) := by rw [HRR.out, if_neg (by simp)]; exact rfl
    go_wp2
    go_ret
    rw [HE.out]
    exact ⟨rfl, v3, H3, F3.out.trans F4⟩
  | true =>
    by_cases h41 : nextB s q = 41
    · have HE : Hid (R = ⟨true, q + 1, us⟩) := by rw [HRR.out, if_pos ⟨rfl, h41⟩]; exact rfl
      have h41' : (nextB s q == 41) = true := by simp [h41]
      go_wp2_with fail
      refine (take_rt H3 (by omega) true h41').mono ?_
      rintro e w4 ⟨rfl, H4, F5⟩
      go_wp2
      go_ret
      rw [HE.out]
      exact ⟨rfl, v3, by simpa using H4, (F3.out.trans F4).trans F5⟩
    · have HE : Hid (R = ⟨false, q, us⟩) := by rw [HRR.out, if_neg (by simp [h41])]; exact rfl
      have h41' : (nextB s q == 41) = false := by simp [h41]
      go_wp2_with fail
      refine (take_rt H3 (by omega) false h41').mono ?_
      rintro e w4 ⟨rfl, H4, F5⟩
      go_wp2
      go_ret
      rw [HE.out]
      exact ⟨rfl, v3, by simpa using H4, (F3.out.trans F4).trans F5⟩
/-- readFactor does as facR says. -/
theorem factor_any (s : ByteArray) (d : Nat) (sm : Option (Nat → List GT → SumR)) (h0 : sm = none → 6 ≤ d) (h1 : ∀ f, sm = some f → d < 6 ∧ PC 111 s (d + 1) f) : PC 114 s d (facR s sm) := by
  intro b k base v ts w h
  by_cases n1 : 48 ≤ nextB s k ∧ nextB s k ≤ 57
  · have e : facR s sm k ts = ⟨true, (gNum s 9 k 0).2, ts ++ [⟨48, (gNum s 9 k 0).1, k⟩]⟩ := by unfold facR; rw [if_pos n1]
    rw [e]; exact fac_number s b k base v ts d w h n1.1 n1.2
  by_cases n2 : 97 ≤ nextB s k ∧ nextB s k ≤ 122
  · have e : facR s sm k ts = ⟨true, k + 1, ts ++ [⟨nextB s k, 0, k⟩]⟩ := by unfold facR; rw [if_neg n1, if_pos n2]
    rw [e]; exact fac_letter s b k base v ts d w h n2.1 n2.2
  by_cases n3 : nextB s k = 40
  · cases sm with
    | none =>
      have e : facR s none k ts = ⟨false, k, ts⟩ := by unfold facR; rw [if_neg n1, if_neg n2, if_neg (by simpa using n3)]
      rw [e]; exact fac_bad s b k base v ts d w h n1 n2 (.inr (h0 rfl))
    | some f =>
      obtain ⟨hd, hf⟩ := h1 f rfl
      have e : facR s (some f) k ts = if (f (k + 1) ts).ok = true ∧ nextB s (f (k + 1) ts).at_ = 41 then ⟨true, (f (k + 1) ts).at_ + 1, (f (k + 1) ts).ts⟩ else ⟨false, (f (k + 1) ts).at_, (f (k + 1) ts).ts⟩ := by unfold facR; rw [if_neg n1, if_neg n2, if_neg (by simpa using n3)]
      rw [e]; exact fac_open s b k base v ts d w h n3 hd f hf
  · have e : facR s sm k ts = ⟨false, k, ts⟩ := by unfold facR; rw [if_neg n1, if_neg n2, if_pos n3]
    rw [e]; exact fac_bad s b k base v ts d w h n1 n2 (.inl n3)
end Go.Proofs.Ytbgilndohccicab
namespace Go.Proofs.Ytbgilndohccicab
open Go.RowKit

set_option maxHeartbeats 2000000 in
set_option maxRecDepth 20000 in
theorem product_loop (s : ByteArray) (d : Nat) (F : Nat → List GT → SumR) (hG : Grow F) (hF : PC 114 s d F) : PC 112 s d (fun k ts => opLoop s isMul F (s.size + 1) (F k ts)) := by
  intro b k base v ts w h
  simp only []
  have C := hF b k base v ts w h
  have hG0 := hG k ts
  obtain ⟨R, hR⟩ : ∃ R, R = opLoop s isMul F (s.size + 1) (F k ts) := ⟨_, rfl⟩
  rw [← hR]
  obtain ⟨ok, q, us, hq⟩ : ∃ ok q us, F k ts = ⟨ok, q, us⟩ := ⟨_, _, _, rfl⟩
  rw [hq] at C hR hG0
  unfold SumPost at C
  simp only [] at C hG0
  have H0 : Hid (R = opLoop s isMul F (s.size + 1) ⟨ok, q, us⟩) := hR
  clear hR hq h
  go_enter Try.func112, Try.ntmps112
  go_wp2_with fail
  refine C.mono ?_
  rintro e w0 ⟨rfl, v0, R0, F0⟩
  clear C
  go_wp2
  go_loopg [5] (s.size + 1) (fun gk okv wr => ∃ (st : SumR) (v' : Value), okv = .bool st.ok ∧ R = opLoop s isMul F gk st ∧ s.size < st.at_ + gk ∧ RT wr b s st.at_ base v' st.ts ∧ Fr b v v' w wr)
  case atStart => exact ⟨⟨ok, q, us⟩, v0, rfl, H0.out, by omega, R0, F0⟩
  case round =>
    obtain ⟨⟨ok, q, us⟩, v0, rfl, hl, hsz, HR, F0⟩ := hrel
    simp only [] at hsz HR
    have HL : Hid (R = opLoop s isMul F gk ⟨ok, q, us⟩) := hl
    have F0 : Hid (Fr b v v0 w wr) := F0
    have hbr := HR.rs.blt
    clear hl R0 H0 hG0
    cases ok with
    | false =>
      have HE : Hid (R = ⟨false, q, us⟩) := by show R = _; rw [HL.out, opLoop_stop _ _ _ _ (by simp)]
      go_wp2
      go_ret
      rw [HE.out]
      exact ⟨rfl, v0, HR, F0.out⟩
    | true =>
      have HN := here_any s b q true wr HR.rs
      cases hp : isMul (nextB s q) with
      | false =>
        have HE : Hid (R = ⟨true, q, us⟩) := by show R = _; rw [HL.out, opLoop_stop _ _ _ _ (by simp [hp])]
        have e1 : (nextB s q != 42) = true := by
          have : ¬ nextB s q = 42 := by simpa [isMul] using hp
          simp [this]
        go_wp2_with fail
        refine HN.mono ?_
        rintro e w1 ⟨rfl, B1⟩
        have R1 := (HR.below B1).alloc (.cells #[.int .u8 (nextB s q), .int .i64 0, .int .i64 q] 191)
        have F1 : Fr b v v0 w (w1.alloc (.cells #[.int .u8 (nextB s q), .int .i64 0, .int .i64 q] 191)) := F0.out.trans (Fr.below (B1.alloc B1.size _))
        go_wp2
        go_ret
        rw [HE.out]
        exact ⟨rfl, v0, R1, F1⟩
      | true =>
        have hq : q < s.size := nextB_pos (by
          have : nextB s q = 42 := by simpa [isMul] using hp
          omega)
        obtain ⟨n, rfl⟩ : ∃ n, gk = n + 1 := ⟨gk - 1, by omega⟩
        have e1 : (nextB s q != 42) = false := by
          have : nextB s q = 42 := by simpa [isMul] using hp
          simp [this]
        go_wp2_with fail
        refine HN.mono ?_
        rintro e w1 ⟨rfl, B1⟩
        have R1 := (HR.below B1).alloc (.cells #[.int .u8 (nextB s q), .int .i64 0, .int .i64 q] 191)
        have hpb : b < w1.heap.size := by have := B1.size; omega
        have hpv : v0.ownBlock ≠ some w1.heap.size := fun e => by have := (HR.own _ e).2; have := B1.size; omega
        have R2 := ((HR.below B1).inc hq).alloc (.cells #[.int .u8 (nextB s q), .int .i64 0, .int .i64 q] 191)
        have F2 : Fr b v v0 w ((w1.setCell ⟨b, 1, none⟩ (.int .i64 ((q : Int) + 1))).alloc (.cells #[.int .u8 (nextB s q), .int .i64 0, .int .i64 q] 191)) := ((F0.out.trans (Fr.below B1)).trans (Fr.setB b 1 v0 (.int .i64 ((q : Int) + 1)) w1)).trans (Fr.below ((Below.refl _ _).alloc (Nat.le_refl _) _))
        have C3 := hF b (q + 1) base v0 us _ R2
        obtain ⟨c0, c1, c2, _, f1, f3, _, _⟩ := id R1.rs
        have G := hG (q + 1) us
        have hstep := HL.out
        rw [opLoop_step s isMul F ⟨true, q, us⟩ ⟨rfl, hp⟩] at hstep
        unfold opStep at hstep
        simp only [] at hstep
        obtain ⟨ok3, q3, us3, h3⟩ : ∃ ok3 q3 us3, F (q + 1) us = ⟨ok3, q3, us3⟩ := ⟨_, _, _, rfl⟩
        rw [h3] at C3 G hstep
        unfold SumPost at C3
        simp only [] at C3 G hstep
        have HST : Hid (R = opLoop s isMul F n ⟨ok3, q3, us3 ++ [⟨nextB s q, 0, q⟩]⟩) := hstep
        have hln := HR.ln
        clear h3 hstep B1 HN HL
        go_wp2_with fail
        refine C3.mono ?_
        rintro e w3 ⟨rfl, v3, R3, F3⟩
        have lb := F3.blk w1.heap.size (by simp [World.setCell]) (by omega) hpv
        have lc := fun o => World.cell?_of_block (a := ⟨w1.heap.size, o, none⟩) lb
        have l0 : w3.cell? ⟨w1.heap.size, 0, none⟩ = some (.int .u8 (nextB s q)) := (lc 0).trans (by go_simp)
        have l1 : w3.cell? ⟨w1.heap.size, 1, none⟩ = some (.int .i64 0) := (lc 1).trans (by go_simp)
        have l2 : w3.cell? ⟨w1.heap.size, 2, none⟩ = some (.int .i64 q) := (lc 2).trans (by go_simp)
        have hp3 : w1.heap.size < w3.heap.size := by have := F3.size; simp [World.setCell] at this; omega
        have hb3 : b < w3.heap.size := by omega
        obtain ⟨g0, g1, g2, _, g4, g5, _, _⟩ := id R3.rs
        have g3 := R3.c3
        obtain ⟨a3, n3, rfl⟩ := R3.shape
        obtain ⟨g, cap, w4, hrun, H4, F4, k3, k4, k5⟩ := R3.run (by omega) ⟨nextB s q, 0, q⟩
        have HF : Hid _ := (F2.trans F3).trans F4
        have HH : Hid _ := H4
        clear F4 H4 F3 F2 R3 R2 R1 lb lc C3 c0 c1 c2 f1 f3
        go_wp2
        go_region_law (refine stepT_append rfl (.tmp 30) (.tmp 32) 158 rfl _ _ _ _ (by simp [Act.eval]) (by simp [Act.eval]) hrun ?_)
        all_goals
          go_wp2
          go_roundg n
          case measure => omega
          case rel =>
            exact ⟨⟨ok3, q3, us3 ++ [⟨nextB s q, 0, q⟩]⟩, _, rfl, HST.out, by simp only []; omega, HH.out, HF.out⟩
end Go.Proofs.Ytbgilndohccicab
