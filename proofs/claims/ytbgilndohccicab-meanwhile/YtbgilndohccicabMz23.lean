import Derived.Test.YtbgilndohccicabMz22
import Derived.Deep.RegionWith
import Derived.Test.YtbgilndohccicabMz21
import Derived.Maps.AppendAt
namespace Go.Proofs.Ytbgilndohccicab
open Go.RowKit

def pickI (c n : Int) : Int := (if c < 0 then -(c + 1) else c) % n
theorem pickI_bd (c n : Int) (h : 0 < n) : 0 ≤ pickI c n ∧ pickI c n < n := ⟨Int.emod_nonneg _ (by omega), Int.emod_lt_of_pos _ h⟩

set_option maxHeartbeats 400000 in
theorem pick_any (c n : Int) (w : World) (hn : 0 < n) (hn' : n ≤ 9223372036854775807) (h1 : -9223372036854775808 ≤ c) (h2 : c ≤ 9223372036854775807) :
    Calls Try.prog 12 #[.int .i64 c, .int .i64 n] w fun e w' => e = .returned (.int .i64 (pickI c n)) ∧ w' = w := by
  by_cases h : c < 0
  · have e : pickI c n = -((c + 1).tmod n) := by
      rw [← Int.neg_tmod, Int.tmod_eq_emod_of_nonneg (by omega : 0 ≤ -(c + 1))]; simp [pickI, h]
    rw [e]
    go_enter Try.func12, Try.ntmps12
    go_wp2
    go_ret
    exact ⟨rfl, rfl⟩
  · have e : pickI c n = c % n := by simp [pickI, h]
    rw [e]
    go_enter Try.func12, Try.ntmps12
    go_wp2
    go_ret
    exact ⟨rfl, rfl⟩

theorem conv_one (w : World) (x : Int) : (convert 37 9 (.slice (some ⟨w.heap.size, 0, none⟩) 1 1)).run Try.prog (w.alloc (.cells #[.int .u8 x] 5)) = .ok (.string ⟨#[UInt8.ofNat x.toNat]⟩) (w.alloc (.cells #[.int .u8 x] 5)) := by
  rw [run_convert_bytes_string _ 37 9 5 _ _ _ Try.underlying37 Try.underlying5 Try.underlying9, run_bytesToString _ _ 1 1 [x] (by go_simp)]
  rfl
theorem bytesOf_one (x : Int) (h0 : 0 ≤ x) (h1 : x ≤ 255) : bytesOf ⟨#[UInt8.ofNat x.toNat]⟩ = [x] := by
  simp only [bytesOf, List.map_cons, List.map_nil]
  congr 1
  simp; omega

theorem below_drew {B : Nat} {a w : World} (h : Below B a w) (n : Nat) : Below B a (w.drewN n) := ⟨h.os, h.tape, h.output, h.size, h.block⟩
/-- The dice lie in block b, over numbers Z that came in. -/
structure DS (w : World) (b : Nat) (a : Option Addr) (len cap k : Nat) (Z : Nat → Int) : Prop where
  c0 : w.cell? ⟨b, 0, none⟩ = some (.slice a len cap)
  c1 : w.cell? ⟨b, 1, none⟩ = some (.int .i64 k)
  f1 : w.frozen? ⟨b, 1, none⟩ = false
  le : k ≤ len
  m : len ≤ 9223372036854775807
  bd : ∀ i, -9223372036854775808 ≤ Z i ∧ Z i ≤ 9223372036854775807
  row : 0 < len → ∃ g o, a = some ⟨g, o, none⟩ ∧ g < b ∧ ∀ i, i < len → w.cell? ⟨g, o + i, none⟩ = some (.int .i64 (Z i))

theorem DS.blt {w : World} {b : Nat} {a : Option Addr} {len cap k : Nat} {Z : Nat → Int} (h : DS w b a len cap k Z) : b < w.heap.size := World.block_lt_of_cell? w ⟨b, 0, none⟩ h.c0
theorem DS.kept {w w' : World} {b : Nat} {a : Option Addr} {len cap k : Nat} {Z : Nat → Int} (h : DS w b a len cap k Z) (hb : Below w.heap.size w w') : DS w' b a len cap k Z := by
  have hl := h.blt
  refine ⟨(hb.cell (by exact hl)).trans h.c0, (hb.cell (by exact hl)).trans h.c1, (hb.frozen (by exact hl)).trans h.f1, h.le, h.m, h.bd, fun h0 => ?_⟩
  obtain ⟨g, o, e, hg, hc⟩ := h.row h0
  exact ⟨g, o, e, hg, fun i hi => (hb.cell (by show g < w.heap.size; omega)).trans (hc i hi)⟩
theorem DS.drewN {w : World} {b : Nat} {a : Option Addr} {len cap k : Nat} {Z : Nat → Int} (h : DS w b a len cap k Z) (n : Nat) : DS (w.drewN n) b a len cap k Z := h.kept (below_drew (Below.refl _ _) n)
theorem DS.inc {w : World} {b : Nat} {a : Option Addr} {len cap k : Nat} {Z : Nat → Int} (h : DS w b a len cap k Z) (hk : k < len) : DS (w.setCell ⟨b, 1, none⟩ (.int .i64 ((k : Int) + 1))) b a len cap (k + 1) Z := by
  obtain ⟨c0, c1, f1, le, m, bd, row⟩ := h
  refine ⟨by go_simp, by go_simp, by go_simp, hk, m, bd, fun h0 => ?_⟩
  obtain ⟨g, o, e, hg, hc⟩ := row h0
  refine ⟨g, o, e, hg, fun i hi => ?_⟩
  have := hc i hi
  have hne : g ≠ b := by omega
  go_simp

set_option maxHeartbeats 400000 in
theorem dnext_any (w : World) (b : Nat) (a : Option Addr) (len cap k : Nat) (Z : Nat → Int) (n : Int) (h : DS w b a len cap k Z) (hn : 0 < n) (hn' : n ≤ 9223372036854775807) :
    Calls Try.prog 27 #[.pointer (some ⟨b, 0, none⟩), .int .i64 n] w fun e w' => (∃ d : Nat, e = .returned (.int .i64 d) ∧ (d : Int) < n) ∧ (∃ k', DS w' b a len cap k' Z) ∧ w.grownBy w' (some b) := by
  by_cases hk : k < len
  · obtain ⟨g, o, rfl, hg, hc⟩ := h.row (by omega)
    have hck := hc k hk
    have hz := h.bd k
    have H : Hid (DS w b (some ⟨g, o, none⟩) len cap k Z) := h
    have hp := pickI_bd (Z k) n hn
    have HP : Hid (0 ≤ pickI (Z k) n ∧ pickI (Z k) n < n) := hp
    obtain ⟨c0, c1, f1, le, m, bd, row⟩ := h
    clear row bd hc hp
    have hlt : (k : Int) < (len : Int) := by omega
    go_enter Try.func27, Try.ntmps27
    go_wp2
    go_quiet (fail)
    go_wp2
    go_quiet ((go_at_call 12; exact (pick_any _ _ _ hn hn' hz.1 hz.2).mono fun _ _ h => ⟨h.1, _, h.2⟩))
    go_wp2
    go_ret
    obtain ⟨p0, p1⟩ := HP.out
    obtain ⟨d, hd⟩ := Int.eq_ofNat_of_zero_le p0
    refine ⟨⟨d, by rw [← hd]; rfl, by omega⟩, ⟨k + 1, ?_⟩, ?_⟩
    · exact (H.out.drewN _).inc hk
    · exact gb_trans (gb_drewN _ _ _) (gb_set _ _ _ _)
  · have H : Hid (DS w b a len cap k Z) := h
    obtain ⟨c0, c1, f1, le, m, bd, row⟩ := h
    have hge : len ≤ k := by omega
    clear row bd hk
    go_enter Try.func27, Try.ntmps27
    go_wp2
    go_quiet (fail)
    go_wp2
    go_ret
    exact ⟨⟨0, rfl, by omega⟩, ⟨k, H.out.drewN _⟩, gb_drewN _ _ _⟩
theorem conv_cell (W : World) (b : Nat) (x : Int) (h : W.cell? ⟨b, 0, none⟩ = some (.int .u8 x)) : (convert 37 9 (.slice (some ⟨b, 0, none⟩) 1 1)).run Try.prog W = .ok (.string ⟨#[UInt8.ofNat x.toNat]⟩) W := by
  rw [run_convert_bytes_string _ 37 9 5 _ _ _ Try.underlying37 Try.underlying5 Try.underlying9, run_bytesToString _ _ 1 1 [x] (by go_simp)]
  rfl
def dgS (r : Nat) : ByteArray := ⟨#[UInt8.ofNat (48 + (r : Int)).toNat]⟩
theorem conv_dig (W : World) (b r : Nat) (h : W.cell? ⟨b, 0, none⟩ = some (.int .u8 (48 + (r : Int)))) : (convert 37 9 (.slice (some ⟨b, 0, none⟩) 1 1)).run Try.prog W = .ok (.string (dgS r)) W := conv_cell W b _ h
theorem dgS_bytes (r : Nat) (h : r < 10) : bytesOf (dgS r) = [48 + (r : Int)] := bytesOf_one _ (by omega) (by omega)
set_option maxHeartbeats 1000000 in
set_option maxRecDepth 20000 in
theorem digits_any : ∀ n : Nat, n < 1000000000 → ∀ w : World, Calls Try.prog 45 #[.int .i64 n] w fun e w' => (∃ s, e = .returned (.string s) ∧ bytesOf s = dgL n) ∧ Below w.heap.size w w' := by
  intro n
  induction n using Nat.strongRecOn with
  | ind n ih =>
    intro hn w
    by_cases h : n < 10
    · have hcv := conv_one w (48 + (n : Int))
      have HD : Hid (dgL n = [48 + (n : Int)]) := dgL_lt h
      have hb : 48 + (n : Int) ≤ 255 := by omega
      have h' : (n : Int) < 10 := by omega
      clear ih
      go_enter Try.func45, Try.ntmps45
      go_wp2
      go_ret
      exact ⟨⟨_, rfl, by rw [HD.out]; exact bytesOf_one _ (by omega) hb⟩, (Below.refl _ _).alloc (Nat.le_refl _) _⟩
    · have HD : Hid (dgL n = dgL (n / 10) ++ [48 + ((n % 10 : Nat) : Int)]) := dgL_ge h
      have C := ih (n / 10) (by omega) (by omega)
      have e1 : (n : Int).tdiv 10 = ((n / 10 : Nat) : Int) := by rw [Int.tdiv_eq_ediv_of_nonneg (by omega)]; omega
      have e2 : (n : Int).tmod 10 = ((n % 10 : Nat) : Int) := by rw [Int.tmod_eq_emod_of_nonneg (by omega)]; omega
      have h' : ¬ (n : Int) < 10 := by omega
      obtain ⟨q, hq⟩ : ∃ q, q = n / 10 := ⟨_, rfl⟩
      obtain ⟨r, hr⟩ : ∃ r, r = n % 10 := ⟨_, rfl⟩
      have hr10 : r < 10 := by omega
      rw [← hq] at C e1 HD
      rw [← hr] at e2 HD
      have HL : Hid ((dgL q).length ≤ 9) := dgL_len 8 q (by simp; omega)
      have hq9 : q < 1000000000 := by omega
      have x1 : IntKind.i64.wrap (q : Int) = q := by rw [IntKind.wrap_i64]; omega
      have x2 : IntKind.i64.wrap (48 + (r : Int)) = 48 + r := by rw [IntKind.wrap_i64]; omega
      have x3 : IntKind.u8.wrap (48 + (r : Int)) = 48 + r := by rw [IntKind.wrap_u8]; omega
      have hcv := conv_dig (w.alloc (.cells #[.int .u8 (48 + (r : Int))] 5)).drew w.heap.size r (by go_simp)
      have C' : ∀ W : World, Calls Try.prog 45 #[.int .i64 q] W fun e w' => (∃ s, e = .returned (.string s) ∧ Hid (bytesOf s = dgL q) ∧ s.size ≤ 9) ∧ Below W.heap.size W w' := fun W => (C W).mono fun e w' ⟨⟨s, h1, h2⟩, h3⟩ => ⟨⟨s, h1, h2, by rw [← bytesOf_len, h2]; exact HL.out⟩, h3⟩
      have hd1 : (dgS r).size = 1 := rfl
      clear ih hq hr h hn C
      go_enter Try.func45, Try.ntmps45
      go_wp2
      go_region_with (go_at_call 45; refine (C' _).mono ?_; rintro e w1 ⟨⟨s, rfl, hs, hz⟩, B1⟩; have hcw := conv_dig (w1.alloc (.cells #[.int .u8 (48 + (r : Int))] 5)) w1.heap.size r (by go_simp); (first | (have hlt : w.heap.size < w1.heap.size := (by have := B1.size; simp at this; omega); have hcx := conv_dig w1 w.heap.size r ((B1.cell (p := ⟨w.heap.size, 0, none⟩) (by show w.heap.size < _; simp)).trans (by go_simp))) | skip))
      all_goals
        go_wp2
        go_ret
        have B2 : Below w.heap.size w w1 := by
          first
            | exact (Below.refl _ w).drew.trans B1
            | exact (((Below.refl _ w).alloc (Nat.le_refl _) _).drew).trans (B1.mono (by simp))
        refine ⟨⟨_, rfl, by rw [bytesOf_app, hs.out, dgS_bytes r hr10, HD.out]⟩, ?_⟩
        with_reducible repeat first | exact B2 | apply Below.drew | (refine Below.alloc ?_ B2.size _)
end Go.Proofs.Ytbgilndohccicab
namespace Go.Proofs.Ytbgilndohccicab
open Go.RowKit

theorem wsum_congr {cs : Sch} {K : Nat → Int} {T S : Nat → Bool} : ∀ n, (∀ o, o < n → T o = S o) → wsum cs K T n = wsum cs K S n := by
  intro n
  induction n with
  | zero => intro _; rfl
  | succ n ih => intro h; rw [wsum_succ, wsum_succ, ih (fun o ho => h o (by omega)), h n (by omega)]
/-- The words of all that are there. -/
noncomputable def cntG (G : GG) : Nat := wsum csL (dh G).K (fun o => @decide (inG G o) (Classical.propDecidable _)) G.n
theorem cntG_is {G : GG} {T : Nat → Bool} (hT : ∀ o, o < G.n → (T o = true ↔ inG G o)) : wsum csL (dh G).K T G.n = cntG G := by
  unfold cntG
  refine wsum_congr _ fun o ho => ?_
  by_cases h : inG G o
  · rw [(hT o ho).2 h]; simp [h]
  · have : T o = false := by
      cases hq : T o with
      | false => rfl
      | true => exact absurd ((hT o ho).1 hq) h
    rw [this]; simp [h]
/-- An object more. -/
def appN (G : GG) (l : Int) : GG := ⟨G.R, set1 G.c G.n l, set1 G.v G.n 0, set1 G.a G.n (-1), set1 G.b G.n (-1), G.n + 1⟩
def appG (G : GG) (l : Int) (i : Nat) : GG := { appN G l with R := set1 G.R i G.n }
theorem node_old (G : GG) (l : Int) {j : Nat} (h : j < G.n) : nodeV (appN G l) j = nodeV G j := by
  show [Value.int .u8 (set1 G.c G.n l j), .int .i64 (set1 G.v G.n 0 j), .int .i64 (set1 G.a G.n (-1) j), .int .i64 (set1 G.b G.n (-1) j)] = _
  rw [set1_ne _ _ (by omega), set1_ne _ _ (by omega), set1_ne _ _ (by omega), set1_ne _ _ (by omega)]; rfl
theorem node_new (G : GG) (l : Int) : nodeV (appN G l) G.n = [.int .u8 l, .int .i64 0, .int .i64 (-1), .int .i64 (-1)] := by
  show [Value.int .u8 (set1 G.c G.n l G.n), .int .i64 (set1 G.v G.n 0 G.n), .int .i64 (set1 G.a G.n (-1) G.n), .int .i64 (set1 G.b G.n (-1) G.n)] = _
  rw [set1_self, set1_self, set1_self, set1_self]
theorem flat_app (G : GG) (l : Int) : flatN (appN G l) = flatN G ++ [.int .u8 l, .int .i64 0, .int .i64 (-1), .int .i64 (-1)] := by
  unfold flatN
  show (List.range (G.n + 1)).flatMap (nodeV (appN G l)) = _
  rw [List.range_succ, List.flatMap_append, flatR_congr (fun i hi => node_old G l hi)]
  congr 1
  simp [node_new]
theorem gw_app {G : GG} (h : GW G) {l : Int} (hl : l = 78 ∨ l = 81) {i : Nat} : GW (appG G l i) := by
  have key : ∀ (f : Nat → Int) (x : Int) j, j < G.n + 1 → (∀ j, j < G.n → -1 ≤ f j ∧ f j < G.n) → -1 ≤ set1 f G.n (-1) j ∧ set1 f G.n (-1) j < (G.n + 1 : Nat) := by
    intro f x j hj hf
    by_cases e : j = G.n
    · subst e; rw [set1_self]; omega
    · rw [set1_ne _ _ e]; have := hf j (by omega); omega
  refine ⟨fun j hj => ?_, fun j hj => key G.a 0 j hj h.a, fun j hj => key G.b 0 j hj h.b, fun j hj => ?_, fun j hj => ?_⟩
  · show -1 ≤ set1 G.R i G.n j ∧ set1 G.R i G.n j < (G.n + 1 : Nat)
    by_cases e : j = i
    · subst e; rw [set1_self]; omega
    · rw [set1_ne _ _ e]; have := h.R j hj; omega
  · show set1 G.c G.n l j = 78 ∨ (set1 G.c G.n l j = 81 ∧ set1 G.b G.n (-1) j = -1)
    by_cases e : j = G.n
    · subst e; rw [set1_self, set1_self]; rcases hl with rfl | rfl
      · exact .inl rfl
      · exact .inr ⟨rfl, rfl⟩
    · have hj' : j < G.n := by have : j < G.n + 1 := hj; omega
      rw [set1_ne _ _ e, set1_ne _ _ e]; exact h.c j hj'
  · show -9223372036854775808 ≤ set1 G.v G.n 0 j ∧ set1 G.v G.n 0 j ≤ 9223372036854775807
    by_cases e : j = G.n
    · subst e; rw [set1_self]; omega
    · have hj' : j < G.n := by have : j < G.n + 1 := hj; omega
      rw [set1_ne _ _ e]; exact h.v j hj'
theorem any_L {l : Int} (hl : l = 78 ∨ l = 81) : (csL.any fun x => x.1 == l) = true := by rcases hl with rfl | rfl <;> rfl
theorem pw_mk {p : PH} (h : Pw p) {a i : Nat} (c : Int) (ha : a < 201) : Pw (mkP p a c i) := by
  refine ⟨fun k hk => ?_, fun x j hx hj => ?_⟩
  · show set1 p.R i a k < 201
    by_cases e : k = i
    · subst e; rw [set1_self]; exact ha
    · rw [set1_ne _ _ e]; exact h.root k hk
  · show (if x = a then 0 else p.F x j) < 201
    split
    · omega
    · exact h.ref x j hx hj
theorem sim_app {p : PH} {G : GG} (h : Sim csL p (dh G)) {a i : Nat} {l : Int} (hl : l = 78 ∨ l = 81) (ha : ¬ p.in a) (h0 : 0 < a) (h1 : a < 201) : Sim csL (mkP p a l i) (dh (appG G l i)) := by
  obtain ⟨M, hM⟩ := h
  refine hM.make csL_6 a i l ha h0 h1 (any_L hl) _ _ rfl rfl (fun x j hx => if_neg hx) (fun j _ => if_pos rfl) (fun x j hx => if_neg hx) (fun j _ => if_pos rfl) ?_ (fun y h0 h1 => ?_) ?_ (fun y j h0 h1 => ?_) (fun j => ?_) rfl
  · funext j
    show (set1 G.R i G.n j + 1).toNat = set1 (fun i => (G.R i + 1).toNat) i (G.n + 1) j
    by_cases e : j = i
    · subst e; rw [set1_self, set1_self]; omega
    · rw [set1_ne _ _ e, set1_ne _ _ e]
  · have h1' : y ≤ G.n := h1
    show set1 G.c G.n l (y - 1) = G.c (y - 1)
    rw [set1_ne _ _ (by omega)]
  · show set1 G.c G.n l (G.n + 1 - 1) = l
    rw [Nat.add_sub_cancel, set1_self]
  · have h1' : y ≤ G.n := h1
    have hy : y - 1 ≠ G.n := by omega
    show (if j = 0 then set1 G.v G.n 0 (y - 1) else if j = 1 then set1 G.a G.n (-1) (y - 1) + 1 else if j = 2 then set1 G.b G.n (-1) (y - 1) + 1 else 0) = (if j = 0 then G.v (y - 1) else if j = 1 then G.a (y - 1) + 1 else if j = 2 then G.b (y - 1) + 1 else 0)
    rw [set1_ne _ _ hy, set1_ne _ _ hy, set1_ne _ _ hy]
  · show (if j = 0 then set1 G.v G.n 0 (G.n + 1 - 1) else if j = 1 then set1 G.a G.n (-1) (G.n + 1 - 1) + 1 else if j = 2 then set1 G.b G.n (-1) (G.n + 1 - 1) + 1 else 0) = 0
    rw [Nat.add_sub_cancel, set1_self, set1_self, set1_self]
    split
    · rfl
    · split
      · rfl
      · split <;> rfl
theorem gwlist {p : PH} {G : GG} (h : Sim csL p (dh G)) (hw : Wf csL (dh G)) (L : List Nat) (T : Nat → Bool) (hd : L.Nodup) (hm : ∀ a, a ∈ L ↔ p.in a) (hT : ∀ o, o < G.n → (T o = true ↔ inG G o)) : wlist csL p.K L = wsum csL (dh G).K T G.n := by
  obtain ⟨M, hB⟩ := h
  exact hB.words csL_6 L (lst T G.n) hd (lst_nodup T G.n) hm (lst_mem hw hT)
/-- What create makes of the graph. -/
noncomputable def crG (sz : Int) (G : GG) (root : Nat) (l k : Int) : GG := if sz < (cntG G : Int) + k then G else appG G l root
def GMkPost (P : Nat → Prop) (gb lo hi hb : Nat) (sv : SV) (vs : List (Int × SV)) (sz : Int) (nv : Value) (p : PH) (G : GG) (root : Nat) (l k : Int) (W : Nat) (w : World) (e : Ending) (w' : World) : Prop := Prot P w w' ∧
  ((sz < (W : Int) + k ∧ e = .returned (.int .i64 10) ∧ LK w' P gb lo hi hb sv vs sz nv p G) ∨
   (¬ sz < (W : Int) + k ∧ e = .returned (.int .i64 0) ∧ ∃ p', HP w' hb sv sz p'.R p'.K p'.N p'.F ∧ ClsIn w' lo hi (.slice sv.a sv.n sv.c) vs csL ∧ GP w' gb hb sz nv G.R ∧ ND w' (hb + 1) nv G ∧ Pw p' ∧ Sim csL p' (dh (appG G l root)) ∧ ∀ j, p'.N 201 j = p.N 201 j))
theorem gmake_any {P : Nat → Prop} {gb lo hi hb : Nat} {sv : SV} {vs : List (Int × SV)} {sz : Int} {nv : Value} {p : PH} {G : GG} {w : World} (h : LK w P gb lo hi hb sv vs sz nv p G) (root : Nat) (hr : root < 8) (l k : Int) (hl : (l = 78 ∧ k = 4) ∨ (l = 81 ∧ k = 3)) (hn : G.n ≤ 7036874417560) (T : Nat → Bool) (hT : ∀ o, o < G.n → (T o = true ↔ inG G o)) (W : Nat) (hW : W = wsum csL (dh G).K T G.n) :
    Calls Try.prog 14 #[.pointer (some ⟨hb, 0, none⟩), .int .i64 root, .int .u8 l] w (GMkPost P gb lo hi hb sv vs sz nv p G root l k W w) := by
  refine (pmake_any hb sv sz p lo vs csL w h.hp h.cl.cls h.pw csL_6 h.s0 h.s1 root l).mono ?_
  rintro e w' ⟨L, hd, hm, he, g, hz1, hz0⟩
  have hl' : l = 78 ∨ l = 81 := hl.elim (fun h => .inl h.1) (fun h => .inr h.1)
  have hw : (wof csL l : Int) = k := by rcases hl with ⟨rfl, rfl⟩ | ⟨rfl, rfl⟩ <;> rfl
  have hE : pmE csL sz root l (wlist csL p.K L) = if sz < (W : Int) + k then 10 else 0 := by
    unfold pmE
    rw [rtB_of hr, if_neg (by decide), any_L hl', if_neg (by decide), gwlist h.sim (h.gw.wf hn) L T hd hm hT, ← hW, hw]
  rw [hE] at he hz1 hz0
  by_cases hs : sz < (W : Int) + k
  · rw [if_pos hs] at he hz1
    obtain ⟨L1, B1⟩ := h.kept (hz1 (by decide)) g
    exact ⟨B1, .inl ⟨hs, he, L1⟩⟩
  · rw [if_neg hs] at he hz0
    obtain ⟨a, a0, a1, ha, hpa⟩ := hz0 rfl
    rw [Int.toNat_natCast] at hpa
    obtain ⟨P1, P2, P3, P4, P5, P6⟩ := h.heap hpa g (pw_mk h.pw l a1)
    exact ⟨P6, .inr ⟨hs, he, mkP p a l root, P1, P2, P3, P4, P5, sim_app h.sim hl' ha a0 a1, fun j => if_neg (by omega)⟩⟩
end Go.Proofs.Ytbgilndohccicab
namespace Go.Proofs.Ytbgilndohccicab
open Go.RowKit

theorem cap_fits {n : Nat} (h0 : 256 ≤ n) (h : n + 1 ≤ 7036874417560) : Builtin.nextslicecap (n + 1) n * 32 ≤ 281474976710656 := by
  unfold Builtin.nextslicecap
  rw [if_neg (by omega), if_neg (by omega), show Builtin.growBy (n + 1) 4 n = if n ≥ n + 1 then n else Builtin.growBy (n + 1) 3 (n + (n + 768) / 4) from rfl, if_neg (by omega)]
  obtain ⟨c, hc⟩ : ∃ c, c = n + (n + 768) / 4 := ⟨_, rfl⟩
  rw [← hc, show Builtin.growBy (n + 1) 3 c = if c ≥ n + 1 then c else Builtin.growBy (n + 1) 2 (c + (c + 768) / 4) from rfl, if_pos (by omega)]
  omega
/-- A node more, also where the list is long. -/
theorem run_append_node {P : Program} (w : World) (base : Nat) (t ty e : TypeId) (i : TypeInfo) (z : Value) (ht : P.underlying t = some (.slice e)) (hi : P.info? e = some i) (hz : i.zero = some z) (hsize : i.size = 4) (hby : i.bytes = 32) (hzs : z.cells.size = 4) (v : Value) (n : Nat) (xs : List Value) (hown : w.ownsRow base e 4 v n xs) (a : Addr) (c : Nat) (news : List Value) (hl : news.length = 4) (hnews : ∀ j u, news[j]? = some u → w.cell? (a.add j) = some u) (h1 : ∀ u ∈ news, u.oneCell' = true) (hn : n + 1 ≤ 7036874417560) (hbase : base ≤ w.heap.size) :
    ∃ v' w', (Builtin.append_ #[t, t] ty #[v, .slice (some a) 1 c]).run P w = .ok v' w' ∧ w'.ownsRow base e 4 v' (n + 1) (xs ++ news) ∧ w.grownBy w' v.ownBlock ∧ (v'.ownBlock = v.ownBlock ∨ v'.ownBlock = some w.heap.size) := by
  by_cases hb : n + 1 ≤ 4398046511104
  · obtain ⟨v', w', q1, q2, q3, _, q5⟩ := run_append_own_at (P := P) w base t ty e i z 4 32 ht hi hz hsize hby hzs (by decide) v n xs hown a 1 c news (by rw [hl]) hnews h1 (by unfold maxLen; omega) (by omega) hbase
    exact ⟨v', w', q1, q2, q3, q5⟩
  · rcases hown.2 with ⟨_, h0⟩ | ⟨g, cap, cur, hv, hbg, hg, hnc, hcm, hcs, htk⟩
    · omega
    · have hx := hown.1
      have hx' : (xs ++ news).length = (n + 1) * 4 := by rw [List.length_append, hx, hl]; omega
      by_cases hr : n + 1 ≤ cap
      · subst hv
        have R := run_append_room (P := P) w t ty e i ht hi g n cap cur hg a 1 c news (by rw [hl, hsize]) hnews h1 hr (by rw [hl, hsize, hcs]; omega)
        rw [hsize, htk] at R
        refine ⟨_, _, R, ⟨hx', .inr ⟨g, cap, _, rfl, hbg, setRow_heap w g cur _ e _ hg, hr, hcm, ?_, ?_⟩⟩, ⟨rfl, rfl, rfl, by simp, fun k _ hk => setRow_other w g k _ (fun e => hk (by rw [e]; rfl))⟩, .inl rfl⟩
        · rw [List.size_toArray, List.length_append, hx', List.length_drop, hl, Array.length_toList, hcs]; omega
        · show ((xs ++ news) ++ cur.toList.drop (n * 4 + news.length)).take ((n + 1) * 4) = xs ++ news
          rw [← hx']; exact List.take_left
      · obtain rfl : cap = n := by omega
        subst hv
        have R := run_append_grow (P := P) w t ty e i z ht hi hz ⟨g, 0, none⟩ cap cap xs (by rw [hx, hsize]) (World.ownsRow.cells hown rfl) a 1 c news (by rw [hl, hsize]) hnews (by omega) (by omega) (by rw [hby]; exact cap_fits (by omega) hn)
        have hm : cap + 1 ≤ maxLen := by unfold maxLen; omega
        refine ⟨_, _, R, ⟨hx', .inr ⟨w.heap.size, _, _, rfl, hbase, heap_alloc_new w.drew _, grownCap_ge w (cap + 1) cap e, grownCap_le_maxLen w (cap + 1) cap e hm, ?_, ?_⟩⟩, ⟨rfl, rfl, rfl, by simp, fun k hk _ => (by first | exact heap_alloc_old w.drew _ hk | exact heap_alloc_old w.drew _ k hk)⟩, .inr rfl⟩
        · have := grownCap_ge w (cap + 1) cap e
          rw [Array.size_append, Array.size_append, List.size_toArray, List.size_toArray, size_zeroCells, hzs, hx, hl]; omega
        · rw [Array.toList_append, Array.toList_append, ← hx']
          exact List.take_left
theorem wpList_append_node {P : Program} {w : World} {ops : Array Oper} {rest : List Oper} {o : Oper} {a : Act} {Q : Exit → Act → World → Prop} (hgd : o.guard = none) (s x : Operand) (t : TypeId)
    (ho : o.op = .call { callee := .builtin .append, args := #[s, x], argTypes := #[t, t] })
    (base : Nat) (e : TypeId) (i : TypeInfo) (z : Value) (ht : P.underlying t = some (.slice e)) (hi : P.info? e = some i) (hz : i.zero = some z) (hsize : i.size = 4) (hby : i.bytes = 32) (hzs : z.cells.size = 4)
    (v : Value) (n : Nat) (xs : List Value) (hs : a.eval s = v) (hown : w.ownsRow base e 4 v n xs)
    (ad : Addr) (c : Nat) (news : List Value) (hx : a.eval x = .slice (some ad) 1 c) (hl : news.length = 4) (hnews : ∀ j u, news[j]? = some u → w.cell? (ad.add j) = some u) (h1 : ∀ u ∈ news, u.oneCell' = true) (hn : n + 1 ≤ 7036874417560) (hbase : base ≤ w.heap.size)
    (h : ∀ v' w', w'.ownsRow base e 4 v' (n + 1) (xs ++ news) → w.grownBy w' v.ownBlock → (v'.ownBlock = v.ownBlock ∨ v'.ownBlock = some w.heap.size) → wpList P ops Q rest (a.put o.dst v') w') :
    wpList P ops Q (o :: rest) a w := by
  obtain ⟨v', w', hr, q1, q2, q3⟩ := run_append_node (P := P) w base t o.type e i z ht hi hz hsize hby hzs v n xs hown ad c news hl hnews h1 hn hbase
  refine wpList_plain hgd fun K hK => ?_
  unfold Oper.wp execOp
  simp only [ho, resolve, invoke, builtin, Sem.run_bind, Sem.run_pure, Result.andThen_ok, List.map_toArray, List.map_cons, List.map_nil, hs, hx, hr]
  exact hK _ _ (h v' w' q1 q2 q3)
end Go.Proofs.Ytbgilndohccicab
