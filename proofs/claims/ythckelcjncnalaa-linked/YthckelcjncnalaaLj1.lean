import Derived.Test.YthckelcjncnalaaLi9
namespace Go.Proofs.Ythckelcjncnalaa
open Go.RowKit

def pickI (c n : Int) : Int := (if c < 0 then -(c + 1) else c) % n
theorem pickI_bd (c n : Int) (h : 0 < n) : 0 ≤ pickI c n ∧ pickI c n < n := ⟨Int.emod_nonneg _ (by omega), Int.emod_lt_of_pos _ h⟩
set_option maxHeartbeats 400000 in
theorem pick_any (c n : Int) (w : World) (hn : 0 < n) (hn' : n ≤ 9223372036854775807) (h1 : -9223372036854775808 ≤ c) (h2 : c ≤ 9223372036854775807) :
    Calls Try.prog 23 #[.int .i64 c, .int .i64 n] w fun e w' => e = .returned (.int .i64 (pickI c n)) ∧ w' = w := by
  by_cases h : c < 0
  · have e : pickI c n = -((c + 1).tmod n) := by
      rw [← Int.neg_tmod, Int.tmod_eq_emod_of_nonneg (by omega : 0 ≤ -(c + 1))]; simp [pickI, h]
    rw [e]
    go_enter Try.func23, Try.ntmps23
    go_wp2
    go_ret
    exact ⟨rfl, rfl⟩
  · have e : pickI c n = c % n := by simp [pickI, h]
    rw [e]
    go_enter Try.func23, Try.ntmps23
    go_wp2
    go_ret
    exact ⟨rfl, rfl⟩
/-- An object more. -/
def appN (G : GG) (l : Int) : GG := ⟨G.R, set1 G.c G.n l, set1 G.v G.n 0, set1 G.a G.n (-1), set1 G.b G.n (-1), G.n + 1⟩
def appG (G : GG) (l : Int) (i : Nat) : GG := { appN G l with R := set1 G.R i G.n }
theorem node_old (G : GG) (l : Int) {j : Nat} (h : j < G.n) : nodeV (appN G l) j = nodeV G j := by
  show [Value.int .u8 (set1 G.c G.n l j), .int .i64 (set1 G.v G.n 0 j), .int .i64 (set1 G.a G.n (-1) j), .int .i64 (set1 G.b G.n (-1) j)] = _
  rw [set1_ne _ _ (by omega), set1_ne _ _ (by omega), set1_ne _ _ (by omega), set1_ne _ _ (by omega)]; rfl
theorem node_new (G : GG) (l : Int) : nodeV (appN G l) G.n = [.int .u8 l, .int .i64 0, .int .i64 (-1), .int .i64 (-1)] := by
  show [Value.int .u8 (set1 G.c G.n l G.n), .int .i64 (set1 G.v G.n 0 G.n), .int .i64 (set1 G.a G.n (-1) G.n), .int .i64 (set1 G.b G.n (-1) G.n)] = _
  rw [set1_self, set1_self, set1_self, set1_self]
theorem flat_app (G : GG) (l : Int) : flatN (appN G l) = flatN G ++ [.int .u8 l, .int .i64 0, .int .i64 (-1), .int .i64 (-1)] := by
  unfold flatN
  show (List.range (G.n + 1)).flatMap (nodeV (appN G l)) = _
  rw [List.range_succ, List.flatMap_append, flatR_congr (fun i hi => node_old G l hi)]
  congr 1
  simp [node_new]
theorem gw_app {G : GG} (h : GW G) {l : Int} (hl : l = 78 ∨ l = 81) {i : Nat} : GW (appG G l i) := by
  have key : ∀ (f : Nat → Int) (x : Int) j, j < G.n + 1 → (∀ j, j < G.n → -1 ≤ f j ∧ f j < G.n) → -1 ≤ set1 f G.n (-1) j ∧ set1 f G.n (-1) j < (G.n + 1 : Nat) := by
    intro f x j hj hf
    by_cases e : j = G.n
    · subst e; rw [set1_self]; omega
    · rw [set1_ne _ _ e]; have := hf j (by omega); omega
  refine ⟨fun j hj => ?_, fun j hj => key G.a 0 j hj h.a, fun j hj => key G.b 0 j hj h.b, fun j hj => ?_, fun j hj => ?_⟩
  · show -1 ≤ set1 G.R i G.n j ∧ set1 G.R i G.n j < (G.n + 1 : Nat)
    by_cases e : j = i
    · subst e; rw [set1_self]; omega
    · rw [set1_ne _ _ e]; have := h.R j hj; omega
  · show set1 G.c G.n l j = 78 ∨ (set1 G.c G.n l j = 81 ∧ set1 G.b G.n (-1) j = -1)
    by_cases e : j = G.n
    · subst e; rw [set1_self, set1_self]; rcases hl with rfl | rfl
      · exact .inl rfl
      · exact .inr ⟨rfl, rfl⟩
    · have hj' : j < G.n := by have : j < G.n + 1 := hj; omega
      rw [set1_ne _ _ e, set1_ne _ _ e]; exact h.c j hj'
  · show -9223372036854775808 ≤ set1 G.v G.n 0 j ∧ set1 G.v G.n 0 j ≤ 9223372036854775807
    by_cases e : j = G.n
    · subst e; rw [set1_self]; omega
    · have hj' : j < G.n := by have : j < G.n + 1 := hj; omega
      rw [set1_ne _ _ e]; exact h.v j hj'
theorem any_L {l : Int} (hl : l = 78 ∨ l = 81) : (csL.any fun x => x.1 == l) = true := by rcases hl with rfl | rfl <;> rfl
theorem pw_mk {p : PH} (h : Pw p) {a i : Nat} (c : Int) (ha : a < 201) : Pw (mkP p a c i) := by
  refine ⟨fun k hk => ?_, fun x j hx hj => ?_⟩
  · show set1 p.R i a k < 201
    by_cases e : k = i
    · subst e; rw [set1_self]; exact ha
    · rw [set1_ne _ _ e]; exact h.root k hk
  · show (if x = a then 0 else p.F x j) < 201
    split
    · omega
    · exact h.ref x j hx hj
theorem sim_app {p : PH} {G : GG} (h : Sim csL p (dh G)) {a i : Nat} {l : Int} (hl : l = 78 ∨ l = 81) (ha : ¬ p.in a) (h0 : 0 < a) (h1 : a < 201) : Sim csL (mkP p a l i) (dh (appG G l i)) := by
  obtain ⟨M, hM⟩ := h
  refine hM.make csL_6 a i l ha h0 h1 (any_L hl) _ _ rfl rfl (fun x j hx => if_neg hx) (fun j _ => if_pos rfl) (fun x j hx => if_neg hx) (fun j _ => if_pos rfl) ?_ (fun y h0 h1 => ?_) ?_ (fun y j h0 h1 => ?_) (fun j => ?_) rfl
  · funext j
    show (set1 G.R i G.n j + 1).toNat = set1 (fun i => (G.R i + 1).toNat) i (G.n + 1) j
    by_cases e : j = i
    · subst e; rw [set1_self, set1_self]; omega
    · rw [set1_ne _ _ e, set1_ne _ _ e]
  · have h1' : y ≤ G.n := h1
    show set1 G.c G.n l (y - 1) = G.c (y - 1)
    rw [set1_ne _ _ (by omega)]
  · show set1 G.c G.n l (G.n + 1 - 1) = l
    rw [Nat.add_sub_cancel, set1_self]
  · have h1' : y ≤ G.n := h1
    have hy : y - 1 ≠ G.n := by omega
    show (if j = 0 then set1 G.v G.n 0 (y - 1) else if j = 1 then set1 G.a G.n (-1) (y - 1) + 1 else if j = 2 then set1 G.b G.n (-1) (y - 1) + 1 else 0) = (if j = 0 then G.v (y - 1) else if j = 1 then G.a (y - 1) + 1 else if j = 2 then G.b (y - 1) + 1 else 0)
    rw [set1_ne _ _ hy, set1_ne _ _ hy, set1_ne _ _ hy]
  · show (if j = 0 then set1 G.v G.n 0 (G.n + 1 - 1) else if j = 1 then set1 G.a G.n (-1) (G.n + 1 - 1) + 1 else if j = 2 then set1 G.b G.n (-1) (G.n + 1 - 1) + 1 else 0) = 0
    rw [Nat.add_sub_cancel, set1_self, set1_self, set1_self]
    split
    · rfl
    · split
      · rfl
      · split <;> rfl
theorem gwlist {p : PH} {G : GG} (h : Sim csL p (dh G)) (hw : Wf csL (dh G)) (L : List Nat) (T : Nat → Bool) (hd : L.Nodup) (hm : ∀ a, a ∈ L ↔ p.in a) (hT : ∀ o, o < G.n → (T o = true ↔ inG G o)) : wlist csL p.K L = wsum csL (dh G).K T G.n := by
  obtain ⟨M, hB⟩ := h
  exact hB.words csL_6 L (lst T G.n) hd (lst_nodup T G.n) hm (lst_mem hw hT)
/-- Make, on both sides. -/
def MkPost (B gb lo hi hb : Nat) (sv : SV) (vs : List (Int × SV)) (sz : Int) (nv : Value) (p : PH) (G : GG) (root : Nat) (l k : Int) (W : Nat) (w : World) (e : Ending) (w' : World) : Prop := Below B w w' ∧
  ((sz < (W : Int) + k ∧ e = .returned (.int .i64 10) ∧ LK w' B gb lo hi hb sv vs sz nv p G) ∨
   (¬ sz < (W : Int) + k ∧ e = .returned (.int .i64 0) ∧ ∃ p', HP w' hb sv sz p'.R p'.K p'.N p'.F ∧ ClsIn w' lo hi (.slice sv.a sv.n sv.c) vs csL ∧ GP w' gb hb sz nv G.R ∧ ND w' (hb + 1) nv G ∧ Pw p' ∧ Sim csL p' (dh (appG G l root))))
theorem gmake_any {B gb lo hi hb : Nat} {sv : SV} {vs : List (Int × SV)} {sz : Int} {nv : Value} {p : PH} {G : GG} {w : World} (h : LK w B gb lo hi hb sv vs sz nv p G) (root : Nat) (hr : root < 8) (l k : Int) (hl : (l = 78 ∧ k = 4) ∨ (l = 81 ∧ k = 3)) (hn : G.n ≤ 4398046511104) (T : Nat → Bool) (hT : ∀ o, o < G.n → (T o = true ↔ inG G o)) (W : Nat) (hW : W = wsum csL (dh G).K T G.n) :
    Calls Try.prog 16 #[.pointer (some ⟨hb, 0, none⟩), .int .i64 root, .int .u8 l] w (MkPost B gb lo hi hb sv vs sz nv p G root l k W w) := by
  refine (pmake_any hb sv sz p lo vs csL w h.hp h.cl.cls h.pw csL_6 h.s0 h.s1 root l).mono ?_
  rintro e w' ⟨L, hd, hm, he, g, hz1, hz0⟩
  have hl' : l = 78 ∨ l = 81 := hl.elim (fun h => .inl h.1) (fun h => .inr h.1)
  have hw : (wof csL l : Int) = k := by rcases hl with ⟨rfl, rfl⟩ | ⟨rfl, rfl⟩ <;> rfl
  have hE : pmE csL sz root l (wlist csL p.K L) = if sz < (W : Int) + k then 10 else 0 := by
    unfold pmE
    rw [rtB_of hr, if_neg (by decide), any_L hl', if_neg (by decide), gwlist h.sim (h.gw.wf hn) L T hd hm hT, ← hW, hw]
  rw [hE] at he hz1 hz0
  by_cases hs : sz < (W : Int) + k
  · rw [if_pos hs] at he hz1
    obtain ⟨L1, B1⟩ := h.kept (hz1 (by decide)) g
    exact ⟨B1, .inl ⟨hs, he, L1⟩⟩
  · rw [if_neg hs] at he hz0
    obtain ⟨a, a0, a1, ha, hpa⟩ := hz0 rfl
    rw [Int.toNat_natCast] at hpa
    obtain ⟨P1, P2, P3, P4, P5, P6⟩ := h.heap hpa g (pw_mk h.pw l a1)
    exact ⟨P6, .inr ⟨hs, he, mkP p a l root, P1, P2, P3, P4, P5, sim_app h.sim hl' ha a0 a1⟩⟩
end Go.Proofs.Ythckelcjncnalaa
