import Derived.Test.YtbgilndohccicaaGreatDoorRh4
import Derived.Deep.RegionLaw
namespace Go.Proofs.YtbgilndohccicaaGreatDoor
open Go.RowKit

/-- append to a row of one's own: the block is the old one, or a new one. -/
theorem app_run {P : Program} (w : World) (t ty e : TypeId) (i : TypeInfo) (z : Value) (size bytes : Nat) (ht : P.underlying t = some (.slice e)) (hi : P.info? e = some i) (hz : i.zero = some z)
    (hsize : i.size = size) (hby : i.bytes = bytes) (hzs : z.cells.size = size) (hsz : 0 < size)
    (v : Value) (n : Nat) (xs : List Value) (hown : w.ownsRow 0 e size v n xs)
    (a : Addr) (m c : Nat) (news : List Value) (hl : news.length = m * size) (hnews : ∀ j u, news[j]? = some u → w.cell? (a.add j) = some u) (h1 : ∀ u ∈ news, u.oneCell' = true)
    (h63 : n + m ≤ maxLen) (hbytes : (n + m) * bytes ≤ 140737488355328) :
    ∃ v' w', (Builtin.append_ #[t, t] ty #[v, .slice (some a) m c]).run P w = .ok v' w' ∧ w'.ownsRow 0 e size v' (n + m) (xs ++ news) ∧ w.grownBy w' v.ownBlock ∧ (∀ g, v'.ownBlock = some g → v.ownBlock = some g ∨ w.heap.size ≤ g) := by
  obtain ⟨v', w', hr, ho, hg, _⟩ := run_append_own (P := P) w 0 t ty e i z size bytes ht hi hz hsize hby hzs hsz v n xs hown a m c news hl hnews h1 h63 hbytes (Nat.zero_le _)
  refine ⟨v', w', hr, ho, hg, ?_⟩
  rcases hown.2 with ⟨rfl, rfl⟩ | ⟨g, cap, cur, rfl, _, hgg, hnc, hcm, hcs, htk⟩
  · obtain ⟨v2, w2, hr2, ho2, _, _⟩ := run_append_own (P := P) w w.heap.size t ty e i z size bytes ht hi hz hsize hby hzs hsz (.slice none 0 0) 0 xs (by
      have : xs = [] := by have := hown.1; simpa using this
      rw [this]; exact World.ownsRow_nil _ _ _ _) a m c news hl hnews h1 h63 hbytes (Nat.le_refl _)
    rw [hr] at hr2
    cases hr2
    intro g hg'
    exact .inr (World.ownsRow.lt ho2 g hg').1
  · by_cases hroom : n + m ≤ cap
    · have hr2 := run_append_room_cells (P := P) w t ty e i ht hi g 0 n cap a m c news (by rw [hsize]; exact hl) hnews h1 hroom
        (fun j hj => by
          rw [cell_of_row w g _ cur e _ hgg]
          have : 0 + n * i.size + j < cur.size := by
            rw [hcs, hsize]
            have h2 : (n + m) * size ≤ cap * size := Nat.mul_le_mul_right _ hroom
            rw [Nat.add_mul] at h2
            omega
          rw [Array.getElem?_eq_getElem this]; rfl) (fun j _ => frozen_of_row w g _ cur e hgg)
      rw [hr] at hr2
      cases hr2
      intro g' hg'
      exact .inl hg'
    · obtain ⟨v2, w2, hr2, ho2, _⟩ := run_append_arg_grows (P := P) w t ty e i z size bytes ht hi hz hsize hby hzs hsz ⟨g, 0, none⟩ n cap xs hown.1 (World.ownsRow.cells hown rfl) a m c news hl hnews (by omega) h63 hbytes
      rw [hr] at hr2
      cases hr2
      intro g' hg'
      exact .inr (World.ownsRow.lt ho2 g' hg').1
theorem step_append_run {P : Program} {ops : Array Oper} {o : Oper} {a : Act} {w : World} {K : Act → World → Prop} {Q : Exit → Act → World → Prop} {E : Prop}
    (hg : o.guard = none) (s x : Operand) (t : TypeId) (hop : o.op = Op.call { callee := Callee.builtin Builtin.append, args := #[s, x], argTypes := #[t, t] })
    (v u v' : Value) (w' : World) (hs : a.eval s = v) (hx : a.eval x = u) (hrun : (Builtin.append_ #[t, t] o.type #[v, u]).run P w = .ok v' w') (hK : K (a.put o.dst v') w') :
    if Region.wanted o (yielded ops a.tmps) = true then Oper.wp P o a w K Q else E := by
  have hw : Region.wanted o (yielded ops a.tmps) = true := by simp [Region.wanted, hg]
  rw [if_pos hw]
  unfold Oper.wp
  simp [execOp, hop, resolve, invoke, builtin, hs, hx, hrun, Result.andThen]
  exact hK
/-- The document's heap with one object more. -/
def mkX (x : RX) (n gA fl : Nat) (v : SV) : RX := { x with ov := v, G := set1 x.G n gA, Q := set1 x.Q n fl }
def mkD (r : DH) (c : Int) : DH := { r with K := set1 r.K (r.n + 1) c, C := fun b j => if b = r.n + 1 then 0 else r.C b j, n := r.n + 1 }
theorem objs_make (cs : Sch) (x : RX) (r : DH) (c : Int) (gA : Nat) (v : SV) : objs cs (mkX x r.n gA (fof cs c).length v) (mkD r c) = objs cs x r ++ [(c, ⟨some ⟨gA, 0, none⟩, (fof cs c).length, (fof cs c).length⟩)] := by
  unfold objs
  rw [show (mkD r c).n = r.n + 1 from rfl, List.range_succ, List.map_append]
  congr 1
  · refine List.map_congr_left fun o ho => ?_
    have ho' := List.mem_range.1 ho
    simp only [mkX, mkD]
    rw [set1_ne r.K c (show o + 1 ≠ r.n + 1 by omega), set1_ne x.G gA (show o ≠ r.n by omega), set1_ne x.Q _ (show o ≠ r.n by omega)]
  · simp only [mkX, mkD, List.map_cons, List.map_nil]
    rw [set1_self, set1_self, set1_self]
theorem RP.made {w w3 : World} {rb : Nat} {x : RX} {cs : Sch} {sz : Int} {r : DH} (h : RP w rb x cs sz r) (c : Int) (gA : Nat) (a' : Option Addr) (c' : Nat)
    (hgA : w.heap.size ≤ gA) (hgA3 : gA < w3.heap.size) (hsz : w.heap.size ≤ w3.heap.size)
    (hc0 : ∀ k, k < (fof cs c).length → w3.cell? ⟨gA, k, none⟩ = some (.int .i64 0)) (hf0 : ∀ k, w3.frozen? ⟨gA, k, none⟩ = false)
    (hown : w3.ownsRow 0 113 2 (.slice a' (r.n + 1) c') (r.n + 1) (flatC (objs cs x r) ++ [.int .u8 c, .slice (some ⟨gA, 0, none⟩) (fof cs c).length (fof cs c).length]))
    (hk : ∀ b, b < w.heap.size → x.ov.a ≠ some ⟨b, 0, none⟩ → w3.heap[b]? = w.heap[b]?)
    (hnew : ∀ g, a' = some ⟨g, 0, none⟩ → x.ov.a = some ⟨g, 0, none⟩ ∨ (w.heap.size ≤ g ∧ g ≠ gA)) :
    RP (w3.setCell ⟨rb, 2, none⟩ (.slice a' (r.n + 1) c')) rb (mkX x r.n gA (fof cs c).length ⟨a', r.n + 1, c'⟩) cs sz (mkD r c) ∧ (∀ b, (mkX x r.n gA (fof cs c).length ⟨a', r.n + 1, c'⟩).has cs (mkD r c).n rb b → x.has cs r.n rb b ∨ w.heap.size ≤ b) := by
  have hrb := h.lt
  have erb : w3.heap[rb]? = w.heap[rb]? := hk rb hrb (fun e => (h.rov rb e).1 rfl)
  have ec : ∀ o, o ≠ 2 → (w3.setCell ⟨rb, 2, none⟩ (.slice a' (r.n + 1) c')).cell? ⟨rb, o, none⟩ = w.cell? ⟨rb, o, none⟩ := fun o ho => (sc_off w3 _ ho).trans (World.cell?_of_block (a := ⟨rb, o, none⟩) erb)
  have c2' : w3.cell? ⟨rb, 2, none⟩ = some (.slice x.ov.a r.n x.ov.c) := (World.cell?_of_block (a := ⟨rb, 2, none⟩) erb).trans h.c2
  have hGo : ∀ o, o < r.n → w3.heap[x.G o]? = w.heap[x.G o]? := fun o ho => hk _ (h.ob o ho).lt (fun e => h.nov o ho _ e rfl)
  have hss : (w3.setCell ⟨rb, 2, none⟩ (.slice a' (r.n + 1) c')).heap.size = w3.heap.size := by simp [World.setCell]
  have hgo : ∀ g, a' = some ⟨g, 0, none⟩ → g ≠ rb ∧ ¬ x.kx.has cs g ∧ g ≠ gA ∧ ∀ o, o < r.n → x.G o ≠ g := by
    intro g hg
    rcases hnew g hg with e | ⟨e1, e2⟩
    · obtain ⟨e1, e2⟩ := h.rov g e
      refine ⟨Ne.symm e1, e2, ?_, fun o ho => h.nov o ho g e⟩
      have := h.has_lt (b := g) (.inr (.inr (.inl ⟨g, e, rfl⟩)))
      omega
    · refine ⟨by omega, fun hh => ?_, e2, fun o ho => ?_⟩
      · have := h.kc.has_lt hh; omega
      · have := (h.ob o ho).lt; omega
  refine ⟨⟨by rw [ec _ (by omega)]; exact h.c0, by rw [ec _ (by omega)]; exact h.c1, ?_, fun i hi => by rw [ec _ (by omega)]; exact h.root i hi, by rw [ec _ (by omega)]; exact h.c11, by rw [ec _ (by omega)]; exact h.c12, by rw [ec _ (by omega)]; exact h.c13, by rw [ec _ (by omega)]; exact h.c14, fun o => ?_,
    ?_, ?_, fun o ho => ?_, fun o o' ho ho' e => ?_, fun o ho => ?_, fun o ho g hg => ?_, fun o ho => ?_, h.rkx, fun g hg => ⟨Ne.symm (hgo g hg).1, (hgo g hg).2.1⟩⟩, ?_⟩
  · show _ = some (Value.slice a' (r.n + 1) c')
    go_simp
  · rw [sc_frz]; exact (World.frozen?_of_block (a := ⟨rb, o, none⟩) erb).trans (h.frz o)
  · refine h.kc.keep (by rw [hss]; exact hsz) fun b hb => ?_
    rw [sc_blk w3 _ (show b ≠ rb from fun e => h.rkx (by rw [← e]; exact hb))]
    exact hk b (h.kc.has_lt hb) (fun e => (h.rov b e).2 hb)
  · rw [objs_make, flatC_app]
    refine row_keep hown fun g hg => sc_blk w3 _ ?_
    have hg2 : Value.ownBlock (.slice a' (r.n + 1) c') = some g := hg
    clear hg
    rcases hown.2 with ⟨e, hn⟩ | ⟨g', cap, cur, e, _⟩
    · rw [e] at hg2; cases hg2
    · have ea : a' = some ⟨g', 0, none⟩ := by injection e
      rw [ea] at hg2
      have : g' = g := by simpa [Value.ownBlock] using hg2
      subst this
      exact (hgo g' ea).1
  · by_cases e : o = r.n
    · subst e
      have eG : (mkX x r.n gA (fof cs c).length ⟨a', r.n + 1, c'⟩).G r.n = gA := set1_self _ _ _
      have eK : (mkD r c).K (r.n + 1) = c := set1_self _ _ _
      refine ⟨by rw [eG, hss]; exact hgA3, fun k hk' => ?_, fun k => ?_⟩
      · rw [eG, sc_other w3 _ (by omega)]
        rw [eK] at hk'
        rw [hc0 k hk']
        simp [mkD]
      · rw [eG, sc_frz]; exact hf0 k
    · have ho' : o < r.n := by have : o < r.n + 1 := ho; omega
      have eG : (mkX x r.n gA (fof cs c).length ⟨a', r.n + 1, c'⟩).G o = x.G o := set1_ne _ _ e
      have eK : (mkD r c).K (o + 1) = r.K (o + 1) := set1_ne _ _ (by omega)
      have hb := h.ob o ho'
      refine ⟨by rw [eG, hss]; exact Nat.lt_of_lt_of_le hb.lt hsz, fun k hk' => ?_, fun k => ?_⟩
      · rw [eK] at hk'
        rw [eG, sc_other w3 _ (h.nrb o ho'), World.cell?_of_block (a := ⟨x.G o, k, none⟩) (hGo o ho'), hb.cell k hk']
        simp only [mkD]
        rw [if_neg (by omega)]
      · rw [eG, sc_frz]; exact (World.frozen?_of_block (a := ⟨x.G o, k, none⟩) (hGo o ho')).trans (hb.frz k)
  · have h1 : o < r.n + 1 := ho
    have h2 : o' < r.n + 1 := ho'
    simp only [mkX] at e
    by_cases e1 : o = r.n
    · by_cases e2 : o' = r.n
      · omega
      · rw [e1, set1_self, set1_ne _ _ e2] at e
        have := (h.ob o' (by omega)).lt; omega
    · by_cases e2 : o' = r.n
      · rw [e2, set1_self, set1_ne _ _ e1] at e
        have := (h.ob o (by omega)).lt; omega
      · rw [set1_ne _ _ e1, set1_ne _ _ e2] at e
        exact h.apart o o' (by omega) (by omega) e
  · have h1 : o < r.n + 1 := ho
    simp only [mkX]
    by_cases e1 : o = r.n
    · rw [e1, set1_self]; omega
    · rw [set1_ne _ _ e1]; exact h.nrb o (by omega)
  · have h1 : o < r.n + 1 := ho
    simp only [mkX] at hg ⊢
    by_cases e1 : o = r.n
    · rw [e1, set1_self]; exact Ne.symm (hgo g hg).2.2.1
    · rw [set1_ne _ _ e1]; exact (hgo g hg).2.2.2 o (by omega)
  · have h1 : o < r.n + 1 := ho
    simp only [mkX]
    by_cases e1 : o = r.n
    · rw [e1, set1_self]; intro hh; have := h.kc.has_lt hh; omega
    · rw [set1_ne _ _ e1]; exact h.nkx o (by omega)
  · rintro b (rfl | hb | ⟨g, hg, rfl⟩ | ⟨o, ho, rfl⟩)
    · exact .inl (.inl rfl)
    · exact .inl (.inr (.inl hb))
    · rcases hnew b hg with e | ⟨e1, _⟩
      · exact .inl (.inr (.inr (.inl ⟨b, e, rfl⟩)))
      · exact .inr e1
    · have h1 : o < r.n + 1 := ho
      simp only [mkX]
      by_cases e1 : o = r.n
      · rw [e1, set1_self]; exact .inr hgA
      · rw [set1_ne _ _ e1]; exact .inl (.inr (.inr (.inr ⟨o, by omega, rfl⟩)))
end Go.Proofs.YtbgilndohccicaaGreatDoor
