import Derived.Test.YthckelcjncnalaaHe8
namespace Go.Proofs.Ythckelcjncnalaa
open Go.RowKit

theorem Try.infoInt : (Try.prog.info? 3).map (fun i => (i.zero, i.size, i.bytes)) = some (some (.int .i64 0), 1, 8) := by kernel_rfl
theorem infoPartsH {P : Program} {e : TypeId} {z : Option Value} {s b : Nat} (h : (P.info? e).map (fun i => (i.zero, i.size, i.bytes)) = some (z, s, b)) : ∃ i, P.info? e = some i ∧ i.zero = z ∧ i.size = s ∧ i.bytes = b := by
  cases hi : P.info? e with
  | none => rw [hi] at h; simp at h
  | some i => rw [hi] at h; simp at h; exact ⟨i, rfl, h.1, h.2.1, h.2.2⟩
theorem RB.setS {w : World} {b : Nat} {S : Nat → Bool} {v : Value} {L : List Nat} {base x : Nat} (h : RB w b S v L base) (hb : b < base) (hx : x < 201) : RB (w.setCell ⟨b, x, none⟩ (.bool true)) b (set1 S x true) v L base := by
  refine ⟨?_, World.ownsRow.kept h.own (gb_set w b x _) ?_⟩
  · rw [heap_setCell_same w b x _ _ _ h.blk, rarr_set S v hx]
  · cases hv : v.ownBlock with
    | none => exact .inl rfl
    | some g => right; have := (World.ownsRow.lt h.own g hv).1; simp; omega
theorem RB.app {w w2 : World} {b : Nat} {S : Nat → Bool} {v v' : Value} {L : List Nat} {base x : Nat} (h : RB w b S v L base) (hb : b < base) (g : w.grownBy w2 v.ownBlock) (own : w2.ownsRow base 3 1 v' (L.length + 1) ((L.map fun (x : Nat) => Value.int .i64 (x : Int)) ++ [.int .i64 x])) : RB (w2.setCell ⟨b, 201, none⟩ v') b S v' (L ++ [x]) base := by
  have hbl := h.lt
  have eb : w2.heap[b]? = w.heap[b]? := g.block b hbl (fun e => by have := (World.ownsRow.lt h.own b e.symm).1; omega)
  refine ⟨?_, ?_⟩
  · rw [heap_setCell_same w2 b 201 _ _ _ (eb.trans h.blk), rarr_setv]
  · rw [List.length_append, List.map_append]
    refine World.ownsRow.kept own (gb_set w2 b 201 v') ?_
    cases hv : v'.ownBlock with
    | none => exact .inl rfl
    | some y => right; have := (World.ownsRow.lt own y hv).1; simp; omega
def AddPost (b : Nat) (S : Nat → Bool) (L : List Nat) (base x : Nat) (w : World) (e : Ending) (w' : World) : Prop := e = .returned (.tuple #[]) ∧ Below b w w' ∧ ∃ v', RB w' b (addS S x) v' (addL L S x) base
set_option maxRecDepth 20000 in
set_option maxHeartbeats 1000000 in
theorem add_any (b : Nat) (S : Nat → Bool) (v : Value) (L : List Nat) (base x : Nat) (w : World) (h : RB w b S v L base) (hb : b < base) (hbase : base ≤ w.heap.size) (hx : x < 201) (hl : L.length ≤ 200) :
    Calls Try.prog 54 #[.pointer (some ⟨b, 0, none⟩), .int .i64 x] w (AddPost b S L base x w) := by
  have hbl := h.lt
  have HH : Hid (RB w b S v L base) := h
  unfold AddPost
  by_cases h0 : x = 0
  · have e1 : addS S x = S := by unfold addS; rw [if_pos (.inl h0)]
    have e2 : addL L S x = L := by unfold addL; rw [if_pos (.inl h0)]
    rw [e1, e2]
    subst h0
    clear h e1 e2
    go_enter Try.func54, Try.ntmps54
    go_wp2
    refine bodyPost_ret (v := .tuple #[]) (by simp [results, Try.results54, go_sem]) rfl ⟨rfl, Below.refl _ _, v, HH.out⟩
  · have hc := h.c x hx
    have hxb : (0 : Int) ≤ (x : Int) ∧ (x : Int) < 201 := by omega
    have hd0 : decide ((x : Int) ≤ 0) = false := decide_eq_false (by omega)
    have hd1 : decide ((201 : Int) ≤ (x : Int)) = false := decide_eq_false (by omega)
    cases hs : S x with
    | true =>
      have e1 : addS S x = S := by unfold addS; rw [if_pos (.inr hs)]
      have e2 : addL L S x = L := by unfold addL; rw [if_pos (.inr hs)]
      rw [e1, e2]
      rw [hs] at hc
      clear h e1 e2 hs
      go_enter Try.func54, Try.ntmps54
      go_wp2
      refine bodyPost_ret (v := .tuple #[]) (by simp [results, Try.results54, go_sem]) rfl ⟨rfl, Below.refl _ _, v, HH.out⟩
    | false =>
      have hor : ¬ (x = 0 ∨ S x = true) := by rw [hs]; simp [h0]
      have e1 : addS S x = set1 S x true := by unfold addS; rw [if_neg hor]
      have e2 : addL L S x = L ++ [x] := by unfold addL; rw [if_neg hor]
      rw [e1, e2]
      rw [hs] at hc
      have hf := h.f x
      have h1 := h.setS hb hx
      have H1 : Hid (RB (w.setCell ⟨b, x, none⟩ (.bool true)) b (set1 S x true) v L base) := h1
      have hl1 := h1.l
      have hf1 := h1.f 201
      obtain ⟨iI, hiI, hzI0, hzI1, hzI2⟩ := infoPartsH Try.infoInt
      clear h e1 e2 hs hor
      go_enter Try.func54, Try.ntmps54
      go_wp2_with (at_builtin; refine wpList_append_own _ rfl _ _ 83 rfl base 3 iI (.int .i64 0) 1 8 Try.underlying83 hiI hzI0 hzI1 hzI2 rfl (by decide) _ L.length (L.map fun (x : Nat) => Value.int .i64 (x : Int)) rfl (H1.out.own.alloc _) ⟨w.heap.size, 0, none⟩ 1 1 [.int .i64 x] rfl rfl ?c1 ?c2 ?c3 ?c4 ?c5 ?_)
      case c1 => intro j u hj; match j, hj with | 0, hj => (simp at hj; subst hj; have hsz : (w.setCell ⟨b, x, none⟩ (.bool true)).heap.size = w.heap.size := (by simp [World.setCell]); have hc1 := cell_of_row _ _ 0 _ _ _ (heap_alloc_new (w.setCell ⟨b, x, none⟩ (.bool true)) (.cells #[.int .i64 x] 3)); rw [hsz] at hc1; simpa [Addr.add] using hc1)
      case c2 => intro u hu; simp at hu; subst hu; rfl
      case c3 => unfold maxLen; omega
      case c4 => omega
      case c5 => simp; omega
      intro v' w2 hown hgr _
      obtain ⟨va', vc', hv'⟩ : ∃ a c, v' = .slice a (L.length + 1) c := by
        rcases hown.2 with ⟨_, hn⟩ | ⟨g, cap, cur, e, _⟩
        · omega
        · exact ⟨_, _, e⟩
      subst hv'
      have HA : Hid (RB (w2.setCell ⟨b, 201, none⟩ (.slice va' (L.length + 1) vc')) b (set1 S x true) (.slice va' (L.length + 1) vc') (L ++ [x]) base) := H1.out.app hb (gb_trans (World.grownBy_alloc _ _ _) hgr) hown
      have eb : w2.heap[b]? = (w.setCell ⟨b, x, none⟩ (.bool true)).heap[b]? := (gb_trans (World.grownBy_alloc _ _ _) hgr).block b (by simpa [World.setCell] using hbl) (fun e => by have := (World.ownsRow.lt H1.out.own b e.symm).1; omega)
      have k1 : w2.cell? ⟨b, 201, none⟩ = some v := (World.cell?_of_block (a := ⟨b, 201, none⟩) eb).trans hl1
      have k2 : w2.frozen? ⟨b, 201, none⟩ = false := (World.frozen?_of_block (a := ⟨b, 201, none⟩) eb).trans hf1
      have hs2 : w.heap.size ≤ w2.heap.size := by have := (gb_trans (World.grownBy_alloc _ _ _) hgr).size; simpa [World.setCell] using this
      have HB : Hid (Below b w w2) := ((Below.refl b w).setCell (Nat.le_refl _) _).grown (gb_trans (World.grownBy_alloc _ _ _) hgr) (by simp [World.setCell]; omega) (fun y hy => by have := (World.ownsRow.lt H1.out.own y hy).1; omega)
      have hb2 : b < w2.heap.size := by omega
      clear hown hgr hl1 hf1 eb
      go_wp2
      refine bodyPost_end (v := .tuple #[]) (by simp [results, Try.results54, go_sem]) rfl ⟨rfl, HB.out.setCell (Nat.le_refl _) _, _, HA.out⟩
end Go.Proofs.Ythckelcjncnalaa
