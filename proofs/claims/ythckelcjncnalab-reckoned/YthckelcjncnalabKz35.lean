import Derived.Test.YthckelcjncnalabKz34
namespace Go.Proofs.Ythckelcjncnalab
open Go.RowKit

def pfolD (cs : Sch) (p : PH) (root name to : Int) : PH := if (frf (ffind cs p.R p.K root name) to).e = 0 then { p with R := set1 p.R to.toNat (p.F (ffind cs p.R p.K root name).n (ffind cs p.R p.K root name).i) } else p
def plinkD (cs : Sch) (p : PH) (root name fr : Int) : PH := if (frf (ffind cs p.R p.K root name) fr).e = 0 then { p with F := set2 p.F (ffind cs p.R p.K root name).n (ffind cs p.R p.K root name).i (p.R fr.toNat) } else p
theorem frf_e0 {f : FF} {o : Int} (h : (frf f o).e = 0) : rtB o = true ∧ f.e = 0 ∧ f.k = 114 ∧ frf f o = f := by
  unfold frf at h ⊢
  split at h
  · simp at h
  · rename_i h1
    obtain ⟨a, b, c⟩ := fref_e0 h
    exact ⟨by simpa using h1, a, b, by rw [if_neg h1]; exact c⟩
theorem frf_no {f : FF} {o : Int} (h : (frf f o).e ≠ 0) : frf f o = ⟨0, 0, 0, (frf f o).e⟩ := by
  unfold frf fref at h ⊢
  split at h
  · rename_i h1; rw [if_pos h1]
  · rename_i h1; rw [if_neg h1]
    split at h
    · rename_i h2; rw [if_pos h2]
      split at h
      · exact absurd h2 h
      · rename_i h3; rw [if_neg h3]
    · rename_i h2; rw [if_neg h2]
end Go.Proofs.Ythckelcjncnalab
namespace Go.Proofs.Ythckelcjncnalab
open Go.RowKit

def rarr (S : Nat → Bool) (v : Value) : Array Value := ((List.range 201).map (fun i => Value.bool (S i)) ++ [v]).toArray
theorem rarr_size (S : Nat → Bool) (v : Value) : (rarr S v).size = 202 := by simp [rarr]
theorem rarr_lt (S : Nat → Bool) (v : Value) {x : Nat} (h : x < 201) : (rarr S v)[x]? = some (.bool (S x)) := by
  unfold rarr
  rw [List.getElem?_toArray, List.getElem?_append_left (by simpa using h), List.getElem?_map, List.getElem?_range h]
  rfl
theorem rarr_last (S : Nat → Bool) (v : Value) : (rarr S v)[201]? = some v := by
  unfold rarr
  rw [List.getElem?_toArray, List.getElem?_append_right (by simp)]
  simp
theorem rarr_out (S : Nat → Bool) (v : Value) {x : Nat} (h : 201 < x) : (rarr S v)[x]? = none := by
  rw [Array.getElem?_eq_none]; rw [rarr_size]; omega
theorem rarr_set (S : Nat → Bool) (v : Value) {x : Nat} (h : x < 201) : (rarr S v).setIfInBounds x (.bool true) = rarr (set1 S x true) v := by
  apply Array.ext_getElem?
  intro i
  rw [Array.getElem?_setIfInBounds, rarr_size]
  by_cases e : x = i
  · subst e
    rw [if_pos rfl, if_pos (by omega), rarr_lt _ _ h, set1_self]
  · rw [if_neg e]
    rcases Nat.lt_trichotomy i 201 with h' | h' | h'
    · rw [rarr_lt _ _ h', rarr_lt _ _ h', set1_ne _ _ (Ne.symm e)]
    · subst h'; rw [rarr_last, rarr_last]
    · rw [rarr_out _ _ h', rarr_out _ _ h']
theorem rarr_setv (S : Nat → Bool) (v v' : Value) : (rarr S v).setIfInBounds 201 v' = rarr S v' := by
  apply Array.ext_getElem?
  intro i
  rw [Array.getElem?_setIfInBounds, rarr_size]
  by_cases e : 201 = i
  · subst e
    rw [if_pos rfl, if_pos (by omega), rarr_last]
  · rw [if_neg e]
    rcases Nat.lt_trichotomy i 201 with h' | h' | h'
    · rw [rarr_lt _ _ h', rarr_lt _ _ h']
    · exact absurd h'.symm e
    · rw [rarr_out _ _ h', rarr_out _ _ h']
structure RB (w : World) (b : Nat) (S : Nat → Bool) (v : Value) (L : List Nat) (base : Nat) : Prop where
  blk : w.heap[b]? = some (.cells (rarr S v) 74 (0, 0))
  own : w.ownsRow base 3 1 v L.length (L.map fun (x : Nat) => Value.int .i64 (x : Int))
theorem RB.c {w : World} {b : Nat} {S : Nat → Bool} {v : Value} {L : List Nat} {base : Nat} (h : RB w b S v L base) : ∀ x, x < 201 → w.cell? ⟨b, x, none⟩ = some (.bool (S x)) := fun x hx => (cell_of_row w b x _ _ _ h.blk).trans (rarr_lt S v hx)
theorem RB.l {w : World} {b : Nat} {S : Nat → Bool} {v : Value} {L : List Nat} {base : Nat} (h : RB w b S v L base) : w.cell? ⟨b, 201, none⟩ = some v := (cell_of_row w b 201 _ _ _ h.blk).trans (rarr_last S v)
theorem RB.f {w : World} {b : Nat} {S : Nat → Bool} {v : Value} {L : List Nat} {base : Nat} (h : RB w b S v L base) : ∀ o, w.frozen? ⟨b, o, none⟩ = false := fun o => frozen_of_row w b o _ _ h.blk
theorem RB.lt {w : World} {b : Nat} {S : Nat → Bool} {v : Value} {L : List Nat} {base : Nat} (h : RB w b S v L base) : b < w.heap.size := World.block_lt_of_cell? w ⟨b, 201, none⟩ h.l
set_option maxRecDepth 20000 in
set_option maxHeartbeats 1000000 in
theorem free_any (b : Nat) (S : Nat → Bool) (v : Value) (L : List Nat) (base : Nat) (w : World) (h : RB w b S v L base) :
    Calls Try.prog 28 #[.pointer (some ⟨b, 0, none⟩)] w fun e w' => w' = w ∧ ∃ a : Nat, e = .returned (.int .i64 a) ∧ ((a = 0 ∧ ∀ x, 0 < x → x < 201 → S x = true) ∨ (0 < a ∧ a < 201 ∧ S a = false)) := by
  have hbl := h.lt
  have HC : Hid (∀ x, x < 201 → w.cell? ⟨b, x, none⟩ = some (.bool (S x))) := h.c
  clear h
  go_enter Try.func28, Try.ntmps28
  go_wp2
  go_loopw [3] (fun iv wr => ∃ i : Nat, 0 < i ∧ i ≤ 201 ∧ iv = .int .i64 i ∧ Hid (∀ x, 0 < x → x < i → S x = true) ∧ wr = w) (fun iv _ => 201 - (intOf iv).toNat)
  case atStart => exact ⟨1, by omega, by omega, rfl, fun x h1 h2 => by omega, rfl⟩
  case round =>
    obtain ⟨i, hi0, hi, rfl, HS, rfl⟩ := hrel
    by_cases hlt : i < 201
    · have c := HC.out i hlt
      have hib : (0 : Int) ≤ (i : Int) ∧ (i : Int) < 201 := by omega
      cases hs : S i with
      | true =>
        rw [hs] at c
        have HS2 : Hid (∀ x, 0 < x → x < i + 1 → S x = true) := fun x h1 h2 => by
          rcases Nat.lt_succ_iff_lt_or_eq.1 h2 with h2 | rfl
          · exact HS.out x h1 h2
          · exact hs
        clear hs
        go_wp2
        go_roundw
        case rel => exact ⟨i + 1, by omega, by omega, by go_num, HS2, trivial⟩
        case measure => simp [intOf]; omega
      | false =>
        rw [hs] at c
        have HS2 : Hid (S i = false) := hs
        clear hs
        go_wp2
        go_ret
        exact ⟨rfl, i, rfl, .inr ⟨hi0, hlt, HS2.out⟩⟩
    · have hge : 201 ≤ i := by omega
      clear hlt
      go_wp2
      go_ret
      exact ⟨rfl, 0, rfl, .inl ⟨rfl, fun x h1 h2 => HS.out x h1 (by omega)⟩⟩
end Go.Proofs.Ythckelcjncnalab
namespace Go.Proofs.Ythckelcjncnalab
open Go.RowKit

theorem Try.infoInt : (Try.prog.info? 3).map (fun i => (i.zero, i.size, i.bytes)) = some (some (.int .i64 0), 1, 8) := by kernel_rfl
theorem infoPartsH {P : Program} {e : TypeId} {z : Option Value} {s b : Nat} (h : (P.info? e).map (fun i => (i.zero, i.size, i.bytes)) = some (z, s, b)) : ∃ i, P.info? e = some i ∧ i.zero = z ∧ i.size = s ∧ i.bytes = b := by
  cases hi : P.info? e with
  | none => rw [hi] at h; simp at h
  | some i => rw [hi] at h; simp at h; exact ⟨i, rfl, h.1, h.2.1, h.2.2⟩
theorem RB.setS {w : World} {b : Nat} {S : Nat → Bool} {v : Value} {L : List Nat} {base x : Nat} (h : RB w b S v L base) (hb : b < base) (hx : x < 201) : RB (w.setCell ⟨b, x, none⟩ (.bool true)) b (set1 S x true) v L base := by
  refine ⟨?_, World.ownsRow.kept h.own (gb_set w b x _) ?_⟩
  · rw [heap_setCell_same w b x _ _ _ h.blk, rarr_set S v hx]
  · cases hv : v.ownBlock with
    | none => exact .inl rfl
    | some g => right; have := (World.ownsRow.lt h.own g hv).1; simp; omega
theorem RB.app {w w2 : World} {b : Nat} {S : Nat → Bool} {v v' : Value} {L : List Nat} {base x : Nat} (h : RB w b S v L base) (hb : b < base) (g : w.grownBy w2 v.ownBlock) (own : w2.ownsRow base 3 1 v' (L.length + 1) ((L.map fun (x : Nat) => Value.int .i64 (x : Int)) ++ [.int .i64 x])) : RB (w2.setCell ⟨b, 201, none⟩ v') b S v' (L ++ [x]) base := by
  have hbl := h.lt
  have eb : w2.heap[b]? = w.heap[b]? := g.block b hbl (fun e => by have := (World.ownsRow.lt h.own b e.symm).1; omega)
  refine ⟨?_, ?_⟩
  · rw [heap_setCell_same w2 b 201 _ _ _ (eb.trans h.blk), rarr_setv]
  · rw [List.length_append, List.map_append]
    refine World.ownsRow.kept own (gb_set w2 b 201 v') ?_
    cases hv : v'.ownBlock with
    | none => exact .inl rfl
    | some y => right; have := (World.ownsRow.lt own y hv).1; simp; omega
def AddPost (b : Nat) (S : Nat → Bool) (L : List Nat) (base x : Nat) (w : World) (e : Ending) (w' : World) : Prop := e = .returned (.tuple #[]) ∧ Below b w w' ∧ ∃ v', RB w' b (addS S x) v' (addL L S x) base
set_option maxRecDepth 20000 in
set_option maxHeartbeats 1000000 in
theorem add_any (b : Nat) (S : Nat → Bool) (v : Value) (L : List Nat) (base x : Nat) (w : World) (h : RB w b S v L base) (hb : b < base) (hbase : base ≤ w.heap.size) (hx : x < 201) (hl : L.length ≤ 200) :
    Calls Try.prog 41 #[.pointer (some ⟨b, 0, none⟩), .int .i64 x] w (AddPost b S L base x w) := by
  have hbl := h.lt
  have HH : Hid (RB w b S v L base) := h
  unfold AddPost
  by_cases h0 : x = 0
  · have e1 : addS S x = S := by unfold addS; rw [if_pos (.inl h0)]
    have e2 : addL L S x = L := by unfold addL; rw [if_pos (.inl h0)]
    rw [e1, e2]
    subst h0
    clear h e1 e2
    go_enter Try.func41, Try.ntmps41
    go_wp2
    refine bodyPost_ret (v := .tuple #[]) (by simp [results, Try.results41, go_sem]) rfl ⟨rfl, Below.refl _ _, v, HH.out⟩
  · have hc := h.c x hx
    have hxb : (0 : Int) ≤ (x : Int) ∧ (x : Int) < 201 := by omega
    have hd0 : decide ((x : Int) ≤ 0) = false := decide_eq_false (by omega)
    have hd1 : decide ((201 : Int) ≤ (x : Int)) = false := decide_eq_false (by omega)
    cases hs : S x with
    | true =>
      have e1 : addS S x = S := by unfold addS; rw [if_pos (.inr hs)]
      have e2 : addL L S x = L := by unfold addL; rw [if_pos (.inr hs)]
      rw [e1, e2]
      rw [hs] at hc
      clear h e1 e2 hs
      go_enter Try.func41, Try.ntmps41
      go_wp2
      refine bodyPost_ret (v := .tuple #[]) (by simp [results, Try.results41, go_sem]) rfl ⟨rfl, Below.refl _ _, v, HH.out⟩
    | false =>
      have hor : ¬ (x = 0 ∨ S x = true) := by rw [hs]; simp [h0]
      have e1 : addS S x = set1 S x true := by unfold addS; rw [if_neg hor]
      have e2 : addL L S x = L ++ [x] := by unfold addL; rw [if_neg hor]
      rw [e1, e2]
      rw [hs] at hc
      have hf := h.f x
      have h1 := h.setS hb hx
      have H1 : Hid (RB (w.setCell ⟨b, x, none⟩ (.bool true)) b (set1 S x true) v L base) := h1
      have hl1 := h1.l
      have hf1 := h1.f 201
      obtain ⟨iI, hiI, hzI0, hzI1, hzI2⟩ := infoPartsH Try.infoInt
      clear h e1 e2 hs hor
      go_enter Try.func41, Try.ntmps41
      go_wp2_with (at_builtin; refine wpList_append_own _ rfl _ _ 22 rfl base 3 iI (.int .i64 0) 1 8 Try.underlying22 hiI hzI0 hzI1 hzI2 rfl (by decide) _ L.length (L.map fun (x : Nat) => Value.int .i64 (x : Int)) rfl (H1.out.own.alloc _) ⟨w.heap.size, 0, none⟩ 1 1 [.int .i64 x] rfl rfl ?c1 ?c2 ?c3 ?c4 ?c5 ?_)
      case c1 => intro j u hj; match j, hj with | 0, hj => (simp at hj; subst hj; have hsz : (w.setCell ⟨b, x, none⟩ (.bool true)).heap.size = w.heap.size := (by simp [World.setCell]); have hc1 := cell_of_row _ _ 0 _ _ _ (heap_alloc_new (w.setCell ⟨b, x, none⟩ (.bool true)) (.cells #[.int .i64 x] 3)); rw [hsz] at hc1; simpa [Addr.add] using hc1)
      case c2 => intro u hu; simp at hu; subst hu; rfl
      case c3 => unfold maxLen; omega
      case c4 => omega
      case c5 => simp; omega
      intro v' w2 hown hgr _
      obtain ⟨va', vc', hv'⟩ : ∃ a c, v' = .slice a (L.length + 1) c := by
        rcases hown.2 with ⟨_, hn⟩ | ⟨g, cap, cur, e, _⟩
        · omega
        · exact ⟨_, _, e⟩
      subst hv'
      have HA : Hid (RB (w2.setCell ⟨b, 201, none⟩ (.slice va' (L.length + 1) vc')) b (set1 S x true) (.slice va' (L.length + 1) vc') (L ++ [x]) base) := H1.out.app hb (gb_trans (World.grownBy_alloc _ _ _) hgr) hown
      have eb : w2.heap[b]? = (w.setCell ⟨b, x, none⟩ (.bool true)).heap[b]? := (gb_trans (World.grownBy_alloc _ _ _) hgr).block b (by simpa [World.setCell] using hbl) (fun e => by have := (World.ownsRow.lt H1.out.own b e.symm).1; omega)
      have k1 : w2.cell? ⟨b, 201, none⟩ = some v := (World.cell?_of_block (a := ⟨b, 201, none⟩) eb).trans hl1
      have k2 : w2.frozen? ⟨b, 201, none⟩ = false := (World.frozen?_of_block (a := ⟨b, 201, none⟩) eb).trans hf1
      have hs2 : w.heap.size ≤ w2.heap.size := by have := (gb_trans (World.grownBy_alloc _ _ _) hgr).size; simpa [World.setCell] using this
      have HB : Hid (Below b w w2) := ((Below.refl b w).setCell (Nat.le_refl _) _).grown (gb_trans (World.grownBy_alloc _ _ _) hgr) (by simp [World.setCell]; omega) (fun y hy => by have := (World.ownsRow.lt H1.out.own y hy).1; omega)
      have hb2 : b < w2.heap.size := by omega
      clear hown hgr hl1 hf1 eb
      go_wp2
      refine bodyPost_end (v := .tuple #[]) (by simp [results, Try.results41, go_sem]) rfl ⟨rfl, HB.out.setCell (Nat.le_refl _) _, _, HA.out⟩
end Go.Proofs.Ythckelcjncnalab
