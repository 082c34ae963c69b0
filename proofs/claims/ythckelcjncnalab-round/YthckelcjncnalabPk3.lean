import Derived.Test.YthckelcjncnalabPk2
import Derived.Lib.AppendStr
import Derived.Laws.IdiomStrings
import Derived.OwnWalk
import Derived.Below
import Derived.ArgAppend
namespace Go.Proofs.Ythckelcjncnalab
open Go.RowKit

theorem Try.infoByte : (Try.prog.info? 5).map (fun i => (i.zero, i.size, i.bytes)) = some (some (.int .u8 0), 1, 1) := by kernel_rfl
theorem infoParts {P : Program} {e : TypeId} {z : Option Value} {s b : Nat} (h : (P.info? e).map (fun i => (i.zero, i.size, i.bytes)) = some (z, s, b)) : ∃ i, P.info? e = some i ∧ i.zero = z ∧ i.size = s ∧ i.bytes = b := by
  cases hi : P.info? e with
  | none => rw [hi] at h; simp at h
  | some i => rw [hi] at h; simp at h; exact ⟨i, rfl, h.1, h.2.1, h.2.2⟩

def cellsB (l : List Int) : List Value := l.map (Value.int .u8)
theorem cellsB_len (l : List Int) : (cellsB l).length = l.length := by simp [cellsB]
theorem cellsB_app (a b : List Int) : cellsB (a ++ b) = cellsB a ++ cellsB b := by simp [cellsB]
theorem strCells_bytes (s : ByteArray) : Lib.strCells s = cellsB (bytesOf s) := by simp [Lib.strCells, cellsB, bytesOf, Function.comp_def]
/-- v is a slice of bytes, made since base, that holds l. -/
def BV (w : World) (base : Nat) (v : Value) (l : List Int) : Prop := w.ownsRow base 5 1 v l.length (cellsB l)
theorem BV.cells {w : World} {base : Nat} {v : Value} {l : List Int} (h : BV w base v l) (hl : l ≠ []) : ∃ g cap, v = .slice (some ⟨g, 0, none⟩) l.length cap ∧ base ≤ g ∧ g < w.heap.size ∧ ∀ i, i < l.length → w.cell? ⟨g, i, none⟩ = some (.int .u8 (l[i]?.getD 0)) := by
  rcases h.2 with ⟨rfl, hn⟩ | ⟨g, cap, cur, rfl, hb, hg, _⟩
  · exact absurd (List.length_eq_zero_iff.1 hn) hl
  · refine ⟨g, cap, rfl, hb, (Array.getElem?_eq_some_iff.1 hg).1, fun i hi => ?_⟩
    have c := World.ownsRow.cells h (g := g) rfl i (.int .u8 (l[i]?.getD 0)) (by simp [cellsB, List.getElem?_eq_getElem hi])
    have e : ∀ j, (⟨g, 0, none⟩ : Addr).add j = ⟨g, j, none⟩ := fun j => by unfold Addr.add; split <;> simp_all
    rw [e] at c; exact c
theorem BV.shape {w : World} {base : Nat} {v : Value} {l : List Int} (h : BV w base v l) : ∃ a c, v = .slice a l.length c := by
  rcases h.2 with ⟨rfl, hn⟩ | ⟨g, cap, cur, rfl, _⟩
  · exact ⟨none, 0, by rw [hn]⟩
  · exact ⟨_, _, rfl⟩
theorem BV.alloc {w : World} {base : Nat} {v : Value} {l : List Int} (h : BV w base v l) (o : Obj) : BV (w.alloc o) base v l := World.ownsRow.alloc h o
theorem BV.grown {w0 w w' : World} {B base : Nat} {v : Value} {l : List Int} (h : BV w base v l) (hB : Below B w0 w) (g : w.grownBy w' v.ownBlock) (hb : B ≤ base) (hs : B ≤ w.heap.size) : Below B w0 w' :=
  hB.grown g hs fun k hk => Nat.le_trans hb (World.ownsRow.lt h k hk).1
theorem BV.below {w w' : World} {base : Nat} {v : Value} {l : List Int} (h : BV w base v l) (hb : Below w.heap.size w w') : BV w' base v l :=
  World.ownsRow.kept (w' := w') (row := none) h ⟨hb.os, hb.tape, hb.output, hb.size, fun k hk _ => hb.block k hk⟩ (by cases hv : v.ownBlock <;> simp)
theorem BV.mono {w : World} {base base' : Nat} {v : Value} {l : List Int} (h : BV w base v l) (hb : base' ≤ base) : BV w base' v l := by
  obtain ⟨h1, h2⟩ := h
  refine ⟨h1, h2.imp id ?_⟩
  rintro ⟨g, cap, cur, e, h0, r⟩
  exact ⟨g, cap, cur, e, Nat.le_trans hb h0, r⟩
theorem one_cell (w : World) (x : Int) : ∀ (j : Nat) (u : Value), [Value.int .u8 x][j]? = some u → (w.alloc (.cells #[.int .u8 x] 5)).cell? ((⟨w.heap.size, 0, none⟩ : Addr).add j) = some u := by
  intro j u hj
  match j, hj with
  | 0, hj => simp at hj; subst hj; simp [Addr.add]
theorem one_one (x : Int) : ∀ u ∈ [Value.int .u8 x], u.oneCell' = true := by intro u hu; simp at hu; subst hu; rfl

set_option maxHeartbeats 400000 in
set_option maxRecDepth 20000 in
theorem digits_small (n : Nat) (w : World) (h : n < 128) :
    Calls Try.prog 38 #[.int .i64 n] w fun e w' => ∃ v, e = .returned v ∧ BV w' w.heap.size v (vint n) ∧ Below w.heap.size w w' := by
  obtain ⟨i0, hi, hz0, hz1, hz2⟩ := infoParts Try.infoByte
  have V0 : BV w w.heap.size (.slice none 0 0) [] := World.ownsRow_nil _ _ _ _
  have hv : vint n = [(n : Int)] := by simp [vint, h]
  rw [hv]
  go_enter Try.func38, Try.ntmps38
  go_wp2
  refine wp_loop_rounds 1 ?_; rw [rounds_succ]
  go_wp2_with (at_builtin; refine wpList_append_own _ rfl _ _ 37 rfl w.heap.size 5 i0 (.int .u8 0) 1 1 Try.underlying37 hi hz0 hz1 hz2 rfl (by decide) _ _ _ rfl (V0.alloc _) ⟨w.heap.size, 0, none⟩ 1 1 [.int .u8 n] rfl rfl (one_cell _ _) (one_one _) (by unfold maxLen; decide) (by decide) (by simp) ?_)
  intro v' w2 hown hgr _
  have V2 : BV w2 w.heap.size v' [(n : Int)] := hown
  have B2 := (V0.alloc (.cells #[.int .u8 n] 5)).grown (B := w.heap.size) ((Below.refl _ w).alloc (Nat.le_refl _) _) hgr (Nat.le_refl _) (by simp)
  obtain ⟨a, c, rfl⟩ := V2.shape
  go_wp2
  go_ret
  exact ⟨_, rfl, V2, B2⟩

set_option maxHeartbeats 400000 in
set_option maxRecDepth 20000 in
theorem digits_great (n : Nat) (w : World) (h : 128 ≤ n) (h2 : n ≤ 200) :
    Calls Try.prog 38 #[.int .i64 n] w fun e w' => ∃ v, e = .returned v ∧ BV w' w.heap.size v (vint n) ∧ Below w.heap.size w w' := by
  obtain ⟨i0, hi, hz0, hz1, hz2⟩ := infoParts Try.infoByte
  have V0 : BV w w.heap.size (.slice none 0 0) [] := World.ownsRow_nil _ _ _ _
  have hv : vint n = [((n % 128 + 128 : Nat) : Int), ((n / 128 : Nat) : Int)] := by simp [vint]; omega
  rw [hv]; clear hv
  have e1 : (n : Int).tmod 128 = (n : Int) - 128 := by rw [Int.tmod_eq_emod_of_nonneg (by omega)]; omega
  have e2 : (n : Int) / 128 = 1 := by omega
  have e3 : ((n % 128 + 128 : Nat) : Int) = (n : Int) := by omega
  have e4 : ((n / 128 : Nat) : Int) = 1 := by omega
  rw [e3, e4]; clear e3 e4
  go_enter Try.func38, Try.ntmps38
  go_wp2
  refine wp_loop_rounds 2 ?_; rw [rounds_succ]
  go_wp2_with (at_builtin; refine wpList_append_own _ rfl _ _ 37 rfl w.heap.size 5 i0 (.int .u8 0) 1 1 Try.underlying37 hi hz0 hz1 hz2 rfl (by decide) _ _ _ rfl (V0.alloc _) ⟨w.heap.size, 0, none⟩ 1 1 [.int .u8 n] rfl rfl (one_cell _ _) (one_one _) (by unfold maxLen; decide) (by decide) (by simp) ?_)
  intro v' w2 hown hgr _
  have V2 : BV w2 w.heap.size v' [(n : Int)] := hown
  have B2 := (V0.alloc (.cells #[.int .u8 n] 5)).grown (B := w.heap.size) ((Below.refl _ w).alloc (Nat.le_refl _) _) hgr (Nat.le_refl _) (by simp)
  obtain ⟨a, c, rfl⟩ := V2.shape
  clear hown hgr V0
  have V2 : BV w2 w.heap.size (.slice a 1 c) [(n : Int)] := V2
  have hs2 := B2.size
  go_wp2
  rw [rounds_succ]
  go_wp2_with (at_builtin; refine wpList_append_own _ rfl _ _ 37 rfl w.heap.size 5 i0 (.int .u8 0) 1 1 Try.underlying37 hi hz0 hz1 hz2 rfl (by decide) _ _ _ rfl (V2.alloc _) ⟨w2.heap.size, 0, none⟩ 1 1 [.int .u8 1] rfl rfl (one_cell _ _) (one_one _) (by simp [maxLen]) (by simp) (by simp; omega) ?_)
  intro v' w3 hown hgr _
  have V3 : BV w3 w.heap.size v' [(n : Int), 1] := hown
  have B3 := (V2.alloc (.cells #[.int .u8 1] 5)).grown (B := w.heap.size) (B2.alloc hs2 _) hgr (Nat.le_refl _) (by simp; omega)
  obtain ⟨a', c', rfl⟩ := V3.shape
  go_wp2
  go_ret
  exact ⟨_, rfl, V3, B3⟩
theorem digits_any (n : Nat) (w : World) (h2 : n ≤ 200) :
    Calls Try.prog 38 #[.int .i64 n] w fun e w' => ∃ v, e = .returned v ∧ BV w' w.heap.size v (vint n) ∧ Below w.heap.size w w' := by
  by_cases h : n < 128
  · exact digits_small n w h
  · exact digits_great n w (by omega) h2

theorem isB_vint (n : Nat) (h : n ≤ 200) : isB (vint n) := by
  intro x hx; unfold vint at hx; split at hx <;> simp at hx <;> omega
theorem isB_bytes (s : ByteArray) : isB (bytesOf s) := by
  intro x hx; simp only [bytesOf, List.mem_map] at hx; obtain ⟨b, _, rfl⟩ := hx
  have := b.toNat_lt; omega
theorem isB_app {a b : List Int} (ha : isB a) (hb : isB b) : isB (a ++ b) := by
  intro x hx; rcases List.mem_append.1 hx with h | h
  · exact ha x h
  · exact hb x h
theorem isB_head (l : List Int) (h : l.length ≤ 200) (hl : isB l) : isB (headL l) :=
  isB_app (isB_app (by intro x hx; simp at hx; omega) (isB_vint _ h)) hl
theorem isB_tail (c : BitVec 32) : isB (tail4 c.toNat) := by
  intro x hx; have := c.isLt; simp [tail4] at hx; omega
theorem isB_pack (l : List Int) (h : l.length ≤ 200) (hl : isB l) : isB (packL l) := isB_app (isB_head l h hl) (isB_tail _)

set_option maxHeartbeats 400000 in
theorem pack_long (s : ByteArray) (w : World) (h : 200 < s.size) (hm : s.size ≤ 9223372036854775807) :
    Calls Try.prog 20 #[.string s] w fun e w' => e = .returned (.tuple #[.string ByteArray.empty, .int .i64 1]) ∧ w' = w := by
  go_enter Try.func20, Try.ntmps20
  go_wp2
  go_ret2
  exact ⟨rfl, rfl⟩

theorem cellsB_one (l : List Int) : ∀ u ∈ cellsB l, u.oneCell' = true := by
  intro u hu; simp [cellsB] at hu; obtain ⟨x, _, rfl⟩ := hu; rfl
theorem cellsB_at {w : World} {g : Nat} {l : List Int} (hc : ∀ i, i < l.length → w.cell? ⟨g, i, none⟩ = some (.int .u8 (l[i]?.getD 0))) : ∀ (j : Nat) (u : Value), (cellsB l)[j]? = some u → w.cell? ((⟨g, 0, none⟩ : Addr).add j) = some u := by
  intro j u hj
  have e : (⟨g, 0, none⟩ : Addr).add j = ⟨g, j, none⟩ := by unfold Addr.add; split <;> simp_all
  have hl : j < l.length := by
    have := (List.getElem?_eq_some_iff.1 hj).1; rwa [cellsB_len] at this
  rw [e, hc j hl, ← hj]; simp [cellsB, List.getElem?_eq_getElem hl]
theorem conv_same (w : World) : ∃ W, (convert 37 37 (.slice (some ⟨w.heap.size, 0, none⟩) 2 2)).run Try.prog (w.alloc (.cells #[.int .u8 82, .int .u8 77] 5)) = .ok (.slice (some ⟨w.heap.size, 0, none⟩) 2 2) W ∧
    Below w.heap.size w W ∧ W.heap.size = w.heap.size + 1 ∧ W.cell? ⟨w.heap.size, 0, none⟩ = some (.int .u8 82) ∧ W.cell? ⟨w.heap.size, 1, none⟩ = some (.int .u8 77) := by
  have hsh : (w.alloc (.cells #[.int .u8 82, .int .u8 77] 5)).shape? w.heap.size = some (5, 2) := by
    simp [World.shape?, World.alloc, -World.alloc_eq]
  have hblk : ((w.alloc (.cells #[.int .u8 82, .int .u8 77] 5)).freeze ⟨w.heap.size, 2, none⟩ 1).heap[w.heap.size]? = some (.cells #[.int .u8 82, .int .u8 77] 5 (2, 3)) := by
    simp [World.freeze, World.alloc, -World.alloc_eq]
    rw [Array.getElem_modify_self]
    simp
  refine ⟨(w.alloc (.cells #[.int .u8 82, .int .u8 77] 5)).freeze ⟨w.heap.size, 2, none⟩ 1, ?_, ⟨rfl, rfl, rfl, ?_, ?_⟩, ?_, ?_, ?_⟩
  · simp [convert, run_underlying Try.underlying37, run_underlying Try.underlying5, markStringish, hsh, Result.andThen]
  · simp [World.freeze, World.alloc, -World.alloc_eq]
  · intro k hk
    have h1 : w.heap.size ≠ k := by omega
    simp [World.freeze, World.alloc, -World.alloc_eq, Array.getElem?_modify, Array.getElem?_push, h1, Ne.symm h1]
  · simp [World.freeze, World.alloc, -World.alloc_eq]
  · simp only [World.cell?, hblk]; rfl
  · simp only [World.cell?, hblk]; rfl
/-- Bytes back to a text. -/
def strOf (l : List Int) : ByteArray := ⟨(l.map (fun x => UInt8.ofNat x.toNat)).toArray⟩
theorem bytesOf_str (l : List Int) (h : isB l) : bytesOf (strOf l) = l := by
  simp only [bytesOf, strOf, List.map_map]
  conv => rhs; rw [← List.map_id l]
  apply List.map_congr_left
  intro x hx
  have := h x hx
  simp; omega
theorem foldl_push (l : List Int) : ∀ r : ByteArray, l.foldl (fun r n => r.push (UInt8.ofNat n.toNat)) r = ⟨r.data ++ (l.map (fun x => UInt8.ofNat x.toNat)).toArray⟩ := by
  induction l with
  | nil => intro r; simp
  | cons x l ih => intro r; rw [List.foldl_cons, ih]; simp [ByteArray.push]
theorem conv_back {w : World} {base : Nat} {v : Value} {l : List Int} (h : BV w base v l) (hl : l ≠ []) : (convert 37 9 v).run Try.prog w = .ok (.string (strOf l)) w := by
  obtain ⟨g, cap, rfl, _, _, hc⟩ := h.cells hl
  rw [run_convert_bytes_string _ 37 9 5 _ _ _ Try.underlying37 Try.underlying5 Try.underlying9]
  have hl := run_loadCells_list (P := Try.prog) w ⟨g, 0, none⟩ (cellsB l) (cellsB_at hc)
  rw [cellsB_len] at hl
  rw [run_bytesToString w ⟨g, 0, none⟩ l.length cap l hl, foldl_push]
  simp [strOf]
/-- The tail, k bytes of it laid. -/
structure TailAt (l3 : List Int) (c k q : Nat) (l : List Int) : Prop where
  q : q = c / 256 ^ k
  l : l = l3 ++ (tail4 c).take k
theorem TailAt.step {l3 : List Int} {c k q : Nat} {l : List Int} (h : TailAt l3 c k q l) (hk : k < 4) (hc : c < 2 ^ 32) : TailAt l3 c (k + 1) (q / 256) (l ++ [(q : Int) % 256]) := by
  obtain ⟨hq, hl⟩ := h
  subst hq hl
  refine ⟨by rw [Nat.div_div_eq_div_mul, Nat.pow_succ], ?_⟩
  rw [List.append_assoc]
  congr 1
  match k, hk with
  | 0, _ => simp [tail4]
  | 1, _ => simp [tail4]
  | 2, _ => simp [tail4]
  | 3, _ => simp [tail4]; omega
theorem vint_ne (n : Nat) : vint n ≠ [] := by unfold vint; split <;> simp

set_option maxHeartbeats 400000 in
set_option maxRecDepth 20000 in
theorem pack_short (s : ByteArray) (w : World) (h : s.size ≤ 200) :
    Calls Try.prog 20 #[.string s] w fun e w' => (∃ r, e = .returned (.tuple #[.string r, .int .i64 0]) ∧ bytesOf r = packL (bytesOf s)) ∧ Below w.heap.size w w' := by
  obtain ⟨i0, hi, hz0, hz1, hz2⟩ := infoParts Try.infoByte
  have hlen := vint_len s.size
  have hv2 : (vint s.size).length ≤ 2 := by rw [hlen]; split <;> omega
  have hv1 : 1 ≤ (vint s.size).length := by rw [hlen]; split <;> omega
  clear hlen
  obtain ⟨W, hcv, B0, hW, c0, c1⟩ := conv_same w
  go_enter Try.func20, Try.ntmps20
  go_wp2_with fail
  refine (digits_any s.size _ h).mono ?_
  rintro e w1 ⟨v1, rfl, D1, hb1⟩
  have k0 : w1.cell? ⟨w.heap.size, 0, none⟩ = some (.int .u8 82) := (hb1.cell (by show w.heap.size < _; omega)).trans c0
  have k1 : w1.cell? ⟨w.heap.size, 1, none⟩ = some (.int .u8 77) := (hb1.cell (by show w.heap.size < _; omega)).trans c1
  have B1 := B0.trans (hb1.mono (by omega))
  have hs1 := B1.size
  obtain ⟨g, cp, rfl, hbg, hgs, hc⟩ := D1.cells (vint_ne _)
  clear B0 hb1 c0 c1 hcv
  go_wp2_with (at_builtin; refine wpList_append_grows _ rfl _ _ 37 rfl 5 i0 (.int .u8 0) 1 1 Try.underlying37 hi hz0 hz1 hz2 rfl (by decide) (some ⟨w.heap.size, 0, none⟩) 2 2 (cellsB [82, 77]) rfl (by simp) rfl ?c0 ⟨g, 0, none⟩ (vint s.size).length cp (cellsB (vint s.size)) rfl (by rw [cellsB_len, Nat.mul_one]) (cellsB_at hc) (cellsB_one _) (by omega) (by unfold maxLen; omega) (by omega) ?_)
  case c0 => 
    intro b hb j u hj
    cases hb
    match j, hj with
    | 0, hj => simp [cellsB] at hj; subst hj; simpa [Addr.add] using k0
    | 1, hj => simp [cellsB] at hj; subst hj; simpa [Addr.add] using k1
  intro v2 w2 hown hgr
  have V2 : BV w2 w1.heap.size v2 (([82, 77] : List Int) ++ vint s.size) := by
    unfold BV; rw [cellsB_app, List.length_append]; exact hown
  have B2 : Below w.heap.size w w2 := B1.grown hgr hs1 (by simp)
  have hs2 := B2.size
  have hl2 : (([82, 77] : List Int) ++ vint s.size).length ≤ 4 := by simp; omega
  have hs12 := hgr.size
  obtain ⟨a2, cp2, hv⟩ := V2.shape
  clear hown hgr B1 k0 k1 hc D1 hbg hgs hW
  obtain ⟨l2, hl2e⟩ : ∃ l2, l2 = ([82, 77] : List Int) ++ vint s.size := ⟨_, rfl⟩
  rw [← hl2e] at V2 hl2 hv
  subst hv
  have HL : Hid (l2 = ([82, 77] : List Int) ++ vint s.size) := hl2e
  clear hl2e
  go_wp2_with (at_builtin; refine Lib.wpList_append_own_string _ rfl _ _ 37 9 rfl w1.heap.size 5 i0 Try.underlying37 Try.underlying9 hi hz0 hz1 hz2 _ _ _ rfl V2 s rfl (by unfold maxLen; omega) (by omega) hs12 ?_)
  intro v3 w3 hown hgr _
  have V3 : BV w3 w1.heap.size v3 (headL (bytesOf s)) := by
    unfold BV; rw [headL, cellsB_app, List.length_append, ← strCells_bytes, bytesOf_len, ← HL.out]; exact hown
  have B3 : Below w.heap.size w w3 := V2.grown B2 hgr hs1 hs2
  have hs3 : w1.heap.size ≤ w3.heap.size := Nat.le_trans hs12 hgr.size
  have hne : headL (bytesOf s) ≠ [] := by simp [headL]
  have hl3 : (headL (bytesOf s)).length ≤ 204 := by rw [headL_len, bytesOf_len]; split <;> omega
  have hB := isB_head (bytesOf s) (by rw [bytesOf_len]; exact h) (isB_bytes s)
  obtain ⟨g3, cp3, rfl, hbg, hgs, hc⟩ := V3.cells hne
  clear hown hgr V2 B2 hs2 hs12
  obtain ⟨l3, hl3e⟩ : ∃ l3, l3 = headL (bytesOf s) := ⟨_, rfl⟩
  have hpk : packL (bytesOf s) = l3 ++ tail4 (crcL l3).toNat := by rw [hl3e]; rfl
  rw [← hl3e] at V3 hl3 hB hc hne ⊢
  have HP : Hid (packL (bytesOf s) = l3 ++ tail4 (crcL l3).toNat) := hpk
  clear hl3e hpk HL
  go_wp2_with fail
  refine (crcp_any g3 cp3 l3 w3 hB (by omega) hc).mono ?_
  rintro e w' ⟨rfl, rfl⟩
  have hcl := (crcL l3).isLt
  obtain ⟨c, hcc⟩ : ∃ c, c = (crcL l3).toNat := ⟨_, rfl⟩
  rw [← hcc] at HP hcl ⊢
  clear hcc hc hbg hgs hB
  go_wp2
  go_loopw [4, 6, 7] (fun v sm i wr => ∃ (k q : Nat) (l : List Int), k ≤ 4 ∧ i = .int .i64 k ∧ sm = .int .u32 q ∧ q < 4294967296 ∧ l.length ≤ l3.length + k ∧ Hid (TailAt l3 c k q l) ∧ BV wr w1.heap.size v l ∧ Below w.heap.size w wr ∧ w1.heap.size ≤ wr.heap.size) (fun _ _ i _ => 4 - (intOf i).toNat)
  case atStart => exact ⟨0, c, l3, Nat.zero_le _, rfl, rfl, hcl, Nat.le_refl _, ⟨by simp, by simp⟩, V3, B3, hs3⟩
  case round =>
    obtain ⟨k, q, l, hk, rfl, rfl, hq, hl, HT, V, B, hs⟩ := hrel
    obtain ⟨a, cp, rfl⟩ := V.shape
    by_cases hlt : k < 4
    · have hl' : l.length ≤ 208 := by omega
      go_wp2_with (at_builtin; refine wpList_append_own _ rfl _ _ 37 rfl w1.heap.size 5 i0 (.int .u8 0) 1 1 Try.underlying37 hi hz0 hz1 hz2 rfl (by decide) _ _ _ rfl (V.alloc _) ⟨wr.heap.size, 0, none⟩ 1 1 [.int .u8 ((q : Int) % 256)] rfl rfl (one_cell _ _) (one_one _) (by unfold maxLen; omega) (by omega) (by simp; omega) ?_)
      intro v4 w4 hown hgr _
      have V4 : BV w4 w1.heap.size v4 (l ++ [(q : Int) % 256]) := by
        unfold BV; rw [cellsB_app, List.length_append]; exact hown
      have hs4 : w1.heap.size ≤ w4.heap.size := Nat.le_trans hs (Nat.le_trans (by simp) hgr.size)
      have B4 := (V.alloc (.cells #[.int .u8 ((q : Int) % 256)] 5)).grown (B.alloc (Nat.le_trans hs1 hs) _) hgr hs1 (by simp; omega)
      have hqq : Hid ((q : Int) / 256 = ((q / 256 : Nat) : Int)) := by show (q : Int) / 256 = _; simp
      have hT : TailAt l3 c (k + 1) (q / 256) (l ++ [(q : Int) % 256]) := HT.out.step hlt hcl
      have hl4 : (l ++ [(q : Int) % 256]).length ≤ l3.length + (k + 1) := by simp; omega
      clear V HT hown hgr
      go_wp2
      exact ⟨⟨k + 1, q / 256, _, by omega, rfl, by rw [← hqq.out], by omega, hl4, hT, V4, B4, hs4⟩, by simp [intOf]; omega⟩
    · obtain rfl : k = 4 := by omega
      have hln : l ≠ [] := by rw [HT.out.l]; simp [hne]
      have hcv := conv_back V hln
      have hlp : l = packL (bytesOf s) := by rw [HP.out, HT.out.l]; rfl
      have hbl : isB l := by rw [hlp]; exact isB_pack _ (by rw [bytesOf_len]; exact h) (isB_bytes s)
      have HF : Hid (l = packL (bytesOf s) ∧ isB l) := ⟨hlp, hbl⟩
      clear hlp hbl
      go_wp2
      go_ret2
      exact ⟨⟨_, rfl, by rw [bytesOf_str _ HF.out.2, HF.out.1]⟩, B⟩

/-- What Pack hands back. -/
def PackPost (s : ByteArray) (w : World) (e : Ending) (w' : World) : Prop :=
  (∃ r, e = .returned (.tuple #[.string r, .int .i64 (if 200 < s.size then 1 else 0)]) ∧ bytesOf r = if 200 < s.size then [] else packL (bytesOf s)) ∧ Below w.heap.size w w'
theorem ppack_any (s : ByteArray) (w : World) (hm : s.size ≤ 9223372036854775807) : Calls Try.prog 20 #[.string s] w (PackPost s w) := by
  by_cases h : 200 < s.size
  · refine (pack_long s w h hm).mono ?_
    rintro e w' ⟨rfl, rfl⟩
    exact ⟨⟨_, by rw [if_pos h], by rw [if_pos h]; rfl⟩, Below.refl _ _⟩
  · refine (pack_short s w (by omega)).mono ?_
    rintro e w' ⟨⟨r, rfl, hr⟩, hb⟩
    exact ⟨⟨r, by rw [if_neg h], by rw [if_neg h, hr]⟩, hb⟩
end Go.Proofs.Ythckelcjncnalab
