import Derived.Test.YthckelcjncnalabPk5
import Derived.RegionTactic
import Derived.BigRegion
namespace Go.Proofs.Ythckelcjncnalab
open Go.RowKit

def pickI (c n : Int) : Int := (if c < 0 then -(c + 1) else c) % n
theorem pickI_bd (c n : Int) (h : 0 < n) : 0 ≤ pickI c n ∧ pickI c n < n := ⟨Int.emod_nonneg _ (by omega), Int.emod_lt_of_pos _ h⟩

set_option maxHeartbeats 400000 in
theorem pick_any (c n : Int) (w : World) (hn : 0 < n) (hn' : n ≤ 9223372036854775807) (h1 : -9223372036854775808 ≤ c) (h2 : c ≤ 9223372036854775807) :
    Calls Try.prog 11 #[.int .i64 c, .int .i64 n] w fun e w' => e = .returned (.int .i64 (pickI c n)) ∧ w' = w := by
  by_cases h : c < 0
  · have e : pickI c n = -((c + 1).tmod n) := by
      rw [← Int.neg_tmod, Int.tmod_eq_emod_of_nonneg (by omega : 0 ≤ -(c + 1))]; simp [pickI, h]
    rw [e]
    go_enter Try.func11, Try.ntmps11
    go_wp2
    go_ret
    exact ⟨rfl, rfl⟩
  · have e : pickI c n = c % n := by simp [pickI, h]
    rw [e]
    go_enter Try.func11, Try.ntmps11
    go_wp2
    go_ret
    exact ⟨rfl, rfl⟩

theorem addr_add (g j : Nat) : (⟨g, 0, none⟩ : Addr).add j = ⟨g, j, none⟩ := by unfold Addr.add; split <;> simp_all
theorem conv_cells {w : World} {g : Nat} {l : List Int} (cap : Nat) (hc : ∀ i, i < l.length → w.cell? ⟨g, i, none⟩ = some (.int .u8 (l[i]?.getD 0))) : (convert 37 9 (.slice (some ⟨g, 0, none⟩) l.length cap)).run Try.prog w = .ok (.string (strOf l)) w := by
  rw [run_convert_bytes_string _ 37 9 5 _ _ _ Try.underlying37 Try.underlying5 Try.underlying9]
  have hl := run_loadCells_list (P := Try.prog) w ⟨g, 0, none⟩ (cellsB l) (cellsB_at hc)
  rw [cellsB_len] at hl
  rw [run_bytesToString w ⟨g, 0, none⟩ l.length cap l hl, foldl_push]
  simp [strOf]
theorem conv_open (w : World) (s : ByteArray) : ∃ W c, (convert 9 37 (.string s)).run Try.prog w = .ok (.slice (some ⟨w.heap.size, 0, none⟩) s.size c) W ∧ Below w.heap.size w W ∧ W.heap.size = w.heap.size + 1 ∧
    (∀ j, j < s.size → W.cell? ⟨w.heap.size, j, none⟩ = some (.int .u8 ((bytesOf s)[j]?.getD 0))) ∧ (∀ j, j < s.size → W.frozen? ⟨w.heap.size, j, none⟩ = false) := by
  refine ⟨_, _, run_bytes_of_string w 9 37 5 s Try.underlying9 Try.underlying37 Try.underlying5, ((Below.refl _ w).drew).alloc (Nat.le_refl _) _, ?_, fun j hj => ?_, fun j hj => ?_⟩
  · simp
  · have h := World.cell?_alloc_mark w.drew (bytesRow s (grownCap w s.size 0 5)) 5 ((bytesRow s (grownCap w s.size 0 5)).size, (bytesRow s (grownCap w s.size 0 5)).size + 1) j
    refine h.trans ?_
    rw [bytesRow_at s _ j hj, bytesOf_get s j hj]; rfl
  · have h := World.frozen?_alloc_mark w.drew (bytesRow s (grownCap w s.size 0 5)) 5 (bytesRow s (grownCap w s.size 0 5)).size ((bytesRow s (grownCap w s.size 0 5)).size + 1) j
    refine h.trans ?_
    have hz : s.size ≤ (bytesRow s (grownCap w s.size 0 5)).size := by rw [bytesRow, Array.size_append, Array.size_map]; exact Nat.le_add_right _ _
    rw [decide_eq_false (by omega)]; rfl

set_option maxHeartbeats 400000 in
set_option maxRecDepth 20000 in
theorem round_long (s c : ByteArray) (b : Int) (w : World) (hm : s.size ≤ 9223372036854775807) (h : 200 < s.size) :
    Calls Try.prog 4 #[.string s, .int .i64 b, .string c] w fun e w' => e = .returned (.bool true) ∧ Below w.heap.size w w' := by
  go_enter Try.func4, Try.ntmps4
  go_wp2_with fail
  refine (mpack_any s w hm).mono ?_
  rintro e w1 ⟨⟨r1, rfl, hr1⟩, hb1⟩
  rw [if_pos h] at hr1 ⊢
  obtain rfl : r1 = ⟨#[]⟩ := bytes_eq hr1
  clear hr1
  go_wp2
  go_ret
  exact ⟨rfl, hb1⟩

theorem isB_flip {l : List Int} {k : Nat} (hk : k / 8 < l.length) (hl : isB l) : isB (flipL l k) := by
  intro x hx
  rcases List.mem_or_eq_of_mem_set hx with h | rfl
  · exact hl x h
  · have h1 : 0 ≤ l[k / 8]?.getD 0 ∧ l[k / 8]?.getD 0 ≤ 255 := by
      rw [List.getElem?_eq_getElem hk]; exact hl _ (List.getElem_mem hk)
    have hp : 2 ^ (k % 8) ≤ 2 ^ 7 := Nat.pow_le_pow_right (by decide) (by omega)
    have := Nat.xor_lt_two_pow (x := (l[k / 8]?.getD 0).toNat) (y := 2 ^ (k % 8)) (n := 8) (by omega) (by omega)
    omega
theorem flip_val (x : Int) (j : Nat) (h0 : 0 ≤ x) (h1 : x ≤ 255) (hj : j < 8) : bits .xor .u8 x (2 ^ j % 256) = ((x.toNat ^^^ 2 ^ j : Nat) : Int) := by
  have hp : 2 ^ j ≤ 2 ^ 7 := Nat.pow_le_pow_right (by decide) (by omega)
  have e : (2 ^ j % 256 : Int) = ((2 ^ j : Nat) : Int) := by
    rw [Int.emod_eq_of_lt]
    · simp
    · exact Int.le_of_lt (Int.pow_pos (by decide))
    · have : ((2 ^ j : Nat) : Int) < 256 := by omega
      simpa using this
  rw [e, u8_xor x _ h0 (by omega) (by omega) (by omega), Int.toNat_natCast]
theorem flip_cells {w : World} {g : Nat} {l : List Int} {k : Nat} (hk : k / 8 < l.length) (hl : isB l) (hc : ∀ i, i < l.length → w.cell? ⟨g, i, none⟩ = some (.int .u8 (l[i]?.getD 0))) :
    ∀ i, i < (flipL l k).length → ((w.setCell ⟨g, k / 8, none⟩ (.int .u8 (bits .xor .u8 (l[k / 8]?.getD 0) (2 ^ (k % 8) % 256)))).drew).cell? ⟨g, i, none⟩ = some (.int .u8 ((flipL l k)[i]?.getD 0)) := by
  intro i hi
  have hi' : i < l.length := by simpa [flipL] using hi
  have hx : 0 ≤ l[k / 8]?.getD 0 ∧ l[k / 8]?.getD 0 ≤ 255 := by
    rw [List.getElem?_eq_getElem hk]; exact hl _ (List.getElem_mem hk)
  rw [flip_val _ _ hx.1 hx.2 (by omega)]
  have h1 := hc i hi'
  have h2 := hc (k / 8) hk
  by_cases e : i = k / 8
  · subst e
    rw [flipL, List.getElem?_set_self hk]
    go_simp
  · rw [flipL, List.getElem?_set_ne (Ne.symm e)]
    go_simp

set_option maxHeartbeats 1000000 in
set_option maxRecDepth 20000 in
theorem round_short (s c : ByteArray) (b : Int) (w : World) (hmc : c.size ≤ 9223372036854775807) (h : s.size ≤ 200) (hb1 : -9223372036854775808 ≤ b) (hb2 : b ≤ 9223372036854775807) :
    Calls Try.prog 4 #[.string s, .int .i64 b, .string c] w fun e w' => e = .returned (.bool true) ∧ Below w.heap.size w w' := by
  have hls : (bytesOf s).length ≤ 200 := by rw [bytesOf_len]; exact h
  go_enter Try.func4, Try.ntmps4
  go_wp2_with fail
  refine (mpack_any s w (by omega)).mono ?_
  rintro e w1 ⟨⟨p, rfl, hp⟩, B1⟩
  rw [if_neg (by omega)] at hp ⊢
  have hpz : s.size + 7 ≤ p.size ∧ p.size ≤ s.size + 8 := by
    have e := packL_len (bytesOf s)
    rw [← hp, bytesOf_len, bytesOf_len] at e
    rw [e]; split <;> omega
  obtain ⟨hpz1, hpz2⟩ := hpz
  have HP : Hid (bytesOf p = packL (bytesOf s)) := hp
  clear hp
  go_wp2_with fail
  refine (munp_any p w1 (by omega)).mono ?_
  rintro e w2 ⟨⟨r2, x2, rfl, hr2⟩, hb2⟩
  obtain ⟨rfl, rfl⟩ : r2 = s ∧ x2 = 0 := by
    rw [HP.out, unpack_pack _ hls] at hr2
    rcases hr2 with ⟨l, h1, h2, h3⟩ | ⟨h1, _⟩
    · cases h1; exact ⟨bytes_eq h2, h3⟩
    · cases h1
  have B2 := B1.trans (hb2.mono B1.size)
  clear hr2 hb2 B1
  obtain ⟨W, cp, hcv, hBW, hWs, hcell, hfr⟩ := conv_open w2 p
  have B3 := B2.trans (hBW.mono B2.size)
  have hs2 := B2.size
  go_wp2_with fail
  refine (pick_any b (8 * p.size) W (by omega) (by omega) hb1 hb2).mono ?_
  rintro e w' ⟨rfl, rfl⟩
  obtain ⟨hk1, hk2⟩ := pickI_bd b (8 * p.size) (by omega)
  obtain ⟨k, hk⟩ : ∃ k : Nat, pickI b (8 * p.size) = k := ⟨(pickI b (8 * p.size)).toNat, by omega⟩
  rw [hk] at hk2 ⊢
  clear hk hk1 hcv
  have hk8 : k < 8 * p.size := by omega
  have hkd : k / 8 < p.size := by omega
  have hkd' : (0 : Int) ≤ ((k / 8 : Nat) : Int) ∧ ((k / 8 : Nat) : Int) < (p.size : Int) := by omega
  have c1 := hcell (k / 8) hkd
  have f1 := hfr (k / 8) hkd
  have e1 : (k : Int).tdiv 8 = ((k / 8 : Nat) : Int) := by rw [Int.tdiv_eq_ediv_of_nonneg (by omega)]; simp
  have e2 : (k : Int).tmod 8 = ((k % 8 : Nat) : Int) := by rw [Int.tmod_eq_emod_of_nonneg (by omega)]; simp
  have hk7 : k % 8 < 8 := by omega
  go_wp2
  go_region
  have hbp : (bytesOf p).length = p.size := bytesOf_len p
  have hfc := flip_cells (w := w') (g := w2.heap.size) (l := bytesOf p) (k := k) (by omega) (isB_bytes p) (by rw [hbp]; exact hcell)
  have B4 : Below w.heap.size w ((w'.setCell ⟨w2.heap.size, k / 8, none⟩ (.int .u8 (bits .xor .u8 ((bytesOf p)[k / 8]?.getD 0) (2 ^ (k % 8) % 256)))).drew) := (B3.setCell hs2 _).drew
  obtain ⟨V, hV⟩ : ∃ V, V = (w'.setCell ⟨w2.heap.size, k / 8, none⟩ (.int .u8 (bits .xor .u8 ((bytesOf p)[k / 8]?.getD 0) (2 ^ (k % 8) % 256)))).drew := ⟨_, rfl⟩
  rw [← hV] at hfc B4 ⊢
  have hcv := conv_cells (w := V) (g := w2.heap.size) cp hfc
  have hfl : (flipL (bytesOf p) k).length = p.size := by simp [flipL, hbp]
  rw [hfl] at hcv
  have hfb : bytesOf (strOf (flipL (bytesOf p) k)) = flipL (bytesOf p) k := bytesOf_str _ (isB_flip (by omega) (isB_bytes p))
  have hfu : unpackL (flipL (bytesOf p) k) = none := by rw [HP.out]; exact unpack_flip _ _ (by rw [← HP.out, hbp]; exact hk8)
  obtain ⟨q, hq⟩ : ∃ q, q = strOf (flipL (bytesOf p) k) := ⟨_, rfl⟩
  rw [← hq] at hcv hfb
  have hqz : q.size = p.size := by rw [hq, strOf_size, hfl]
  have HQ : Hid (unpackL (bytesOf q) = none) := by show unpackL (bytesOf q) = none; rw [hfb]; exact hfu
  clear hV hfc hfl hfb hfu hq hbp hk7 e1 e2 c1 f1 hkd' hkd hk8 hk2 hcell hfr B3 hBW hWs
  have hs4 := B4.size
  go_wp2_with fail
  refine (munp_any q V (by omega)).mono ?_
  rintro e w5 ⟨⟨r5, x5, rfl, hr5⟩, hb5⟩
  obtain ⟨rfl, rfl⟩ : r5 = ⟨#[]⟩ ∧ x5 = 16 := by
    rw [HQ.out] at hr5
    rcases hr5 with ⟨l, h1, _⟩ | ⟨_, h2, h3⟩
    · cases h1
    · exact ⟨bytes_eq h2, h3⟩
  have B5 := B4.trans (hb5.mono hs4)
  clear hr5 hb5 B4 hcv hs4
  have hcz : (p.extract 0 (p.size - 1)).size ≤ 9223372036854775807 := by rw [ByteArray.size_extract]; omega
  have HC : Hid (unpackL (bytesOf (p.extract 0 (p.size - 1))) = none) := by
    show _ = _
    rw [bytesOf_extract, List.drop_zero, Nat.sub_zero, ← bytesOf_len p, HP.out]; exact unpack_cut _
  go_wp2_with fail
  refine (munp_any _ w5 hcz).mono ?_
  rintro e w6 ⟨⟨r6, x6, rfl, hr6⟩, hb6⟩
  obtain ⟨rfl, rfl⟩ : r6 = ⟨#[]⟩ ∧ x6 = 16 := by
    rw [HC.out] at hr6
    rcases hr6 with ⟨l, h1, _⟩ | ⟨_, h2, h3⟩
    · cases h1
    · exact ⟨bytes_eq h2, h3⟩
  have B6 := B5.trans (hb6.mono B5.size)
  clear hr6 hb6 B5 hcz HC HQ hqz
  go_wp2_with fail
  refine (munp_any c w6 hmc).mono ?_
  rintro e w7 ⟨⟨r7, x7, rfl, hr7⟩, hb7⟩
  have B7 := B6.trans (hb7.mono B6.size)
  clear hb7 B6 HP
  rcases hr7 with ⟨l, h1, h2, rfl⟩ | ⟨_, h2, rfl⟩
  · have h3 := unpack_some h1
    have hz7 : r7.size ≤ 200 := by rw [← bytesOf_len, h2]; exact h3.1
    have HE : Hid (packL (bytesOf r7) = bytesOf c) := by show _ = _; rw [h2]; exact h3.2
    clear h1 h2 h3
    go_wp2_with fail
    refine (mpack_any r7 w7 (by omega)).mono ?_
    rintro e w8 ⟨⟨r8, rfl, hr8⟩, hb8⟩
    rw [if_neg (by omega)] at hr8 ⊢
    obtain rfl : r8 = c := bytes_eq (hr8.trans HE.out)
    have B8 := B7.trans (hb8.mono B7.size)
    clear hr8 hb8 B7 HE
    go_wp2
    go_ret
    exact ⟨rfl, B8⟩
  · obtain rfl : r7 = ⟨#[]⟩ := bytes_eq h2
    clear h2
    go_wp2
    go_ret
    exact ⟨rfl, B7⟩
theorem round_walk (s c : ByteArray) (b : Int) (w : World) (hm : s.size ≤ 9223372036854775807) (hmc : c.size ≤ 9223372036854775807) (hb1 : -9223372036854775808 ≤ b) (hb2 : b ≤ 9223372036854775807) :
    Calls Try.prog 4 #[.string s, .int .i64 b, .string c] w fun e w' => e = .returned (.bool true) ∧ Below w.heap.size w w' := by
  by_cases h : 200 < s.size
  · exact round_long s c b w hm h
  · exact round_short s c b w hmc (by omega) hb1 hb2
end Go.Proofs.Ythckelcjncnalab
