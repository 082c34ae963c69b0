import Derived.Test.YthckelcjncnalaaPk4
import Derived.Test.YthckelcjncnalaaPc2
namespace Go.Proofs.Ythckelcjncnalaa
open Go.RowKit

set_option maxHeartbeats 400000 in
set_option maxRecDepth 20000 in
theorem rpack_small (s : ByteArray) (w : World) (h : s.size ≤ 127) :
    Calls Try.prog 8 #[.string s] w (PackPost s w) := by
  have hcv1 : (convert 42 9 (.slice (some ⟨w.heap.size, 0, none⟩) 1 1)).run Try.prog (w.alloc (.cells #[.int .u8 s.size] 5)) = .ok (.string (strOf [(s.size : Int)])) (w.alloc (.cells #[.int .u8 s.size] 5)) := conv_row w [(s.size : Int)] (by simp) (by simp)
  have hz := strOf_size [(s.size : Int)]
  simp at hz
  go_enter Try.func8, Try.ntmps8
  go_wp2_with fail
  refine (crcr_any _ _ ?_).mono ?_
  · rw [ByteArray.size_append, ByteArray.size_append, hz]; show 2 + 1 + s.size ≤ 4096; omega
  rintro e w' ⟨rfl, rfl⟩
  have ht : bytesOf ((⟨#[82, 77]⟩ : ByteArray) ++ strOf [(s.size : Int)] ++ s) = headL (bytesOf s) := by
    rw [bytesOf_app, bytesOf_app, bytesOf_str _ (by intro x hx; simp at hx; omega), headL, bytesOf_len, vint, if_pos (by omega)]; rfl
  obtain ⟨t, hte⟩ : ∃ t, t = (⟨#[82, 77]⟩ : ByteArray) ++ strOf [(s.size : Int)] ++ s := ⟨_, rfl⟩
  have htz : t.size ≤ 204 := by rw [hte, ByteArray.size_append, ByteArray.size_append, hz]; show 2 + 1 + s.size ≤ 204; omega
  rw [← hte] at ht ⊢
  clear hte hz
  have hcl := (crcL (bytesOf t)).isLt
  obtain ⟨c, hcc⟩ : ∃ c, c = (crcL (bytesOf t)).toNat := ⟨_, rfl⟩
  have HP : Hid (packL (bytesOf s) = bytesOf t ++ tail4 c) := by show _ = _; rw [packL, hcc, ht]
  have HB : Hid (isB (tail4 c)) := by rw [hcc]; exact isB_tail _
  rw [← hcc] at hcl ⊢
  clear hcc ht
  have hcv4 := conv_row (w.alloc (.cells #[.int .u8 s.size] 5)) (tail4 c) (by simp [tail4]) (by simp [tail4])
  have hz4 : (strOf (tail4 c)).size = 4 := strOf_size (tail4 c)
  obtain ⟨r4, hr4⟩ : ∃ r4, r4 = strOf (tail4 c) := ⟨_, rfl⟩
  have HR : Hid (r4 = strOf (tail4 c)) := hr4
  rw [← hr4] at hcv4 hz4
  clear hr4
  have hcv4 : (convert 42 9 (.slice (some ⟨w.heap.size + 1, 0, none⟩) 4 4)).run Try.prog ((w.alloc (.cells #[.int .u8 s.size] 5)).alloc (.cells #[.int .u8 ((c : Int) % 256), .int .u8 ((c : Int) / 256 % 256), .int .u8 ((c : Int) / 65536 % 256), .int .u8 ((c : Int) / 16777216)] 5)) = .ok (.string r4) ((w.alloc (.cells #[.int .u8 s.size] 5)).alloc (.cells #[.int .u8 ((c : Int) % 256), .int .u8 ((c : Int) / 256 % 256), .int .u8 ((c : Int) / 65536 % 256), .int .u8 ((c : Int) / 16777216)] 5)) := by simpa [cellsB, tail4] using hcv4
  go_wp2
  go_ret2
  refine packPost_short (r := t ++ r4) (by omega) (by rw [bytesOf_app, HR.out, bytesOf_str _ HB.out, HP.out]) ?_
  exact ((Below.refl _ _).alloc (Nat.le_refl _) _).alloc (by simp) _
set_option maxHeartbeats 400000 in
set_option maxRecDepth 20000 in
theorem rpack_great (s : ByteArray) (w : World) (h : 128 ≤ s.size) (h2 : s.size ≤ 200) :
    Calls Try.prog 8 #[.string s] w (PackPost s w) := by
  have hcv1 : (convert 42 9 (.slice (some ⟨w.heap.size, 0, none⟩) 1 1)).run Try.prog (w.alloc (.cells #[.int .u8 s.size] 5)) = .ok (.string (strOf [(s.size : Int)])) (w.alloc (.cells #[.int .u8 s.size] 5)) := conv_row w [(s.size : Int)] (by simp) (by simp)
  have hcv2 : (convert 42 9 (.slice (some ⟨(w.alloc (.cells #[.int .u8 s.size] 5)).heap.size, 0, none⟩) 2 2)).run Try.prog ((w.alloc (.cells #[.int .u8 s.size] 5)).alloc (.cells #[.int .u8 s.size, .int .u8 1] 5)) = .ok (.string (strOf [(s.size : Int), 1])) ((w.alloc (.cells #[.int .u8 s.size] 5)).alloc (.cells #[.int .u8 s.size, .int .u8 1] 5)) := conv_row (w.alloc (.cells #[.int .u8 s.size] 5)) [(s.size : Int), 1] (by simp) (by simp)
  have hsz : (w.alloc (.cells #[.int .u8 s.size] 5)).heap.size = w.heap.size + 1 := by simp
  rw [hsz] at hcv2; clear hsz
  have e1 : (s.size : Int).tmod 128 = (s.size : Int) - 128 := by rw [Int.tmod_eq_emod_of_nonneg (by omega)]; omega
  have e2 : (s.size : Int) / 128 = 1 := by omega
  have e3 : (s.size : Int) % 128 = (s.size : Int) - 128 := by omega
  have hz := strOf_size [(s.size : Int), 1]
  simp at hz
  go_enter Try.func8, Try.ntmps8
  go_wp2_with fail
  refine (crcr_any _ _ ?_).mono ?_
  · rw [ByteArray.size_append, ByteArray.size_append, hz]; show 2 + 2 + s.size ≤ 4096; omega
  rintro e w' ⟨rfl, rfl⟩
  have ht : bytesOf ((⟨#[82, 77]⟩ : ByteArray) ++ strOf [(s.size : Int), 1] ++ s) = headL (bytesOf s) := by
    rw [bytesOf_app, bytesOf_app, bytesOf_str _ (by intro x hx; simp at hx; omega), headL, bytesOf_len, vint, if_neg (by omega), show ((s.size % 128 + 128 : Nat) : Int) = s.size by omega, show ((s.size / 128 : Nat) : Int) = 1 by omega]; rfl
  obtain ⟨t, hte⟩ : ∃ t, t = (⟨#[82, 77]⟩ : ByteArray) ++ strOf [(s.size : Int), 1] ++ s := ⟨_, rfl⟩
  have htz : t.size ≤ 204 := by rw [hte, ByteArray.size_append, ByteArray.size_append, hz]; show 2 + 2 + s.size ≤ 204; omega
  rw [← hte] at ht ⊢
  clear hte hz
  have hcl := (crcL (bytesOf t)).isLt
  obtain ⟨c, hcc⟩ : ∃ c, c = (crcL (bytesOf t)).toNat := ⟨_, rfl⟩
  have HP : Hid (packL (bytesOf s) = bytesOf t ++ tail4 c) := by show _ = _; rw [packL, hcc, ht]
  have HB : Hid (isB (tail4 c)) := by rw [hcc]; exact isB_tail _
  rw [← hcc] at hcl ⊢
  clear hcc ht
  have hcv4 := conv_row ((w.alloc (.cells #[.int .u8 s.size] 5)).alloc (.cells #[.int .u8 s.size, .int .u8 1] 5)) (tail4 c) (by simp [tail4]) (by simp [tail4])
  have hz4 : (strOf (tail4 c)).size = 4 := strOf_size (tail4 c)
  obtain ⟨r4, hr4⟩ : ∃ r4, r4 = strOf (tail4 c) := ⟨_, rfl⟩
  have HR : Hid (r4 = strOf (tail4 c)) := hr4
  rw [← hr4] at hcv4 hz4
  clear hr4
  have hcv4 : (convert 42 9 (.slice (some ⟨w.heap.size + 1 + 1, 0, none⟩) 4 4)).run Try.prog (((w.alloc (.cells #[.int .u8 s.size] 5)).alloc (.cells #[.int .u8 s.size, .int .u8 1] 5)).alloc (.cells #[.int .u8 ((c : Int) % 256), .int .u8 ((c : Int) / 256 % 256), .int .u8 ((c : Int) / 65536 % 256), .int .u8 ((c : Int) / 16777216)] 5)) = .ok (.string r4) (((w.alloc (.cells #[.int .u8 s.size] 5)).alloc (.cells #[.int .u8 s.size, .int .u8 1] 5)).alloc (.cells #[.int .u8 ((c : Int) % 256), .int .u8 ((c : Int) / 256 % 256), .int .u8 ((c : Int) / 65536 % 256), .int .u8 ((c : Int) / 16777216)] 5)) := by simpa [cellsB, tail4] using hcv4
  go_wp2
  go_ret2
  refine packPost_short (r := t ++ r4) (by omega) (by rw [bytesOf_app, HR.out, bytesOf_str _ HB.out, HP.out]) ?_
  exact (((Below.refl _ _).alloc (Nat.le_refl _) _).alloc (by simp) _).alloc (by simp; omega) _
set_option maxHeartbeats 400000 in
theorem rpack_long (s : ByteArray) (w : World) (h : 200 < s.size) (hm : s.size ≤ 9223372036854775807) :
    Calls Try.prog 8 #[.string s] w (PackPost s w) := by
  go_enter Try.func8, Try.ntmps8
  go_wp2
  go_ret2
  exact packPost_long h (Below.refl _ _)
theorem rpack_any (s : ByteArray) (w : World) (hm : s.size ≤ 9223372036854775807) : Calls Try.prog 8 #[.string s] w (PackPost s w) := by
  by_cases h : 200 < s.size
  · exact rpack_long s w h hm
  by_cases h2 : s.size ≤ 127
  · exact rpack_small s w h2
  · exact rpack_great s w (by omega) (by omega)
end Go.Proofs.Ythckelcjncnalaa
