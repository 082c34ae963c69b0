import Derived.Test.YthckelcjncnalaaHf5
import Derived.Test.YthckelcjncnalaaWp1
namespace Go.Proofs.Ythckelcjncnalaa
open Go.RowKit

def wS : ByteArray := ⟨#[80, 123, 97, 58, 98, 44, 98, 58, 104, 44, 99, 58, 119, 44, 100, 58, 108, 44, 114, 58, 114, 125]⟩
def wF : List (Int × Int) := [(97, 98), (98, 104), (99, 119), (100, 108), (114, 114)]
def wC : List (Int × List (Int × Int)) := [(80, wF)]
set_option maxRecDepth 100000 in
theorem wS_ok : newE wS 6 = 0 := by kernel_rfl
set_option maxRecDepth 100000 in
theorem wS_cs : readC wS = wC := by kernel_rfl
theorem wC_fof : fof wC 80 = wF := rfl
theorem wC_6 : ∀ c ∈ wC, c.2.length ≤ 6 := by intro c hc; simp [wC] at hc; subst hc; decide
/-- The heap of the statement. -/
structure ST (w : World) (B lo hi hb : Nat) (sv : SV) (vs : List (Int × SV)) (a : Nat) (R : Nat → Nat) (K : Nat → Int) (F : Nat → Nat → Nat) (N : Nat → Nat → Int) : Prop where
  hp : HP w hb sv 6 R K N F
  cl : ClsIn w lo hi (.slice sv.a sv.n sv.c) vs wC
  b1 : B ≤ hb
  lh : hi ≤ hb
  ra : R 3 = a
  a0 : 0 < a
  a1 : a < 201
  rr : ∀ i, i < 8 → R i < 201
  ka : K a = 80
theorem ST.gb {w w' : World} {B lo hi hb : Nat} {sv : SV} {vs : List (Int × SV)} {a : Nat} {R : Nat → Nat} {K : Nat → Int} {F : Nat → Nat → Nat} {N N' : Nat → Nat → Int} (h : ST w B lo hi hb sv vs a R K F N) (hp : HP w' hb sv 6 R K N' F) (g : w.grownBy w' (some hb)) : ST w' B lo hi hb sv vs a R K F N' :=
  ⟨hp, h.cl.keep fun b _ h2 => g.block b (by have := h.hp.lt; have := h.lh; omega) (fun e => by injection e with e; have := h.lh; omega), h.b1, h.lh, h.ra, h.a0, h.a1, h.rr, h.ka⟩
theorem wfind {a : Nat} {R : Nat → Nat} {K : Nat → Int} (ra : R 3 = a) (a0 : 0 < a) (ka : K a = 80) (x : Int) (i : Nat) (k : Int) (hi : idxF wF x = i) (hk : (wF[i]?.getD (0, 0)).2 = k) : ffind wC R K 3 x = ⟨a, i, k, 0⟩ := by
  unfold ffind
  have e3 : (3 : Int).toNat = 3 := rfl
  rw [if_neg (by decide), e3, ra, if_neg (by omega), ka, wC_fof, hi, if_neg (by omega), Int.toNat_natCast, hk]
theorem wput {w : World} {B lo hi hb : Nat} {sv : SV} {vs : List (Int × SV)} {a : Nat} {R : Nat → Nat} {K : Nat → Int} {F : Nat → Nat → Nat} {N : Nat → Nat → Int} (h : ST w B lo hi hb sv vs a R K F N) (x : Int) (i : Nat) (k : Int) (hi' : idxF wF x = i) (hk : (wF[i]?.getD (0, 0)).2 = k) (hk2 : k ≠ 114) (v : Int) (h1 : -9223372036854775808 ≤ v) (h2 : v ≤ 9223372036854775807) :
    Calls Try.prog 17 #[.pointer (some ⟨hb, 0, none⟩), .int .i64 3, .int .u8 x, .int .i64 v] w fun e w' => e = .returned (.int .i64 0) ∧ ST w' B lo hi hb sv vs a R K F (set2 N a i (wrK k v)) ∧ w.grownBy w' (some hb) := by
  have C := put_any hb sv 6 R K N F lo vs wC w h.hp h.cl.cls h.rr wC_6 3 x v h1 h2
  unfold PutPost at C
  rw [wfind h.ra h.a0 h.ka x i k hi' hk] at C
  have e : fnum ⟨a, i, k, 0⟩ = ⟨a, i, k, 0⟩ := by unfold fnum; rw [if_pos rfl, if_neg hk2]
  rw [e] at C
  refine C.mono ?_
  rintro e' w' ⟨he, hp, g⟩
  exact ⟨he, h.gb hp g, g⟩
theorem wputr {w : World} {B lo hi hb : Nat} {sv : SV} {vs : List (Int × SV)} {a : Nat} {R : Nat → Nat} {K : Nat → Int} {F : Nat → Nat → Nat} {N : Nat → Nat → Int} (h : ST w B lo hi hb sv vs a R K F N) (v : Int) (h1 : -9223372036854775808 ≤ v) (h2 : v ≤ 9223372036854775807) :
    Calls Try.prog 17 #[.pointer (some ⟨hb, 0, none⟩), .int .i64 3, .int .u8 114, .int .i64 v] w fun e w' => e = .returned (.int .i64 6) ∧ ST w' B lo hi hb sv vs a R K F N ∧ w.grownBy w' (some hb) := by
  have C := put_any hb sv 6 R K N F lo vs wC w h.hp h.cl.cls h.rr wC_6 3 114 v h1 h2
  unfold PutPost at C
  rw [wfind h.ra h.a0 h.ka 114 4 114 rfl rfl] at C
  have e : fnum ⟨a, 4, 114, 0⟩ = ⟨0, 0, 0, 6⟩ := rfl
  rw [e] at C
  refine C.mono ?_
  rintro e' w' ⟨he, hp, g⟩
  exact ⟨he, h.gb hp g, g⟩
theorem wget {w : World} {B lo hi hb : Nat} {sv : SV} {vs : List (Int × SV)} {a : Nat} {R : Nat → Nat} {K : Nat → Int} {F : Nat → Nat → Nat} {N : Nat → Nat → Int} (h : ST w B lo hi hb sv vs a R K F N) (x : Int) (i : Nat) (k : Int) (hi' : idxF wF x = i) (hk : (wF[i]?.getD (0, 0)).2 = k) (hk2 : k ≠ 114) (y : Int) (hy : N a i = y) :
    Calls Try.prog 18 #[.pointer (some ⟨hb, 0, none⟩), .int .i64 3, .int .u8 x] w fun e w' => e = .returned (.tuple #[.int .i64 y, .int .i64 0]) ∧ ST w' B lo hi hb sv vs a R K F N ∧ w.grownBy w' (some hb) := by
  have C := get_any hb sv 6 R K N F lo vs wC w h.hp h.cl.cls h.rr wC_6 3 x
  unfold GetPost at C
  rw [wfind h.ra h.a0 h.ka x i k hi' hk] at C
  have e : fnum ⟨a, i, k, 0⟩ = ⟨a, i, k, 0⟩ := by unfold fnum; rw [if_pos rfl, if_neg hk2]
  rw [e] at C
  refine C.mono ?_
  rintro e' w' ⟨he, B1⟩
  refine ⟨by rw [he, if_pos rfl, hy], h.gb (h.hp.below B1) (gb_below B1 _), gb_below B1 _⟩
def p0 : PH := ⟨fun _ => 0, fun _ => 0, fun _ _ => 0, fun _ _ => 0⟩
theorem p0_no (a : Nat) : ¬ p0.in a := fun h => Rch.least (P := fun _ => False) (by rintro x ⟨i, _, rfl, hx⟩; exact hx rfl) (by rintro x y hx _; exact hx) h
theorem wmake {w : World} {B lo hi hb : Nat} {sv : SV} {vs : List (Int × SV)} (hp : HP w hb sv 6 p0.R p0.K p0.N p0.F) (cl : ClsIn w lo hi (.slice sv.a sv.n sv.c) vs wC) (hB : B ≤ hb) (lh : hi ≤ hb) :
    Calls Try.prog 16 #[.pointer (some ⟨hb, 0, none⟩), .int .i64 3, .int .u8 80] w fun e w' => e = .returned (.int .i64 0) ∧ (∃ a, ST w' B lo hi hb sv vs a (mkP p0 a 80 3).R (mkP p0 a 80 3).K (mkP p0 a 80 3).F (mkP p0 a 80 3).N) ∧ w.grownBy w' (some hb) := by
  refine (pmake_any hb sv 6 p0 lo vs wC w hp cl.cls ⟨fun i _ => by simp [p0], fun a j _ _ => by simp [p0]⟩ wC_6 (by omega) (by omega) 3 80).mono ?_
  rintro e w' ⟨L, hd, hm, he, g, _, hz⟩
  have hL : L = [] := by
    cases L with
    | nil => rfl
    | cons x l => exact absurd ((hm x).1 (by simp)) (p0_no x)
  subst hL
  have hE : pmE wC 6 3 80 (wlist wC p0.K []) = 0 := by rfl
  rw [hE] at he
  obtain ⟨a, a0, a1, _, hpa⟩ := hz hE
  refine ⟨he, ⟨a, ⟨hpa, cl.keep fun b _ h2 => g.block b (by have := hp.lt; omega) (fun e => by injection e with e; omega), hB, lh, ?_, a0, a1, fun i hi' => ?_, ?_⟩⟩, g⟩
  · show set1 (fun _ => 0) 3 a 3 = a; rw [set1_self]
  · show set1 (fun _ => 0) 3 a i < 201
    by_cases e : i = 3
    · subst e; rw [set1_self]; exact a1
    · rw [set1_ne _ _ e]; omega
  · show set1 (fun _ => (0 : Int)) a 80 a = 80; rw [set1_self]
theorem wrK_fit (k v m : Int) (hm : k = 98 ∧ m = 256 ∨ k = 104 ∧ m = 65536 ∨ k = 119 ∧ m = 4294967296) : (v - wrK k v) % m = 0 := by
  rcases hm with ⟨rfl, rfl⟩ | ⟨rfl, rfl⟩ | ⟨rfl, rfl⟩
  · have : wrK 98 v = v % 256 := rfl
    rw [this]; omega
  · have : wrK 104 v = (v + 32768) % 65536 - 32768 := rfl
    rw [this]; omega
  · have : wrK 119 v = (v + 2147483648) % 4294967296 - 2147483648 := rfl
    rw [this]; omega
theorem wrK_98 (v : Int) : 0 ≤ wrK 98 v ∧ wrK 98 v ≤ 255 := by have : wrK 98 v = v % 256 := rfl; rw [this]; omega
theorem wrK_104 (v : Int) : -32768 ≤ wrK 104 v ∧ wrK 104 v ≤ 32767 := by have : wrK 104 v = (v + 32768) % 65536 - 32768 := rfl; rw [this]; omega
theorem wrK_119 (v : Int) : -2147483648 ≤ wrK 119 v ∧ wrK 119 v ≤ 2147483647 := by have : wrK 119 v = (v + 2147483648) % 4294967296 - 2147483648 := rfl; rw [this]; omega
end Go.Proofs.Ythckelcjncnalaa
