import Derived.Test.YtbgilndohccicaaGreatDoorBz26
namespace Go.Proofs.YtbgilndohccicaaGreatDoor
open Go.RowKit
structure Row5u (w:World) (g i:Nat) (n s p sa:Int) (a:Option Addr) (l c:Nat):Prop where
 c0:w.cell? ⟨g,i * 5,none⟩=some (.int .u8 n)
 c1:w.cell? ⟨g,i * 5+1,none⟩=some (.int .u8 s)
 c2:w.cell? ⟨g,i * 5+2,none⟩=some (.int .i64 p)
 c3:w.cell? ⟨g,i * 5+3,none⟩=some (.int .i64 sa)
 c4:w.cell? ⟨g,i * 5+4,none⟩=some (.slice a l c)
theorem Row5u.below {w w':World} {g i:Nat} {n s p sa:Int} {a:Option Addr} {l c:Nat} (h:Row5u w g i n s p sa a l c) (hb:Below w.heap.size w w') (hg:g < w.heap.size):Row5u w' g i n s p sa a l c :=
 ⟨(hb.cell (by exact hg)).trans h.c0,(hb.cell (by exact hg)).trans h.c1,(hb.cell (by exact hg)).trans h.c2,(hb.cell (by exact hg)).trans h.c3,(hb.cell (by exact hg)).trans h.c4⟩
structure OldN (w:World) (g m:Nat) (N:Nat→Int):Prop where
 lt:g < w.heap.size
 le:m≤1000
 nm:∀ i,i < m→w.cell? ⟨g,i * 5,none⟩=some (.int .u8 (N i))
theorem OldN.below {w w':World} {g m:Nat} {N:Nat→Int} (h:OldN w g m N) (hb:Below w.heap.size w w'):OldN w' g m N :=
 ⟨Nat.lt_of_lt_of_le h.lt hb.size,h.le,fun i hi=>(hb.cell (by exact h.lt)).trans (h.nm i hi)⟩
theorem umade_of (x0 x1 x2 x3:Int) (a:Option Addr) (n c:Nat) (g cap m:Nat) (N:Nat→Int) (w:World) (h:OldN w g m N) (y:Int) (hy:madeI N m x0 x1=y) :
  Calls Tryz.prog 92 #[.agg #[.int .u8 x0,.int .u8 x1,.int .i64 x2,.int .i64 x3,.slice a n c],.slice (some ⟨g,0,none⟩) m cap] w fun e w'=>e=.returned (.int .u8 y)∧Below w.heap.size w w':=by
 rw [← hy]; exact umade_any x0 x1 x2 x3 a n c g cap m N w h.lt h.le h.nm
def Same2 (N M:Nat→Int) (i k:Nat):Prop:=N i=N k∨(M i≠0∧M i=M k)
def VY (N M P:Nat→Int) (i k:Nat) (p:Int):Prop:=∃ k',k' < k∧Same2 N M i k'∧p=P i
def VDs (N M P:Nat→Int) (FL:Nat→Nat) (FN FP:Nat→Nat→Int) (i:Nat) (p:Int):Prop:=∃ i',i' < i∧(VY N M P i' i' p∨VXs (FN i') (FP i') (FL i') p)
theorem VY_zero (N M P:Nat→Int) (i:Nat) (p:Int):¬ VY N M P i 0 p:=fun ⟨_,h,_⟩=>by omega
theorem VDs_zero (N M P:Nat→Int) (FL:Nat→Nat) (FN FP:Nat→Nat→Int) (p:Int):¬ VDs N M P FL FN FP 0 p:=fun ⟨_,h,_⟩=>by omega
theorem VY_succ (N M P:Nat→Int) (i k:Nat) (p:Int):VY N M P i (k+1) p↔VY N M P i k p∨(Same2 N M i k∧p=P i):=by
 constructor
 ·rintro ⟨k',hk,h1,h2⟩
  rcases Nat.lt_succ_iff_lt_or_eq.1 hk with h | rfl
  ·exact .inl ⟨k',h,h1,h2⟩
  ·exact .inr ⟨h1,h2⟩
 ·rintro (⟨k',hk,h1,h2⟩ | ⟨h1,h2⟩)
  ·exact ⟨k',by omega,h1,h2⟩
  ·exact ⟨k,by omega,h1,h2⟩
theorem VDs_succ (N M P:Nat→Int) (FL:Nat→Nat) (FN FP:Nat→Nat→Int) (i:Nat) (p:Int):VDs N M P FL FN FP (i+1) p↔(VDs N M P FL FN FP i p∨VY N M P i i p)∨VXs (FN i) (FP i) (FL i) p:=by
 constructor
 ·rintro ⟨i',hi,h⟩
  rcases Nat.lt_succ_iff_lt_or_eq.1 hi with h' | rfl
  ·exact .inl (.inl ⟨i',h',h⟩)
  ·rcases h with h | h
   ·exact .inl (.inr h)
   ·exact .inr h
 ·rintro ((⟨i',hi,h⟩ | h) | h)
  ·exact ⟨i',by omega,h⟩
  ·exact ⟨i,by omega,.inl h⟩
  ·exact ⟨i,by omega,.inr h⟩
set_option maxRecDepth 100000 in
set_option maxHeartbeats 8000000 in
theorem utwice_row (g cap n og ocap om:Nat) (ON:Nat→Int) (N S M P SA:Nat→Int) (FA:Nat→Option Addr) (FG FL FC:Nat→Nat) (FN FP:Nat→Nat→Int) (w:World) (hg:g < w.heap.size) (hn:n≤1000) (hfl:∀ i,FL i≤1000)
  (hO:OldN w og om ON) (hM:∀ i,i < n→madeI ON om (N i) (S i)=M i)
  (hP:∀ i,0≤P i) (hFP:∀ i j,0≤FP i j)
  (hc:∀ i,i < n→Row5u w g i (N i) (S i) (P i) (SA i) (FA i) (FL i) (FC i))
  (hf:∀ i j,i < n→j < FL i→FA i=some ⟨FG i,0,none⟩∧FG i < w.heap.size∧Row7 w (FG i) j (FN i j) (FP i j)) :
  Calls Tryz.prog 57 #[.slice (some ⟨g,0,none⟩) n cap,.slice (some ⟨og,0,none⟩) om ocap] w fun e w'=>∃ b,e=.returned (.int .i64 b)∧Least (VDs N M P FL FN FP n) b∧Below w.heap.size w w':=by
 have HC:Hid (∀ i,i < n→Row5u w g i (N i) (S i) (P i) (SA i) (FA i) (FL i) (FC i)):=hc
 have HF:Hid (∀ i j,i < n→j < FL i→FA i=some ⟨FG i,0,none⟩∧FG i < w.heap.size∧Row7 w (FG i) j (FN i j) (FP i j)):=hf
 have HP:Hid (∀ i,0≤P i):=hP
 have HFP:Hid (∀ i j,0≤FP i j):=hFP
 have HFL:Hid (∀ i,FL i≤1000):=hfl
 have HO:Hid (OldN w og om ON):=hO
 have HM:Hid (∀ i,i < n→madeI ON om (N i) (S i)=M i):=hM
 clear hc hf hP hFP hfl hO hM
 go_enter Tryz.func57,Tryz.ntmps57
 go_wp2
 go_loopw [5,6] (fun bv iv wr=>∃ (i:Nat) (b:Int),i≤n∧iv=.int .i64 i∧bv=.int .i64 b∧Least (VDs N M P FL FN FP i) b∧Below w.heap.size w wr) (fun _ iv _=>n - (intOf iv).toNat)
 case atStart=>exact ⟨0,-1,by omega,rfl,rfl,.inl ⟨rfl,fun p=>VDs_zero _ _ _ _ _ _ p⟩,Below.refl _ _⟩
 case round =>
  obtain ⟨i,b,hi,rfl,rfl,hL,hb⟩:=hrel
  by_cases hlt:i < n
  ·go_wp2
   go_loopw [5,7] (fun bv kv wr=>∃ (k:Nat) (b:Int),k≤i∧kv=.int .i64 k∧bv=.int .i64 b∧Least (fun p=>VDs N M P FL FN FP i p∨VY N M P i k p) b∧Below w.heap.size w wr) (fun _ kv _=>i - (intOf kv).toNat)
   case atStart=>exact ⟨0,b,by omega,rfl,rfl,hL.congr (fun p=>by simp [VY_zero]),hb⟩
   case round =>
    clear hL hb
    obtain ⟨k,b2,hk,rfl,rfl,hL,hb⟩:=hrel
    have hpi:=HP.out i
    by_cases hki:k < i
    ·have hkn:k < n:=by omega
     obtain ⟨i0,i1,i2,i3,i4⟩:=(HC.out i hlt).below hb hg
     obtain ⟨k0,k1,k2,k3,k4⟩:=(HC.out k hkn).below hb hg
     by_cases heq:N i=N k
     ·have heq':(N i==N k)=true:=by simpa using heq
      have hq:Same2 N M i k:=.inl heq
      by_cases hb0:b2 < 0
      ·have hL':Least (fun p=>VDs N M P FL FN FP i p∨VY N M P i (k+1) p) (P i):=look_hit (hL.low hb0 hpi) (fun p=>VY_succ N M P i k p) hq
       clear hL hq heq
       go_wp2_with fail
       refine (umade_of (N i) (S i) (P i) (SA i) (FA i) (FL i) (FC i) og ocap om ON _ (HO.out.below hb) (M i) (HM.out i hlt)).mono ?_
       rintro e w1 ⟨rfl,hb1⟩
       have hb:=hb.trans (hb1.mono hb.size)
       clear hb1
       obtain ⟨i0,i1,i2,i3,i4⟩:=(HC.out i hlt).below hb hg
       obtain ⟨k0,k1,k2,k3,k4⟩:=(HC.out k hkn).below hb hg
       go_wp2_with fail
       refine (umade_of (N k) (S k) (P k) (SA k) (FA k) (FL k) (FC k) og ocap om ON _ (HO.out.below hb) (M k) (HM.out k hkn)).mono ?_
       rintro e w2 ⟨rfl,hb1⟩
       have hb:=hb.trans (hb1.mono hb.size)
       clear hb1
       obtain ⟨i0,i1,i2,i3,i4⟩:=(HC.out i hlt).below hb hg
       obtain ⟨k0,k1,k2,k3,k4⟩:=(HC.out k hkn).below hb hg
       go_wp2
       go_quiet (fail)
       go_wp2
       go_roundw
       case rel=>exact ⟨k+1,P i,by omega,by go_num,rfl,hL',below_drewN hb nq⟩
       case measure=>simp [intOf]; omega
      ·by_cases hb1:P i < b2
       ·have hL':Least (fun p=>VDs N M P FL FN FP i p∨VY N M P i (k+1) p) (P i):=look_hit (hL.less hb1 hpi) (fun p=>VY_succ N M P i k p) hq
        clear hL hq heq
        go_wp2_with fail
        refine (umade_of (N i) (S i) (P i) (SA i) (FA i) (FL i) (FC i) og ocap om ON _ (HO.out.below hb) (M i) (HM.out i hlt)).mono ?_
        rintro e w1 ⟨rfl,hb1⟩
        have hb:=hb.trans (hb1.mono hb.size)
        clear hb1
        obtain ⟨i0,i1,i2,i3,i4⟩:=(HC.out i hlt).below hb hg
        obtain ⟨k0,k1,k2,k3,k4⟩:=(HC.out k hkn).below hb hg
        go_wp2_with fail
        refine (umade_of (N k) (S k) (P k) (SA k) (FA k) (FL k) (FC k) og ocap om ON _ (HO.out.below hb) (M k) (HM.out k hkn)).mono ?_
        rintro e w2 ⟨rfl,hb1⟩
        have hb:=hb.trans (hb1.mono hb.size)
        clear hb1
        obtain ⟨i0,i1,i2,i3,i4⟩:=(HC.out i hlt).below hb hg
        obtain ⟨k0,k1,k2,k3,k4⟩:=(HC.out k hkn).below hb hg
        go_wp2
        go_quiet (fail)
        go_wp2
        go_roundw
        case rel=>exact ⟨k+1,P i,by omega,by go_num,rfl,hL',below_drewN hb nq⟩
        case measure=>simp [intOf]; omega
       ·have hL':Least (fun p=>VDs N M P FL FN FP i p∨VY N M P i (k+1) p) b2:=look_hit (hL.keep hb0 hb1) (fun p=>VY_succ N M P i k p) hq
        clear hL hq heq
        go_wp2_with fail
        refine (umade_of (N i) (S i) (P i) (SA i) (FA i) (FL i) (FC i) og ocap om ON _ (HO.out.below hb) (M i) (HM.out i hlt)).mono ?_
        rintro e w1 ⟨rfl,hb1⟩
        have hb:=hb.trans (hb1.mono hb.size)
        clear hb1
        obtain ⟨i0,i1,i2,i3,i4⟩:=(HC.out i hlt).below hb hg
        obtain ⟨k0,k1,k2,k3,k4⟩:=(HC.out k hkn).below hb hg
        go_wp2_with fail
        refine (umade_of (N k) (S k) (P k) (SA k) (FA k) (FL k) (FC k) og ocap om ON _ (HO.out.below hb) (M k) (HM.out k hkn)).mono ?_
        rintro e w2 ⟨rfl,hb1⟩
        have hb:=hb.trans (hb1.mono hb.size)
        clear hb1
        obtain ⟨i0,i1,i2,i3,i4⟩:=(HC.out i hlt).below hb hg
        obtain ⟨k0,k1,k2,k3,k4⟩:=(HC.out k hkn).below hb hg
        go_wp2
        go_quiet (fail)
        go_wp2
        go_roundw
        case rel=>exact ⟨k+1,b2,by omega,by go_num,rfl,hL',below_drewN hb nq⟩
        case measure=>simp [intOf]; omega
     ·have heq':(N i==N k)=false:=by simpa using heq
      by_cases hm0:M i=0
      ·have hm0':(M i != 0)=false:=by simp [hm0]
       have hq:¬ Same2 N M i k:=by rintro (h | h); exact heq h; exact h.1 hm0
       have hL':Least (fun p=>VDs N M P FL FN FP i p∨VY N M P i (k+1) p) b2:=look_skip hL (fun p=>VY_succ N M P i k p) hq
       clear hL hq heq hm0
       go_wp2_with fail
       refine (umade_of (N i) (S i) (P i) (SA i) (FA i) (FL i) (FC i) og ocap om ON _ (HO.out.below hb) (M i) (HM.out i hlt)).mono ?_
       rintro e w1 ⟨rfl,hb1⟩
       have hb:=hb.trans (hb1.mono hb.size)
       clear hb1
       obtain ⟨i0,i1,i2,i3,i4⟩:=(HC.out i hlt).below hb hg
       obtain ⟨k0,k1,k2,k3,k4⟩:=(HC.out k hkn).below hb hg
       go_wp2_with fail
       refine (umade_of (N k) (S k) (P k) (SA k) (FA k) (FL k) (FC k) og ocap om ON _ (HO.out.below hb) (M k) (HM.out k hkn)).mono ?_
       rintro e w2 ⟨rfl,hb1⟩
       have hb:=hb.trans (hb1.mono hb.size)
       clear hb1
       obtain ⟨i0,i1,i2,i3,i4⟩:=(HC.out i hlt).below hb hg
       obtain ⟨k0,k1,k2,k3,k4⟩:=(HC.out k hkn).below hb hg
       go_wp2
       go_quiet (fail)
       go_wp2
       go_roundw
       case rel=>exact ⟨k+1,b2,by omega,by go_num,rfl,hL',below_drewN hb nq⟩
       case measure=>simp [intOf]; omega
      ·have hm0':(M i != 0)=true:=by simpa using hm0
       by_cases hmk:M i=M k
       ·have hmk':(M i==M k)=true:=by simpa using hmk
        have hq:Same2 N M i k:=.inr ⟨hm0,hmk⟩
        by_cases hb0:b2 < 0
        ·have hL':Least (fun p=>VDs N M P FL FN FP i p∨VY N M P i (k+1) p) (P i):=look_hit (hL.low hb0 hpi) (fun p=>VY_succ N M P i k p) hq
         clear hL hq heq hm0 hmk
         go_wp2_with fail
         refine (umade_of (N i) (S i) (P i) (SA i) (FA i) (FL i) (FC i) og ocap om ON _ (HO.out.below hb) (M i) (HM.out i hlt)).mono ?_
         rintro e w1 ⟨rfl,hb1⟩
         have hb:=hb.trans (hb1.mono hb.size)
         clear hb1
         obtain ⟨i0,i1,i2,i3,i4⟩:=(HC.out i hlt).below hb hg
         obtain ⟨k0,k1,k2,k3,k4⟩:=(HC.out k hkn).below hb hg
         go_wp2_with fail
         refine (umade_of (N k) (S k) (P k) (SA k) (FA k) (FL k) (FC k) og ocap om ON _ (HO.out.below hb) (M k) (HM.out k hkn)).mono ?_
         rintro e w2 ⟨rfl,hb1⟩
         have hb:=hb.trans (hb1.mono hb.size)
         clear hb1
         obtain ⟨i0,i1,i2,i3,i4⟩:=(HC.out i hlt).below hb hg
         obtain ⟨k0,k1,k2,k3,k4⟩:=(HC.out k hkn).below hb hg
         go_wp2
         go_quiet (fail)
         go_wp2
         go_roundw
         case rel=>exact ⟨k+1,P i,by omega,by go_num,rfl,hL',below_drewN hb nq⟩
         case measure=>simp [intOf]; omega
        ·by_cases hb1:P i < b2
         ·have hL':Least (fun p=>VDs N M P FL FN FP i p∨VY N M P i (k+1) p) (P i):=look_hit (hL.less hb1 hpi) (fun p=>VY_succ N M P i k p) hq
          clear hL hq heq hm0 hmk
          go_wp2_with fail
          refine (umade_of (N i) (S i) (P i) (SA i) (FA i) (FL i) (FC i) og ocap om ON _ (HO.out.below hb) (M i) (HM.out i hlt)).mono ?_
          rintro e w1 ⟨rfl,hb1⟩
          have hb:=hb.trans (hb1.mono hb.size)
          clear hb1
          obtain ⟨i0,i1,i2,i3,i4⟩:=(HC.out i hlt).below hb hg
          obtain ⟨k0,k1,k2,k3,k4⟩:=(HC.out k hkn).below hb hg
          go_wp2_with fail
          refine (umade_of (N k) (S k) (P k) (SA k) (FA k) (FL k) (FC k) og ocap om ON _ (HO.out.below hb) (M k) (HM.out k hkn)).mono ?_
          rintro e w2 ⟨rfl,hb1⟩
          have hb:=hb.trans (hb1.mono hb.size)
          clear hb1
          obtain ⟨i0,i1,i2,i3,i4⟩:=(HC.out i hlt).below hb hg
          obtain ⟨k0,k1,k2,k3,k4⟩:=(HC.out k hkn).below hb hg
          go_wp2
          go_quiet (fail)
          go_wp2
          go_roundw
          case rel=>exact ⟨k+1,P i,by omega,by go_num,rfl,hL',below_drewN hb nq⟩
          case measure=>simp [intOf]; omega
         ·have hL':Least (fun p=>VDs N M P FL FN FP i p∨VY N M P i (k+1) p) b2:=look_hit (hL.keep hb0 hb1) (fun p=>VY_succ N M P i k p) hq
          clear hL hq heq hm0 hmk
          go_wp2_with fail
          refine (umade_of (N i) (S i) (P i) (SA i) (FA i) (FL i) (FC i) og ocap om ON _ (HO.out.below hb) (M i) (HM.out i hlt)).mono ?_
          rintro e w1 ⟨rfl,hb1⟩
          have hb:=hb.trans (hb1.mono hb.size)
          clear hb1
          obtain ⟨i0,i1,i2,i3,i4⟩:=(HC.out i hlt).below hb hg
          obtain ⟨k0,k1,k2,k3,k4⟩:=(HC.out k hkn).below hb hg
          go_wp2_with fail
          refine (umade_of (N k) (S k) (P k) (SA k) (FA k) (FL k) (FC k) og ocap om ON _ (HO.out.below hb) (M k) (HM.out k hkn)).mono ?_
          rintro e w2 ⟨rfl,hb1⟩
          have hb:=hb.trans (hb1.mono hb.size)
          clear hb1
          obtain ⟨i0,i1,i2,i3,i4⟩:=(HC.out i hlt).below hb hg
          obtain ⟨k0,k1,k2,k3,k4⟩:=(HC.out k hkn).below hb hg
          go_wp2
          go_quiet (fail)
          go_wp2
          go_roundw
          case rel=>exact ⟨k+1,b2,by omega,by go_num,rfl,hL',below_drewN hb nq⟩
          case measure=>simp [intOf]; omega
       ·have hmk':(M i==M k)=false:=by simpa using hmk
        have hq:¬ Same2 N M i k:=by rintro (h | h); exact heq h; exact hmk h.2
        have hL':Least (fun p=>VDs N M P FL FN FP i p∨VY N M P i (k+1) p) b2:=look_skip hL (fun p=>VY_succ N M P i k p) hq
        clear hL hq heq hm0 hmk
        go_wp2_with fail
        refine (umade_of (N i) (S i) (P i) (SA i) (FA i) (FL i) (FC i) og ocap om ON _ (HO.out.below hb) (M i) (HM.out i hlt)).mono ?_
        rintro e w1 ⟨rfl,hb1⟩
        have hb:=hb.trans (hb1.mono hb.size)
        clear hb1
        obtain ⟨i0,i1,i2,i3,i4⟩:=(HC.out i hlt).below hb hg
        obtain ⟨k0,k1,k2,k3,k4⟩:=(HC.out k hkn).below hb hg
        go_wp2_with fail
        refine (umade_of (N k) (S k) (P k) (SA k) (FA k) (FL k) (FC k) og ocap om ON _ (HO.out.below hb) (M k) (HM.out k hkn)).mono ?_
        rintro e w2 ⟨rfl,hb1⟩
        have hb:=hb.trans (hb1.mono hb.size)
        clear hb1
        obtain ⟨i0,i1,i2,i3,i4⟩:=(HC.out i hlt).below hb hg
        obtain ⟨k0,k1,k2,k3,k4⟩:=(HC.out k hkn).below hb hg
        go_wp2
        go_quiet (fail)
        go_wp2
        go_roundw
        case rel=>exact ⟨k+1,b2,by omega,by go_num,rfl,hL',below_drewN hb nq⟩
        case measure=>simp [intOf]; omega
    ·have hki':k=i:=by omega
     have hL2:Least (fun p=>VDs N M P FL FN FP i p∨VY N M P i i p) b2:=by rw [hki'] at hL; exact hL
     have hge:i≤k:=by omega
     have hdn:decide (k < i)=false:=decide_eq_false hki
     have hdi:decide ((k:Int) < (i:Int))=false:=decide_eq_false (by omega)
     clear hL hki hki'
     obtain ⟨i0,i1,i2,i3,i4⟩:=(HC.out i hlt).below hb hg
     have hfl:=HFL.out i
     by_cases hz:0 < FL i
     ·rw [(HF.out i 0 hlt hz).1] at i4
      go_wp2
      go_loopw [5,12] (fun bv jv wr=>∃ (j:Nat) (b:Int),j≤FL i∧jv=.int .i64 j∧bv=.int .i64 b∧Least (fun p=>(VDs N M P FL FN FP i p∨VY N M P i i p)∨VXs (FN i) (FP i) j p) b∧Below w.heap.size w wr) (fun _ jv _=>FL i - (intOf jv).toNat)
      case atStart=>exact ⟨0,b2,by omega,rfl,rfl,hL2.congr (fun p=>by simp [VXs_zero]),hb⟩
      case round =>
       clear hL2 hb i0 i1 i2 i3 i4
       obtain ⟨j,b3,hj,rfl,rfl,hL,hb⟩:=hrel
       by_cases hjl:j < FL i
       ·obtain ⟨_,fg,fr⟩:=HF.out i j hlt hjl
        go_wp2
        go_loopw [5,13] (fun bv kv wr=>∃ (k:Nat) (b:Int),k≤j∧kv=.int .i64 k∧bv=.int .i64 b∧Least (fun p=>((VDs N M P FL FN FP i p∨VY N M P i i p)∨VXs (FN i) (FP i) j p)∨VX (FN i) (FP i) j k p) b∧Below w.heap.size w wr) (fun _ kv _=>j - (intOf kv).toNat)
        case atStart=>exact ⟨0,b3,by omega,rfl,rfl,hL.congr (fun p=>by simp [VX_zero]),hb⟩
        case round =>
         clear hL hb
         obtain ⟨k,b3,hk,rfl,rfl,hL,hb⟩:=hrel
         have hpj:=HFP.out i j
         by_cases hkj:k < j
         ·obtain ⟨j0,j2⟩:=fr.below hb fg
          obtain ⟨k0,k2⟩:=(HF.out i k hlt (by omega)).2.2.below hb fg
          clear fr
          by_cases heq:FN i j=FN i k
          ·have heq':(FN i j==FN i k)=true:=by simpa using heq
           by_cases hb0:b3 < 0
           ·have hL':Least (fun p=>((VDs N M P FL FN FP i p∨VY N M P i i p)∨VXs (FN i) (FP i) j p)∨VX (FN i) (FP i) j (k+1) p) (FP i j):=look_hit (hL.low hb0 hpj) (fun p=>VX_succ (FN i) (FP i) j k p) heq
            clear hL heq
            go_wp2
            go_quiet (fail)
            go_wp2
            go_roundw
            case rel=>first | exact ⟨k+1,FP i j,by omega,by go_num,rfl,hL',below_drewN hb nq⟩ | ((repeat apply Exists.intro); exact ⟨⟨k+1,FP i j,by omega,by go_num,rfl,hL',below_drewN hb nq⟩,rfl⟩)
            case measure=>simp [intOf]; omega
           ·have hd0:decide (b3 < 0)=false:=decide_eq_false hb0
            by_cases hb1:FP i j < b3
            ·have hL':Least (fun p=>((VDs N M P FL FN FP i p∨VY N M P i i p)∨VXs (FN i) (FP i) j p)∨VX (FN i) (FP i) j (k+1) p) (FP i j):=look_hit (hL.less hb1 hpj) (fun p=>VX_succ (FN i) (FP i) j k p) heq
             clear hL heq
             go_wp2
             go_quiet (fail)
             go_wp2
             go_roundw
             case rel=>first | exact ⟨k+1,FP i j,by omega,by go_num,rfl,hL',below_drewN hb nq⟩ | ((repeat apply Exists.intro); exact ⟨⟨k+1,FP i j,by omega,by go_num,rfl,hL',below_drewN hb nq⟩,rfl⟩)
             case measure=>simp [intOf]; omega
            ·have hL':Least (fun p=>((VDs N M P FL FN FP i p∨VY N M P i i p)∨VXs (FN i) (FP i) j p)∨VX (FN i) (FP i) j (k+1) p) b3:=look_hit (hL.keep hb0 hb1) (fun p=>VX_succ (FN i) (FP i) j k p) heq
             clear hL heq
             go_wp2
             go_quiet (fail)
             go_wp2
             go_roundw
             case rel=>first | exact ⟨k+1,b3,by omega,by go_num,rfl,hL',below_drewN hb nq⟩ | ((repeat apply Exists.intro); exact ⟨⟨k+1,b3,by omega,by go_num,rfl,hL',below_drewN hb nq⟩,rfl⟩)
             case measure=>simp [intOf]; omega
          ·have heq':(FN i j==FN i k)=false:=by simpa using heq
           have hL':Least (fun p=>((VDs N M P FL FN FP i p∨VY N M P i i p)∨VXs (FN i) (FP i) j p)∨VX (FN i) (FP i) j (k+1) p) b3:=look_skip hL (fun p=>VX_succ (FN i) (FP i) j k p) heq
           clear hL heq
           go_wp2
           go_quiet (fail)
           go_wp2
           go_roundw
           case rel=>first | exact ⟨k+1,b3,by omega,by go_num,rfl,hL',below_drewN hb nq⟩ | ((repeat apply Exists.intro); exact ⟨⟨k+1,b3,by omega,by go_num,rfl,hL',below_drewN hb nq⟩,rfl⟩)
           case measure=>simp [intOf]; omega
         ·have hkj':k=j:=by omega
          have hL2:Least (fun p=>(VDs N M P FL FN FP i p∨VY N M P i i p)∨VXs (FN i) (FP i) (j+1) p) b3:=by
           rw [hkj'] at hL
           exact hL.congr (fun p=>by rw [VXs_succ]; simp [or_assoc])
          have hge2:j≤k:=by omega
          clear hL hkj hkj' fr
          go_wp2
          go_roundw
          case rel=>exact ⟨j+1,b3,by omega,by go_num,rfl,hL2,hb⟩
          case measure=>simp [intOf]; omega
       ·have hjl':j=FL i:=by omega
        have hL2:Least (VDs N M P FL FN FP (i+1)) b3:=by
         rw [hjl'] at hL
         exact hL.congr (fun p=>(VDs_succ N M P FL FN FP i p).symm)
        have hge2:FL i≤j:=by omega
        clear hL hjl hjl'
        go_wp2
        go_roundw
        case rel=>exact ⟨i+1,b3,by omega,by go_num,rfl,hL2,hb⟩
        case measure=>simp [intOf]; omega
     ·clear HF
      go_wp2
      go_loopw [5,12] (fun bv jv wr=>∃ (j:Nat) (b:Int),j≤FL i∧jv=.int .i64 j∧bv=.int .i64 b∧Least (fun p=>(VDs N M P FL FN FP i p∨VY N M P i i p)∨VXs (FN i) (FP i) j p) b∧Below w.heap.size w wr) (fun _ jv _=>FL i - (intOf jv).toNat)
      case atStart=>exact ⟨0,b2,by omega,rfl,rfl,hL2.congr (fun p=>by simp [VXs_zero]),hb⟩
      case round =>
       clear hL2 hb i0 i1 i2 i3 i4
       obtain ⟨j,b3,hj,rfl,rfl,hL,hb⟩:=hrel
       by_cases hjl:j < FL i
       ·omega
       ·have hjl':j=FL i:=by omega
        have hL2:Least (VDs N M P FL FN FP (i+1)) b3:=by
         rw [hjl'] at hL
         exact hL.congr (fun p=>(VDs_succ N M P FL FN FP i p).symm)
        have hge2:FL i≤j:=by omega
        clear hL hjl hjl'
        go_wp2
        go_roundw
        case rel=>exact ⟨i+1,b3,by omega,by go_num,rfl,hL2,hb⟩
        case measure=>simp [intOf]; omega
  ·have hge:n≤i:=by omega
   have he:i=n:=by omega
   have HL:Hid (Least (VDs N M P FL FN FP n) b):=by rw [← he]; exact hL
   clear he hL hlt
   go_wp2
   go_ret
   exact ⟨b,rfl,HL.out,hb⟩
end Go.Proofs.YtbgilndohccicaaGreatDoor
namespace Go.Proofs.YtbgilndohccicaaGreatDoor
open Go.RowKit
def noGU:GU:=⟨0,0,0,0,false,false,⟨#[]⟩⟩
def noHC:HC:=⟨0,0,0,0,[]⟩
def noHV:HV:=⟨0,0,0,0,⟨none,0,0⟩⟩
structure HCell (w:World) (g i:Nat) (x:HV):Prop where
 c0:w.cell? ⟨g,i * 5,none⟩=some (.int .u8 x.n)
 c1:w.cell? ⟨g,i * 5+1,none⟩=some (.int .u8 x.s)
 c2:w.cell? ⟨g,i * 5+2,none⟩=some (.int .i64 x.p)
 c3:w.cell? ⟨g,i * 5+3,none⟩=some (.int .i64 x.sa)
 c4:w.cell? ⟨g,i * 5+4,none⟩=some (.slice x.v.a x.v.n x.v.c)
theorem UCls.cells {w:World} {base:Nat} {v:Value} {vs:List HV} {cs:List HC} (h:UCls w base v vs cs) (hne:cs≠[]) :
  ∃ g cap,v=.slice (some ⟨g,0,none⟩) cs.length cap∧g < w.heap.size∧cs.length≤maxLen∧∀ i,i < cs.length→HCell w g i (vs[i]?.getD noHV):=by
 have hl:=h.len
 rcases h.row.2 with ⟨rfl,hn⟩ | ⟨g,cap,cur,rfl,_,hg,h1,h2,_⟩
 ·exact absurd (List.length_eq_zero_iff.1 (by omega)) hne
 ·refine ⟨g,cap,by rw [hl],(Array.getElem?_eq_some_iff.1 hg).1,by omega,fun i hi=>?_⟩
  have c:=World.ownsRow.cells h.row (g:=g) rfl
  have e:∀ o u,o < 5→(HV.cells (vs[i]?.getD noHV))[o]?=some u→w.cell? ⟨g,i * 5+o,none⟩=some u:=by
   intro o u ho hu
   rw [← add_off]
   refine c _ _ ?_
   rw [← hu]
   exact flat_get HV.cells 5 (fun _=>rfl) vs noHV i o (by omega) ho
  exact ⟨e 0 _ (by omega) rfl,e 1 _ (by omega) rfl,e 2 _ (by omega) rfl,e 3 _ (by omega) rfl,e 4 _ (by omega) rfl⟩
structure UCell (w:World) (g j:Nat) (x:GU):Prop where
 c0:w.cell? ⟨g,j * 7,none⟩=some (.int .u8 x.n)
 c1:w.cell? ⟨g,j * 7+1,none⟩=some (.int .u8 x.k)
 c2:w.cell? ⟨g,j * 7+2,none⟩=some (.int .i64 x.p)
 c3:w.cell? ⟨g,j * 7+3,none⟩=some (.int .i64 x.sa)
 c4:w.cell? ⟨g,j * 7+4,none⟩=some (.bool x.sm)
 c5:w.cell? ⟨g,j * 7+5,none⟩=some (.bool x.bg)
 c6:w.cell? ⟨g,j * 7+6,none⟩=some (.string x.su)
theorem UV.cells {w:World} {base:Nat} {v:Value} {l:List GU} (h:UV w base v l) :
  ∃ a cap,v=.slice a l.length cap∧l.length≤maxLen∧(0 < l.length→∃ g,a=some ⟨g,0,none⟩∧g < w.heap.size∧∀ i,i < l.length→UCell w g i (l[i]?.getD noGU)):=by
 rcases h.2 with ⟨rfl,hn⟩ | ⟨g,cap,cur,rfl,_,hg,h1,h2,_⟩
 ·exact ⟨none,0,by rw [hn],by rw [hn]; simp [maxLen],fun h=>by omega⟩
 ·refine ⟨_,cap,rfl,by omega,fun _=>⟨g,rfl,(Array.getElem?_eq_some_iff.1 hg).1,fun i hi=>?_⟩⟩
  have c:=World.ownsRow.cells h (g:=g) rfl
  have e:∀ o u,o < 7→(GU.cells (l[i]?.getD noGU))[o]?=some u→w.cell? ⟨g,i * 7+o,none⟩=some u:=by
   intro o u ho hu
   rw [← add_off]
   refine c _ _ ?_
   rw [← hu]
   exact flat_get GU.cells 7 (fun _=>rfl) l noGU i o hi ho
  exact ⟨e 0 _ (by omega) rfl,e 1 _ (by omega) rfl,e 2 _ (by omega) rfl,e 3 _ (by omega) rfl,e 4 _ (by omega) rfl,e 5 _ (by omega) rfl,e 6 _ (by omega) rfl⟩
def UFine (cs:List HC):Prop:=cs.length≤6∧∀ c∈cs,c.l.length≤6∧∀ f∈c.l,0≤f.p
def URepN (ON:Nat→Int) (om:Nat) (cs:List HC) (p:Int):Prop :=
 VDs (fun i=>(cs[i]?.getD noHC).n) (fun i=>madeI ON om (cs[i]?.getD noHC).n (cs[i]?.getD noHC).s) (fun i=>((cs[i]?.getD noHC).p:Int)) (fun i=>(cs[i]?.getD noHC).l.length) (fun i j=>((cs[i]?.getD noHC).l[j]?.getD noGU).n) (fun i j=>((cs[i]?.getD noHC).l[j]?.getD noGU).p) cs.length p
theorem utwice_any (og ocap om:Nat) (ON:Nat→Int) (cs:List HC) (vs:List HV) (base:Nat) (v:Value) (w:World) (hold:OldN w og om ON) (h:UCls w base v vs cs) (hF:UFine cs) (hne:cs≠[]) :
  Calls Tryz.prog 57 #[v,.slice (some ⟨og,0,none⟩) om ocap] w fun e w'=>∃ b,e=.returned (.int .i64 b)∧Least (URepN ON om cs) b∧Below w.heap.size w w':=by
 obtain ⟨g,cap,rfl,hg,_,hc⟩:=h.cells hne
 have hl:=h.len
 have hget:∀ i,i < cs.length→∃ x c,vs[i]?=some x∧cs[i]?=some c:=fun i hi=>⟨vs[i]'(by omega),cs[i],List.getElem?_eq_getElem _,List.getElem?_eq_getElem _⟩
 have hRV:∀ i,i < cs.length→∃ x c,vs[i]?=some x∧cs[i]?=some c∧(x.n=c.n∧x.s=c.s∧x.sa=c.sa)∧x.p=c.p∧UV w base x.v.val c.l:=by
  intro i hi
  obtain ⟨x,c,h1,h2⟩:=hget i hi
  exact ⟨x,c,h1,h2,h.fld i x c h1 h2⟩
 have hmem:∀ i:Nat,(cs[i]?.getD noHC).l.length≤6∧∀ f∈(cs[i]?.getD noHC).l,0≤f.p:=by
  intro i
  cases hi:cs[i]? with
  | none=>simp [noHC]
  | some c=>exact hF.2 c (List.mem_of_getElem? hi)
 refine utwice_row g cap cs.length og ocap om _ _ (fun i=>(cs[i]?.getD noHC).s) _ _ (fun i=>(cs[i]?.getD noHC).sa) (fun i=>(vs[i]?.getD noHV).v.a) (fun i=>match (vs[i]?.getD noHV).v.a with | some a=>a.block | none=>0) _ (fun i=>(vs[i]?.getD noHV).v.c) _ _ w hg (by have:=hF.1; omega) (fun i=>by have:=(hmem i).1; omega) hold (fun i _=>rfl) (fun i=>by omega) (fun i j=>?_) (fun i hi=>?_) (fun i j hi hj=>?_)
 ·cases hj:(cs[i]?.getD noHC).l[j]? with
  | none=>simp [noGU]
  | some f=>exact (hmem i).2 f (List.mem_of_getElem? hj)
 ·obtain ⟨x,c,h1,h2,⟨h3,h3s,h3a⟩,h4,h5⟩:=hRV i hi
  have:=hc i hi
  rw [h1] at this ⊢
  obtain ⟨ra,rc,rv,_⟩:=h5.cells
  have e:x.v.n=c.l.length:=by
   have:(Value.slice x.v.a x.v.n x.v.c)=.slice ra c.l.length rc:=rv
   injection this
  rw [h2]
  obtain ⟨c0,c1,c2,c3,c4⟩:=this
  simp only [Option.getD_some] at c0 c1 c2 c3 c4 ⊢
  rw [h3] at c0; rw [h3s] at c1; rw [h4] at c2; rw [h3a] at c3; rw [e] at c4
  exact ⟨c0,c1,c2,c3,c4⟩
 ·obtain ⟨x,c,h1,h2,⟨h3,h3s,h3a⟩,h4,h5⟩:=hRV i hi
  rw [h2] at hj ⊢
  rw [h1]
  simp only [Option.getD_some] at hj ⊢
  obtain ⟨ra,rc,rv,_,r⟩:=h5.cells
  obtain ⟨g',rfl,hg',hcell⟩:=r (by omega)
  have e:x.v.a=some ⟨g',0,none⟩:=by
   have:(Value.slice x.v.a x.v.n x.v.c)=.slice (some ⟨g',0,none⟩) c.l.length rc:=rv
   injection this
  rw [e]
  have:=hcell j hj
  exact ⟨rfl,hg',⟨this.c0,this.c2⟩⟩
end Go.Proofs.YtbgilndohccicaaGreatDoor
