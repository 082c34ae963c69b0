import Derived.Test.YtbgilndohccicaaGreatDoorBz47
import Derived.Test.YtbgilndohccicaaGreatDoorBz46
import Derived.BigRegion
namespace Go.Proofs.YtbgilndohccicaaGreatDoor
open Go.RowKit
set_option maxHeartbeats 400000 in
set_option maxRecDepth 20000 in
theorem rpack_small (s:ByteArray) (w:World) (h:s.size≤127) :
  Calls Tryz.prog 62 #[.string s] w (PackPost s w):=by
 have hcv1:(convert 161 9 (.slice (some ⟨w.heap.size,0,none⟩) 1 1)).run Tryz.prog (w.alloc (.cells #[.int .u8 s.size] 5))=.ok (.string (strOf [(s.size:Int)])) (w.alloc (.cells #[.int .u8 s.size] 5)):=conv_row w [(s.size:Int)] (by simp) (by simp)
 have hz:=strOf_size [(s.size:Int)]
 simp at hz
 go_enter Tryz.func62,Tryz.ntmps62
 go_wp2_with fail
 refine (crcr_any _ _ ?_).mono ?_
 ·rw [ByteArray.size_append,ByteArray.size_append,hz]; show 2+1+s.size≤4096; omega
 rintro e w' ⟨rfl,rfl⟩
 have ht:bytesOf ((⟨#[82,77]⟩:ByteArray)++strOf [(s.size:Int)]++s)=headL (bytesOf s):=by
  rw [bytesOf_app,bytesOf_app,bytesOf_str _ (by intro x hx; simp at hx; omega),headL,bytesOf_len,vint,if_pos (by omega)]; rfl
 obtain ⟨t,hte⟩:∃ t,t=(⟨#[82,77]⟩:ByteArray)++strOf [(s.size:Int)]++s:=⟨_,rfl⟩
 have htz:t.size≤204:=by rw [hte,ByteArray.size_append,ByteArray.size_append,hz]; show 2+1+s.size≤204; omega
 rw [← hte] at ht ⊢
 clear hte hz
 have hcl:=(crcL (bytesOf t)).isLt
 obtain ⟨c,hcc⟩:∃ c,c=(crcL (bytesOf t)).toNat:=⟨_,rfl⟩
 have HP:Hid (packL (bytesOf s)=bytesOf t++tail4 c):=by show _=_; rw [packL,hcc,ht]
 have HB:Hid (isB (tail4 c)):=by rw [hcc]; exact isB_tail _
 rw [← hcc] at hcl ⊢
 clear hcc ht
 have hcv4:=conv_row (w.alloc (.cells #[.int .u8 s.size] 5)) (tail4 c) (by simp [tail4]) (by simp [tail4])
 have hz4:(strOf (tail4 c)).size=4:=strOf_size (tail4 c)
 obtain ⟨r4,hr4⟩:∃ r4,r4=strOf (tail4 c):=⟨_,rfl⟩
 have HR:Hid (r4=strOf (tail4 c)):=hr4
 rw [← hr4] at hcv4 hz4
 clear hr4
 have hcv4:(convert 161 9 (.slice (some ⟨w.heap.size+1,0,none⟩) 4 4)).run Tryz.prog ((w.alloc (.cells #[.int .u8 s.size] 5)).alloc (.cells #[.int .u8 ((c:Int) % 256),.int .u8 ((c:Int) / 256 % 256),.int .u8 ((c:Int) / 65536 % 256),.int .u8 ((c:Int) / 16777216)] 5))=.ok (.string r4) ((w.alloc (.cells #[.int .u8 s.size] 5)).alloc (.cells #[.int .u8 ((c:Int) % 256),.int .u8 ((c:Int) / 256 % 256),.int .u8 ((c:Int) / 65536 % 256),.int .u8 ((c:Int) / 16777216)] 5)):=by simpa [cellsB,tail4] using hcv4
 go_wp2
 go_ret2
 refine packPost_short (r:=t++r4) (by omega) (by rw [bytesOf_app,HR.out,bytesOf_str _ HB.out,HP.out]) ?_
 exact ((Below.refl _ _).alloc (Nat.le_refl _) _).alloc (by simp) _
set_option maxHeartbeats 400000 in
set_option maxRecDepth 20000 in
theorem rpack_great (s:ByteArray) (w:World) (h:128≤s.size) (h2:s.size≤200) :
  Calls Tryz.prog 62 #[.string s] w (PackPost s w):=by
 have hcv1:(convert 161 9 (.slice (some ⟨w.heap.size,0,none⟩) 1 1)).run Tryz.prog (w.alloc (.cells #[.int .u8 s.size] 5))=.ok (.string (strOf [(s.size:Int)])) (w.alloc (.cells #[.int .u8 s.size] 5)):=conv_row w [(s.size:Int)] (by simp) (by simp)
 have hcv2:(convert 161 9 (.slice (some ⟨(w.alloc (.cells #[.int .u8 s.size] 5)).heap.size,0,none⟩) 2 2)).run Tryz.prog ((w.alloc (.cells #[.int .u8 s.size] 5)).alloc (.cells #[.int .u8 s.size,.int .u8 1] 5))=.ok (.string (strOf [(s.size:Int),1])) ((w.alloc (.cells #[.int .u8 s.size] 5)).alloc (.cells #[.int .u8 s.size,.int .u8 1] 5)):=conv_row (w.alloc (.cells #[.int .u8 s.size] 5)) [(s.size:Int),1] (by simp) (by simp)
 have hsz:(w.alloc (.cells #[.int .u8 s.size] 5)).heap.size=w.heap.size+1:=by simp
 rw [hsz] at hcv2; clear hsz
 have e1:(s.size:Int).tmod 128=(s.size:Int) - 128:=by rw [Int.tmod_eq_emod_of_nonneg (by omega)]; omega
 have e2:(s.size:Int) / 128=1:=by omega
 have e3:(s.size:Int) % 128=(s.size:Int) - 128:=by omega
 have hz:=strOf_size [(s.size:Int),1]
 simp at hz
 go_enter Tryz.func62,Tryz.ntmps62
 go_wp2_with fail
 refine (crcr_any _ _ ?_).mono ?_
 ·rw [ByteArray.size_append,ByteArray.size_append,hz]; show 2+2+s.size≤4096; omega
 rintro e w' ⟨rfl,rfl⟩
 have ht:bytesOf ((⟨#[82,77]⟩:ByteArray)++strOf [(s.size:Int),1]++s)=headL (bytesOf s):=by
  rw [bytesOf_app,bytesOf_app,bytesOf_str _ (by intro x hx; simp at hx; omega),headL,bytesOf_len,vint,if_neg (by omega),show ((s.size % 128+128:Nat):Int)=s.size by omega,show ((s.size / 128:Nat):Int)=1 by omega]; rfl
 obtain ⟨t,hte⟩:∃ t,t=(⟨#[82,77]⟩:ByteArray)++strOf [(s.size:Int),1]++s:=⟨_,rfl⟩
 have htz:t.size≤204:=by rw [hte,ByteArray.size_append,ByteArray.size_append,hz]; show 2+2+s.size≤204; omega
 rw [← hte] at ht ⊢
 clear hte hz
 have hcl:=(crcL (bytesOf t)).isLt
 obtain ⟨c,hcc⟩:∃ c,c=(crcL (bytesOf t)).toNat:=⟨_,rfl⟩
 have HP:Hid (packL (bytesOf s)=bytesOf t++tail4 c):=by show _=_; rw [packL,hcc,ht]
 have HB:Hid (isB (tail4 c)):=by rw [hcc]; exact isB_tail _
 rw [← hcc] at hcl ⊢
 clear hcc ht
 have hcv4:=conv_row ((w.alloc (.cells #[.int .u8 s.size] 5)).alloc (.cells #[.int .u8 s.size,.int .u8 1] 5)) (tail4 c) (by simp [tail4]) (by simp [tail4])
 have hz4:(strOf (tail4 c)).size=4:=strOf_size (tail4 c)
 obtain ⟨r4,hr4⟩:∃ r4,r4=strOf (tail4 c):=⟨_,rfl⟩
 have HR:Hid (r4=strOf (tail4 c)):=hr4
 rw [← hr4] at hcv4 hz4
 clear hr4
 have hcv4:(convert 161 9 (.slice (some ⟨w.heap.size+1+1,0,none⟩) 4 4)).run Tryz.prog (((w.alloc (.cells #[.int .u8 s.size] 5)).alloc (.cells #[.int .u8 s.size,.int .u8 1] 5)).alloc (.cells #[.int .u8 ((c:Int) % 256),.int .u8 ((c:Int) / 256 % 256),.int .u8 ((c:Int) / 65536 % 256),.int .u8 ((c:Int) / 16777216)] 5))=.ok (.string r4) (((w.alloc (.cells #[.int .u8 s.size] 5)).alloc (.cells #[.int .u8 s.size,.int .u8 1] 5)).alloc (.cells #[.int .u8 ((c:Int) % 256),.int .u8 ((c:Int) / 256 % 256),.int .u8 ((c:Int) / 65536 % 256),.int .u8 ((c:Int) / 16777216)] 5)):=by simpa [cellsB,tail4] using hcv4
 go_wp2
 go_ret2
 refine packPost_short (r:=t++r4) (by omega) (by rw [bytesOf_app,HR.out,bytesOf_str _ HB.out,HP.out]) ?_
 exact (((Below.refl _ _).alloc (Nat.le_refl _) _).alloc (by simp) _).alloc (by simp; omega) _
set_option maxHeartbeats 400000 in
theorem rpack_long (s:ByteArray) (w:World) (h:200 < s.size) (hm:s.size≤9223372036854775807) :
  Calls Tryz.prog 62 #[.string s] w (PackPost s w):=by
 go_enter Tryz.func62,Tryz.ntmps62
 go_wp2
 go_ret2
 exact packPost_long h (Below.refl _ _)
theorem rpack_any (s:ByteArray) (w:World) (hm:s.size≤9223372036854775807):Calls Tryz.prog 62 #[.string s] w (PackPost s w):=by
 by_cases h:200 < s.size
 ·exact rpack_long s w h hm
 by_cases h2:s.size≤127
 ·exact rpack_small s w h2
 ·exact rpack_great s w (by omega) (by omega)
end Go.Proofs.YtbgilndohccicaaGreatDoor
namespace Go.Proofs.YtbgilndohccicaaGreatDoor
open Go.RowKit
set_option maxHeartbeats 400000 in
set_option maxRecDepth 20000 in
theorem runp_any (c:ByteArray) (w:World) (hm:c.size≤9223372036854775807) :
  Calls Tryz.prog 64 #[.string c] w (UnpPost c w):=by
 go_enter Tryz.func64,Tryz.ntmps64
 go_wp2
 go_loopw [4] (fun i wr=>∃ k:Nat,3≤k∧k≤5∧i=.int .i64 k∧Hid (Tried c k)∧Below w.heap.size w wr) (fun i _=>5 - (intOf i).toNat)
 case atStart=>exact ⟨3,Nat.le_refl _,by omega,rfl,fun f _ _=>by omega,Below.refl _ _⟩
 case round =>
  obtain ⟨k,hk1,hk3,rfl,HT,B⟩:=hrel
  by_cases h3:k=5
  ·subst h3
   have H34:Hid (unpF (bytesOf c) 3=false∧unpF (bytesOf c) 4=false):=⟨HT.out 3 (by omega) (by omega),HT.out 4 (by omega) (by omega)⟩
   go_wp2
   go_ret2
   exact unpPost_none H34.out.1 H34.out.2 B
  by_cases hsh:c.size < k+4
  ·have H34:Hid (unpF (bytesOf c) 3=false∧unpF (bytesOf c) 4=false):=by
    have e:=unp_false_short (c:=c) (f:=k) hsh
    rcases (by omega:k=3∨k=4) with rfl | rfl
    ·exact ⟨e,unp_false_short (by omega)⟩
    ·exact ⟨HT.out 3 (by omega) (by omega),e⟩
   go_wp2
   go_ret2
   exact unpPost_none H34.out.1 H34.out.2 B
  have hex:(c.extract k (c.size - 4)).size=c.size - 4 - k:=by rw [ByteArray.size_extract]; omega
  go_wp2_with fail
  refine (rpack_any _ wr (by rw [hex]; omega)).mono ?_
  rintro e w2 ⟨⟨r,rfl,hr⟩,hb2⟩
  have B2:=B.trans (hb2.mono B.size)
  rw [hex] at hr ⊢
  by_cases hlo:200 < c.size - 4 - k
  ·have HT':Hid (Tried c (k+1)):=HT.out.step (unp_false_long (by omega) (by omega))
   rw [if_pos hlo] at hr ⊢
   clear HT hb2 hr
   go_wp2
   exact ⟨⟨k+1,by omega,by omega,rfl,HT',B2⟩,by simp [intOf]; omega⟩
  ·rw [if_neg hlo] at hr ⊢
   have hu:unpF (bytesOf c) k=(r.toList==c.toList):=unp_eq (by omega) (by omega) hr
   clear hb2 hr hex
   cases hq:(r.toList==c.toList) with
   | true =>
    rw [hq] at hu
    have HU:Hid (unpF (bytesOf c) k=true):=hu
    clear hu
    go_wp2
    go_ret2
    refine unpPost_some ?_ HU.out B2
    rcases (by omega:k=3∨k=4) with rfl | rfl
    ·exact .inl rfl
    ·exact .inr ⟨rfl,HT.out 3 (by omega) (by omega)⟩
   | false =>
    rw [hq] at hu
    have HT':Hid (Tried c (k+1)):=HT.out.step hu
    clear hu HT
    go_wp2
    exact ⟨⟨k+1,by omega,by omega,rfl,HT',B2⟩,by simp [intOf]; omega⟩
set_option maxHeartbeats 400000 in
set_option maxRecDepth 20000 in
theorem packs_walk (s:ByteArray) (w:World) (hm:s.size≤9223372036854775807):Calls Tryz.prog 20 #[.string s] w fun e w'=>e=.returned (.bool true)∧Below w.heap.size w w':=by
 go_enter Tryz.func20,Tryz.ntmps20
 go_wp2_with fail
 refine (mpack_any s w hm).mono ?_
 rintro e w1 ⟨⟨r1,rfl,hr1⟩,hb1⟩
 obtain ⟨x,hx⟩:∃ x:Int,x=if 200 < s.size then 1 else 0:=⟨_,rfl⟩
 rw [← hx]
 have HX:Hid (x=if 200 < s.size then 1 else 0):=hx
 clear hx
 go_wp2_with fail
 refine (rpack_any s w1 hm).mono ?_
 rintro e w2 ⟨⟨r2,rfl,hr2⟩,hb2⟩
 have hr:r2=r1:=bytes_eq (hr2.trans hr1.symm)
 have B2:=hb1.trans (hb2.mono hb1.size)
 rw [← HX.out]
 subst hr
 clear hr1 hr2 hb1 hb2
 go_wp2
 go_ret
 exact ⟨rfl,B2⟩
set_option maxHeartbeats 400000 in
set_option maxRecDepth 20000 in
theorem unpacks_walk (c:ByteArray) (w:World) (hm:c.size≤9223372036854775807):Calls Tryz.prog 21 #[.string c] w fun e w'=>e=.returned (.bool true)∧Below w.heap.size w w':=by
 go_enter Tryz.func21,Tryz.ntmps21
 go_wp2_with fail
 refine (munp_any c w hm).mono ?_
 rintro e w1 ⟨⟨r1,x1,rfl,hr1⟩,hb1⟩
 go_wp2_with fail
 refine (runp_any c w1 hm).mono ?_
 rintro e w2 ⟨⟨r2,x2,rfl,hr2⟩,hb2⟩
 have hr:r2=r1∧x2=x1:=by
  rcases hr1 with ⟨l,h1,h2,h3⟩ | ⟨h1,h2,h3⟩ <;> rcases hr2 with ⟨m,g1,g2,g3⟩ | ⟨g1,g2,g3⟩
  ·rw [h1] at g1; cases g1; exact ⟨bytes_eq (g2.trans h2.symm),by rw [g3,h3]⟩
  ·rw [h1] at g1; cases g1
  ·rw [h1] at g1; cases g1
  ·exact ⟨bytes_eq (g2.trans h2.symm),by rw [g3,h3]⟩
 have B2:=hb1.trans (hb2.mono hb1.size)
 obtain ⟨rfl,rfl⟩:=hr
 clear hr1 hr2 hb1 hb2
 go_wp2
 go_ret
 exact ⟨rfl,B2⟩
end Go.Proofs.YtbgilndohccicaaGreatDoor
namespace Go.Proofs.YtbgilndohccicaaGreatDoor
open Go.RowKit
set_option maxRecDepth 20000 in
set_option maxHeartbeats 1000000 in
theorem text_any (o:OpV) (w:World) (ho:o.ok) (hE:Ends w) (h1:12≤o.k) (h2:o.k≤15) :
  Calls Tryz.prog 12 #[o.val] w fun e w'=>e=.returned (.bool true)∧Below w.heap.size w w':=by
 have BA:Below w.heap.size w (w.alloc (.cells o.cells 31)):=(Below.refl _ _).alloc (Nat.le_refl _) _
 have HBA:Hid (Below w.heap.size w (w.alloc (.cells o.cells 31))):=BA
 have C1:=checks_walk o.s (w.alloc (.cells o.cells 31)) ho.s (hE.below BA)
 have C2:=fitted_walk o.s o.t (w.alloc (.cells o.cells 31)) ho.s ho.t (hE.below BA)
 have C3:=packs_walk o.s (w.alloc (.cells o.cells 31)) ho.s
 have C4:=unpacks_walk o.s (w.alloc (.cells o.cells 31)) ho.s
 clear BA hE ho
 obtain ⟨ok,om,oa,ob,oc,ov,os,ot⟩:=o
 simp only [OpV.val,OpV.cells] at *
 rcases (by omega:ok=12∨ok=13∨ok=14∨ok=15) with rfl | rfl | rfl | rfl
 ·clear C2 C3 C4
  go_enter Tryz.func12,Tryz.ntmps12
  go_wp2_with fail
  refine C1.mono ?_
  rintro e w1 ⟨rfl,B1⟩
  have HL:Hid (Below w.heap.size w w1):=HBA.out.trans (B1.mono HBA.out.size)
  clear C1 B1
  go_wp2
  go_ret
  exact ⟨rfl,HL.out⟩
 ·clear C1 C3 C4
  go_enter Tryz.func12,Tryz.ntmps12
  go_wp2_with fail
  refine C2.mono ?_
  rintro e w1 ⟨rfl,B1⟩
  have HL:Hid (Below w.heap.size w w1):=HBA.out.trans (B1.mono HBA.out.size)
  clear C2 B1
  go_wp2
  go_ret
  exact ⟨rfl,HL.out⟩
 ·clear C1 C2 C4
  go_enter Tryz.func12,Tryz.ntmps12
  go_wp2_with fail
  refine C3.mono ?_
  rintro e w1 ⟨rfl,B1⟩
  have HL:Hid (Below w.heap.size w w1):=HBA.out.trans (B1.mono HBA.out.size)
  clear C3 B1
  go_wp2
  go_ret
  exact ⟨rfl,HL.out⟩
 ·clear C1 C2 C3
  go_enter Tryz.func12,Tryz.ntmps12
  go_wp2_with fail
  refine C4.mono ?_
  rintro e w1 ⟨rfl,B1⟩
  have HL:Hid (Below w.heap.size w w1):=HBA.out.trans (B1.mono HBA.out.size)
  clear C4 B1
  go_wp2
  go_ret
  exact ⟨rfl,HL.out⟩
theorem changes_any (hb rb:Nat) (d:PD) (mx:Nat) (o:OpV) (w:World) (h:PairOK w hb rb d mx) (hlo:d.lo≤hb) (hmx:mx < 4398046511104) (ho:o.ok) (hE:Ends w) (hb0:0 < hb) (k1:16≤o.k) (k2:o.k≤19) :
  Calls Tryz.prog 15 #[.agg #[.pointer (some ⟨hb,0,none⟩),.pointer (some ⟨rb,0,none⟩)],o.val] w (LPost hb rb d mx w):=by
 rcases (by omega:o.k=16∨o.k=17∨o.k=18∨o.k=19) with e | e | e | e
 ·exact changes_begin hb rb d mx o w h hlo ho e hE hb0
 ·exact changes_step hb rb d mx o w h hlo e
 ·exact changes_peek hb rb d mx o w h hlo hmx e
 ·exact changes_abort hb rb d mx o w h hlo e
end Go.Proofs.YtbgilndohccicaaGreatDoor
namespace Go.Proofs.YtbgilndohccicaaGreatDoor
open Go.RowKit
set_option maxRecDepth 20000 in
set_option maxHeartbeats 1000000 in
theorem changes_none (hb rb:Nat) (o:OpV) (w:World) (hk:o.k≤0) :
  Calls Tryz.prog 15 #[.agg #[.pointer (some ⟨hb,0,none⟩),.pointer (some ⟨rb,0,none⟩)],o.val] w fun e w'=>e=.returned (.bool true)∧Below w.heap.size w w':=by
 obtain ⟨ok,om,oa,ob,oc,ov,os,ot⟩:=o
 simp only [OpV.val] at *
 have n1:(ok==16)=false:=by simp; omega
 have n2:(ok==17)=false:=by simp; omega
 have n3:(ok==18)=false:=by simp; omega
 have n4:(ok==20)=false:=by simp; omega
 have n5:(ok==19)=false:=by simp; omega
 go_enter Tryz.func15,Tryz.ntmps15
 go_wp2
 go_ret
 exact ⟨rfl,((Below.refl _ _).alloc (Nat.le_refl _) _).alloc (by simp) _⟩
theorem tmod_in (m:Int) (n:Nat) (hn:0 < n):∃ j:Nat,(m.tmod n+n).tmod n=j∧j < n:=by
 have hb0:(0:Int) < n:=by omega
 have h1:-(n:Int) < m.tmod n:=by
  rw [Int.tmod_eq_emod]
  have a1:=Int.emod_nonneg m (b:=n) (by omega)
  split
  ·omega
  ·rename_i hh
   have:m % n≠0:=fun e=>hh (.inr (Int.dvd_of_emod_eq_zero e))
   simp; omega
 have h2:(0:Int)≤m.tmod n+n:=by omega
 refine ⟨((m.tmod n+n).tmod n).toNat,?_,?_⟩
 ·rw [Int.tmod_eq_emod_of_nonneg h2]
  have:=Int.emod_nonneg (m.tmod n+n) (b:=n) (by omega)
  omega
 ·rw [Int.tmod_eq_emod_of_nonneg h2]
  have a1:=Int.emod_nonneg (m.tmod n+n) (b:=n) (by omega)
  have a2:=Int.emod_lt_of_pos (m.tmod n+n) hb0
  omega
theorem tmod_lt' (m:Int) (n:Nat) (hn:0 < n):m.tmod n < n∧-(n:Int) < m.tmod n:=by
 have hb0:(0:Int) < n:=by omega
 rw [Int.tmod_eq_emod]
 have a1:=Int.emod_nonneg m (b:=n) (by omega)
 have a2:=Int.emod_lt_of_pos m hb0
 split
 ·omega
 ·rename_i hh
  have:m % n≠0:=fun e=>hh (.inr (Int.dvd_of_emod_eq_zero e))
  simp; omega
def StPost (B wb:Nat) (v:Value) (ps:List PQ) (mx:Nat) (w:World) (e:Ending) (w':World):Prop:=e=.returned (.bool true)∧(Below B w w'∧GS w w' (wsS wb v ps))∧∃ v' ps',WS B w' wb v' ps' (mx+1)∧ps.length≤ps'.length∧ps'.length≤ps.length+1
theorem WS.call {B wb:Nat} {v:Value} {ps:List PQ} {mx:Nat} {WA W:World} (h:WS B WA wb v ps mx) (j hb rb:Nat) (d:PD) (hq:ps[j]?=some (hb,rb,d)) (hW:Below WA.heap.size WA W) {f:FuncId} {args:Array Value} (C:PairOK W hb rb d mx→d.lo≤hb→Calls Tryz.prog f args W (LPost hb rb d mx W)) :
  Calls Tryz.prog f args W fun e w'=>e=.returned (.bool true)∧(Below B W w'∧GS W w' (wsS wb v ps))∧∃ v' ps',WS B w' wb v' ps' (mx+1)∧ps.length≤ps'.length∧ps'.length≤ps.length+1:=by
 have hC:=h.below hW (Nat.le_refl mx)
 obtain ⟨a1,a2⟩:=hC.ok j _ hq
 refine (C a2 a1).mono ?_
 rintro e w' ⟨rfl,d',hlo,hp,gs,hfp⟩
 obtain ⟨b1,b2⟩:=hC.step j (hb,rb,d) hq d' hlo hp gs hfp
 exact ⟨rfl,⟨b2,gs.mono fun k hk=>.inr (.inr ⟨j,_,hq,hk⟩)⟩,v,_,b1,by simp,by simp⟩
set_option maxRecDepth 20000 in
set_option maxHeartbeats 2000000 in
theorem step_lo (B wb:Nat) (v:Value) (ps:List PQ) (mx:Nat) (o:OpV) (w:World) (h:WS B w wb v ps mx) (ho:o.ok) (hk:o.k≤11) (hE:Ends w) (hE0:0 < B) (hl:ps.length≤2199023255552) (hmx:mx < 4398046511104) (hp0:0 < ps.length) :
  Calls Tryz.prog 9 #[.pointer (some ⟨wb,0,none⟩),o.val] w (StPost B wb v ps mx w):=by
 have hwl:=h.lt
 have hBw:B≤w.heap.size:=by have:=h.wbB; omega
 have HO:Hid (o.ok):=ho
 have BA:Below w.heap.size w (w.alloc (.cells o.cells 31)):=(Below.refl _ _).alloc (Nat.le_refl _) _
 have hA:=h.below BA (Nat.le_refl mx)
 have HA:Hid (WS B (w.alloc (.cells o.cells 31)) wb v ps mx):=hA
 have HEA:Hid (Ends (w.alloc (.cells o.cells 31))):=hE.below BA
 have HBA:Hid (Below w.heap.size w (w.alloc (.cells o.cells 31))):=BA
 by_cases h1:o.k=1
 ·have C:=begin_any B wb v ps mx o.s o.a _ hA ho.s (hE.below BA) hE0 (by omega)
  unfold StPost
  obtain ⟨ok,om,oa,ob,oc,ov,os,ot⟩:=o
  simp only [OpV.val,OpV.cells] at *
  subst h1
  clear h ho hE hA BA
  go_enter Tryz.func9,Tryz.ntmps9
  go_wp2_with fail
  refine C.mono ?_
  rintro e w1 ⟨rfl,B1,v',ps',W1,l1,l2⟩
  have HL:Hid ((Below B w w1∧GS w w1 (wsS wb v ps))∧∃ v' ps',WS B w1 wb v' ps' (mx+1)∧ps.length≤ps'.length∧ps'.length≤ps.length+1):=⟨⟨(HBA.out.mono hBw).trans B1.1,GS.below HBA.out B1.2⟩,v',ps',W1.below (Below.refl _ _) (by omega),l1,l2.1⟩
  clear C B1 W1
  go_wp2
  go_ret
  exact ⟨rfl,HL.out.1,HL.out.2⟩
 ·obtain ⟨j,hj,hjn⟩:=tmod_in o.m ps.length hp0
  obtain ⟨⟨hb,rb,d⟩,hq⟩:∃ q,ps[j]?=some q:=⟨_,List.getElem?_eq_getElem hjn⟩
  obtain ⟨g,cap,ev,hg,c0,c1⟩:=hA.cells j _ hq
  simp only [] at c0 c1
  have cw:=hA.c
  rw [ev] at cw
  have tl:=tmod_lt' o.m ps.length hp0
  have hw1:IntKind.i64.wrap (o.m.tmod ps.length+ps.length)=o.m.tmod ps.length+ps.length:=by rw [IntKind.wrap_i64]; omega
  have HQ:Hid (ps[j]?=some (hb,rb,d)):=hq
  have HV:Hid (v=.slice (some ⟨g,0,none⟩) ps.length cap):=ev
  obtain ⟨n,hn⟩:∃ n,n=ps.length:=⟨_,rfl⟩
  have HN:Hid (n=ps.length):=hn
  rw [← hn] at cw hj hjn hw1 tl hp0 hl
  have hn0:((n:Int)==0)=false:=by simp; omega
  have hnb:(0:Int) < (n:Int):=by omega
  have hjb:(0:Int)≤(j:Int)∧(j:Int) < (n:Int):=by omega
  have n1:(o.k==1)=false:=by simpa using h1
  have n2:decide (12≤o.k)=false:=decide_eq_false (by omega)
  unfold StPost
  obtain ⟨ok,om,oa,ob,oc,ov,os,ot⟩:=o
  simp only [OpV.val,OpV.cells] at *
  clear h ho hE hA BA hq ev hn
  go_enter Tryz.func9,Tryz.ntmps9
  go_wp2
  have y0:(w.alloc (.cells #[.int .i64 ok,.int .i64 om,.int .i64 oa,.int .i64 ob,.int .u8 oc,.int .i64 ov,.string os,.string ot] 31)).cell? ⟨w.heap.size,0,none⟩=some (.int .i64 ok):=by go_simp
  have y1:(w.alloc (.cells #[.int .i64 ok,.int .i64 om,.int .i64 oa,.int .i64 ob,.int .u8 oc,.int .i64 ov,.string os,.string ot] 31)).cell? ⟨w.heap.size,1,none⟩=some (.int .i64 om):=by go_simp
  have y2:(w.alloc (.cells #[.int .i64 ok,.int .i64 om,.int .i64 oa,.int .i64 ob,.int .u8 oc,.int .i64 ov,.string os,.string ot] 31)).cell? ⟨w.heap.size,2,none⟩=some (.int .i64 oa):=by go_simp
  have y3:(w.alloc (.cells #[.int .i64 ok,.int .i64 om,.int .i64 oa,.int .i64 ob,.int .u8 oc,.int .i64 ov,.string os,.string ot] 31)).cell? ⟨w.heap.size,3,none⟩=some (.int .i64 ob):=by go_simp
  have y4:(w.alloc (.cells #[.int .i64 ok,.int .i64 om,.int .i64 oa,.int .i64 ob,.int .u8 oc,.int .i64 ov,.string os,.string ot] 31)).cell? ⟨w.heap.size,4,none⟩=some (.int .u8 oc):=by go_simp
  have y5:(w.alloc (.cells #[.int .i64 ok,.int .i64 om,.int .i64 oa,.int .i64 ob,.int .u8 oc,.int .i64 ov,.string os,.string ot] 31)).cell? ⟨w.heap.size,5,none⟩=some (.int .i64 ov):=by go_simp
  have y6:(w.alloc (.cells #[.int .i64 ok,.int .i64 om,.int .i64 oa,.int .i64 ob,.int .u8 oc,.int .i64 ov,.string os,.string ot] 31)).cell? ⟨w.heap.size,6,none⟩=some (.string os):=by go_simp
  have y7:(w.alloc (.cells #[.int .i64 ok,.int .i64 om,.int .i64 oa,.int .i64 ob,.int .u8 oc,.int .i64 ov,.string os,.string ot] 31)).cell? ⟨w.heap.size,7,none⟩=some (.string ot):=by go_simp
  have hlt:w.heap.size < (w.alloc (.cells #[.int .i64 ok,.int .i64 om,.int .i64 oa,.int .i64 ob,.int .u8 oc,.int .i64 ov,.string os,.string ot] 31)).heap.size:=by simp
  have hwA:wb < (w.alloc (.cells #[.int .i64 ok,.int .i64 om,.int .i64 oa,.int .i64 ob,.int .u8 oc,.int .i64 ov,.string os,.string ot] 31)).heap.size:=by simp; omega
  have hgA:g < (w.alloc (.cells #[.int .i64 ok,.int .i64 om,.int .i64 oa,.int .i64 ob,.int .u8 oc,.int .i64 ov,.string os,.string ot] 31)).heap.size:=hg
  have hnz:¬ n=0:=by omega
  generalize (w.alloc (.cells #[.int .i64 ok,.int .i64 om,.int .i64 oa,.int .i64 ob,.int .u8 oc,.int .i64 ov,.string os,.string ot] 31))=WA at *
  have FN:Hid (∀ W,Below WA.heap.size WA W→2≤ok→ok≤5→Calls Tryz.prog 13 #[.agg #[.pointer (some ⟨hb,0,none⟩),.pointer (some ⟨rb,0,none⟩)],.agg #[.int .i64 ok,.int .i64 om,.int .i64 oa,.int .i64 ob,.int .u8 oc,.int .i64 ov,.string os,.string ot]] W fun e w'=>e=.returned (.bool true)∧(Below B W w'∧GS W w' (wsS wb v ps))∧∃ v' ps',WS B w' wb v' ps' (mx+1)∧ps.length≤ps'.length∧ps'.length≤ps.length+1) :=
   fun W hW k1 k2=>HA.out.call j hb rb d HQ.out hW fun p1 p2=>numbers_any hb rb d mx ⟨ok,om,oa,ob,oc,ov,os,ot⟩ W p1 p2 hmx HO.out k1 k2
  have FL:Hid (∀ W,Below WA.heap.size WA W→6≤ok→ok≤11→Calls Tryz.prog 14 #[.agg #[.pointer (some ⟨hb,0,none⟩),.pointer (some ⟨rb,0,none⟩)],.agg #[.int .i64 ok,.int .i64 om,.int .i64 oa,.int .i64 ob,.int .u8 oc,.int .i64 ov,.string os,.string ot]] W fun e w'=>e=.returned (.bool true)∧(Below B W w'∧GS W w' (wsS wb v ps))∧∃ v' ps',WS B w' wb v' ps' (mx+1)∧ps.length≤ps'.length∧ps'.length≤ps.length+1) :=
   fun W hW k1 k2=>HA.out.call j hb rb d HQ.out hW fun p1 p2=>links_any hb rb d mx ⟨ok,om,oa,ob,oc,ov,os,ot⟩ W p1 p2 hmx HO.out k1 k2
  have FC:Hid (∀ W,Below WA.heap.size WA W→ok≤0→Calls Tryz.prog 15 #[.agg #[.pointer (some ⟨hb,0,none⟩),.pointer (some ⟨rb,0,none⟩)],.agg #[.int .i64 ok,.int .i64 om,.int .i64 oa,.int .i64 ob,.int .u8 oc,.int .i64 ov,.string os,.string ot]] W fun e w'=>e=.returned (.bool true)∧(Below B W w'∧GS W w' (wsS wb v ps))∧∃ v' ps',WS B w' wb v' ps' (mx+1)∧ps.length≤ps'.length∧ps'.length≤ps.length+1):=by
   intro W hW k1
   refine (changes_none hb rb ⟨ok,om,oa,ob,oc,ov,os,ot⟩ W k1).mono ?_
   rintro e w' ⟨rfl,B1⟩
   have hBW:B≤W.heap.size:=by have:=HA.out.lt; have:=HA.out.wbB; have:=hW.size; omega
   exact ⟨rfl,⟨B1.mono hBW,GS.of_below B1⟩,v,ps,(HA.out.below hW (Nat.le_refl _)).below B1 (by omega),Nat.le_refl _,by omega⟩
  have BWA:Below WA.heap.size WA ((WA.alloc (.cells #[.pointer (some ⟨hb,0,none⟩),.pointer (some ⟨rb,0,none⟩)] 41)).drew):=((Below.refl _ _).alloc (Nat.le_refl _) _).drew
  have HBW:Hid (Below B w ((WA.alloc (.cells #[.pointer (some ⟨hb,0,none⟩),.pointer (some ⟨rb,0,none⟩)] 41)).drew)):=(HBA.out.mono hBw).trans (BWA.mono (by have:=HA.out.lt; have:=HA.out.wbB; omega))
  have HBW2:Hid (Below w.heap.size w ((WA.alloc (.cells #[.pointer (some ⟨hb,0,none⟩),.pointer (some ⟨rb,0,none⟩)] 41)).drew)):=HBA.out.trans (BWA.mono HBA.out.size)
  have F1:=FN.out _ BWA
  have F2:=FL.out _ BWA
  have F3:=FC.out _ BWA
  clear FN FL FC BWA
  go_region
  all_goals
   by_cases k5:2≤ok∧ok≤5
   ·have F:=F1 k5.1 k5.2
    have ka:=k5.1
    have kb:=k5.2
    have d1:decide (2≤ok)=true:=decide_eq_true ka
    clear F1 F2 F3
    go_wp2_with fail
    refine F.mono ?_
    rintro e w2 ⟨rfl,B2,hex⟩
    have HL:Hid ((Below B w w2∧GS w w2 (wsS wb v ps))∧∃ v' ps',WS B w2 wb v' ps' (mx+1)∧ps.length≤ps'.length∧ps'.length≤ps.length+1):=⟨⟨HBW.out.trans B2.1,GS.below HBW2.out B2.2⟩,hex⟩
    clear F B2 hex
    go_wp2
    go_ret
    exact ⟨rfl,HL.out.1,HL.out.2⟩
   ·by_cases k11:6≤ok
    ·have F:=F2 k11 hk
     have d1:decide (ok≤5)=false:=decide_eq_false (by omega)
     clear F1 F2 F3
     go_wp2_with fail
     refine F.mono ?_
     rintro e w2 ⟨rfl,B2,hex⟩
     have HL:Hid ((Below B w w2∧GS w w2 (wsS wb v ps))∧∃ v' ps',WS B w2 wb v' ps' (mx+1)∧ps.length≤ps'.length∧ps'.length≤ps.length+1):=⟨⟨HBW.out.trans B2.1,GS.below HBW2.out B2.2⟩,hex⟩
     clear F B2 hex
     go_wp2
     go_ret
     exact ⟨rfl,HL.out.1,HL.out.2⟩
    ·have k0:ok≤0:=by omega
     have F:=F3 k0
     have d1:decide (2≤ok)=false:=decide_eq_false (by omega)
     have d2:decide (6≤ok)=false:=decide_eq_false (by omega)
     clear F1 F2 F3
     go_wp2_with fail
     refine F.mono ?_
     rintro e w2 ⟨rfl,B2,hex⟩
     have HL:Hid ((Below B w w2∧GS w w2 (wsS wb v ps))∧∃ v' ps',WS B w2 wb v' ps' (mx+1)∧ps.length≤ps'.length∧ps'.length≤ps.length+1):=⟨⟨HBW.out.trans B2.1,GS.below HBW2.out B2.2⟩,hex⟩
     clear F B2 hex
     go_wp2
     go_ret
     exact ⟨rfl,HL.out.1,HL.out.2⟩
end Go.Proofs.YtbgilndohccicaaGreatDoor
namespace Go.Proofs.YtbgilndohccicaaGreatDoor
open Go.RowKit
set_option maxRecDepth 20000 in
set_option maxHeartbeats 2000000 in
theorem step_hi (B wb:Nat) (v:Value) (ps:List PQ) (mx:Nat) (o:OpV) (w:World) (h:WS B w wb v ps mx) (ho:o.ok) (hk0:16≤o.k) (hk:o.k≤19) (hE:Ends w) (hE0:0 < B) (hl:ps.length≤2199023255552) (hmx:mx < 4398046511104) (hp0:0 < ps.length) :
  Calls Tryz.prog 9 #[.pointer (some ⟨wb,0,none⟩),o.val] w (StPost B wb v ps mx w):=by
 have hwl:=h.lt
 have hBw:B≤w.heap.size:=by have:=h.wbB; omega
 have HO:Hid (o.ok):=ho
 have BA:Below w.heap.size w (w.alloc (.cells o.cells 31)):=(Below.refl _ _).alloc (Nat.le_refl _) _
 have hA:=h.below BA (Nat.le_refl mx)
 have HA:Hid (WS B (w.alloc (.cells o.cells 31)) wb v ps mx):=hA
 have HEA:Hid (Ends (w.alloc (.cells o.cells 31))):=hE.below BA
 have HBA:Hid (Below w.heap.size w (w.alloc (.cells o.cells 31))):=BA
 obtain ⟨j,hj,hjn⟩:=tmod_in o.m ps.length hp0
 obtain ⟨⟨hb,rb,d⟩,hq⟩:∃ q,ps[j]?=some q:=⟨_,List.getElem?_eq_getElem hjn⟩
 obtain ⟨g,cap,ev,hg,c0,c1⟩:=hA.cells j _ hq
 simp only [] at c0 c1
 have cw:=hA.c
 rw [ev] at cw
 have tl:=tmod_lt' o.m ps.length hp0
 have hw1:IntKind.i64.wrap (o.m.tmod ps.length+ps.length)=o.m.tmod ps.length+ps.length:=by rw [IntKind.wrap_i64]; omega
 have HQ:Hid (ps[j]?=some (hb,rb,d)):=hq
 have HV:Hid (v=.slice (some ⟨g,0,none⟩) ps.length cap):=ev
 obtain ⟨n,hn⟩:∃ n,n=ps.length:=⟨_,rfl⟩
 have HN:Hid (n=ps.length):=hn
 rw [← hn] at cw hj hjn hw1 tl hp0 hl
 have hn0:((n:Int)==0)=false:=by simp; omega
 have hnb:(0:Int) < (n:Int):=by omega
 have hjb:(0:Int)≤(j:Int)∧(j:Int) < (n:Int):=by omega
 have n1:(o.k==1)=false:=by simp; omega
 have n2:decide (12≤o.k)=true:=decide_eq_true (by omega)
 have n3:decide (o.k≤15)=false:=decide_eq_false (by omega)
 unfold StPost
 obtain ⟨ok,om,oa,ob,oc,ov,os,ot⟩:=o
 simp only [OpV.val,OpV.cells] at *
 clear h ho hE hA BA hq ev hn
 go_enter Tryz.func9,Tryz.ntmps9
 go_wp2
 have y0:(w.alloc (.cells #[.int .i64 ok,.int .i64 om,.int .i64 oa,.int .i64 ob,.int .u8 oc,.int .i64 ov,.string os,.string ot] 31)).cell? ⟨w.heap.size,0,none⟩=some (.int .i64 ok):=by go_simp
 have y1:(w.alloc (.cells #[.int .i64 ok,.int .i64 om,.int .i64 oa,.int .i64 ob,.int .u8 oc,.int .i64 ov,.string os,.string ot] 31)).cell? ⟨w.heap.size,1,none⟩=some (.int .i64 om):=by go_simp
 have y2:(w.alloc (.cells #[.int .i64 ok,.int .i64 om,.int .i64 oa,.int .i64 ob,.int .u8 oc,.int .i64 ov,.string os,.string ot] 31)).cell? ⟨w.heap.size,2,none⟩=some (.int .i64 oa):=by go_simp
 have y3:(w.alloc (.cells #[.int .i64 ok,.int .i64 om,.int .i64 oa,.int .i64 ob,.int .u8 oc,.int .i64 ov,.string os,.string ot] 31)).cell? ⟨w.heap.size,3,none⟩=some (.int .i64 ob):=by go_simp
 have y4:(w.alloc (.cells #[.int .i64 ok,.int .i64 om,.int .i64 oa,.int .i64 ob,.int .u8 oc,.int .i64 ov,.string os,.string ot] 31)).cell? ⟨w.heap.size,4,none⟩=some (.int .u8 oc):=by go_simp
 have y5:(w.alloc (.cells #[.int .i64 ok,.int .i64 om,.int .i64 oa,.int .i64 ob,.int .u8 oc,.int .i64 ov,.string os,.string ot] 31)).cell? ⟨w.heap.size,5,none⟩=some (.int .i64 ov):=by go_simp
 have y6:(w.alloc (.cells #[.int .i64 ok,.int .i64 om,.int .i64 oa,.int .i64 ob,.int .u8 oc,.int .i64 ov,.string os,.string ot] 31)).cell? ⟨w.heap.size,6,none⟩=some (.string os):=by go_simp
 have y7:(w.alloc (.cells #[.int .i64 ok,.int .i64 om,.int .i64 oa,.int .i64 ob,.int .u8 oc,.int .i64 ov,.string os,.string ot] 31)).cell? ⟨w.heap.size,7,none⟩=some (.string ot):=by go_simp
 have hlt:w.heap.size < (w.alloc (.cells #[.int .i64 ok,.int .i64 om,.int .i64 oa,.int .i64 ob,.int .u8 oc,.int .i64 ov,.string os,.string ot] 31)).heap.size:=by simp
 have hwA:wb < (w.alloc (.cells #[.int .i64 ok,.int .i64 om,.int .i64 oa,.int .i64 ob,.int .u8 oc,.int .i64 ov,.string os,.string ot] 31)).heap.size:=by simp; omega
 have hgA:g < (w.alloc (.cells #[.int .i64 ok,.int .i64 om,.int .i64 oa,.int .i64 ob,.int .u8 oc,.int .i64 ov,.string os,.string ot] 31)).heap.size:=hg
 have hnz:¬ n=0:=by omega
 generalize (w.alloc (.cells #[.int .i64 ok,.int .i64 om,.int .i64 oa,.int .i64 ob,.int .u8 oc,.int .i64 ov,.string os,.string ot] 31))=WA at *
 have hb0:0 < hb:=by
  have:=(HA.out.ge j _ HQ.out hb (.inl (.inl ⟨(HA.out.ok j _ HQ.out).1,Nat.le_refl _⟩))).1
  omega
 have FC:Hid (∀ W,Below WA.heap.size WA W→Calls Tryz.prog 15 #[.agg #[.pointer (some ⟨hb,0,none⟩),.pointer (some ⟨rb,0,none⟩)],.agg #[.int .i64 ok,.int .i64 om,.int .i64 oa,.int .i64 ob,.int .u8 oc,.int .i64 ov,.string os,.string ot]] W fun e w'=>e=.returned (.bool true)∧(Below B W w'∧GS W w' (wsS wb v ps))∧∃ v' ps',WS B w' wb v' ps' (mx+1)∧ps.length≤ps'.length∧ps'.length≤ps.length+1) :=
  fun W hW=>HA.out.call j hb rb d HQ.out hW fun p1 p2=>changes_any hb rb d mx ⟨ok,om,oa,ob,oc,ov,os,ot⟩ W p1 p2 hmx HO.out (HEA.out.below hW) hb0 hk0 hk
 have BWA:Below WA.heap.size WA ((WA.alloc (.cells #[.pointer (some ⟨hb,0,none⟩),.pointer (some ⟨rb,0,none⟩)] 41)).drew):=((Below.refl _ _).alloc (Nat.le_refl _) _).drew
 have HBW:Hid (Below B w ((WA.alloc (.cells #[.pointer (some ⟨hb,0,none⟩),.pointer (some ⟨rb,0,none⟩)] 41)).drew)):=(HBA.out.mono hBw).trans (BWA.mono (by have:=HA.out.lt; have:=HA.out.wbB; omega))
 have HBW2:Hid (Below w.heap.size w ((WA.alloc (.cells #[.pointer (some ⟨hb,0,none⟩),.pointer (some ⟨rb,0,none⟩)] 41)).drew)):=HBA.out.trans (BWA.mono HBA.out.size)
 have F:=FC.out _ BWA
 clear FC BWA
 go_region
 all_goals
  have d1:decide (2≤ok)=true:=decide_eq_true (by omega)
  have d2:decide (ok≤5)=false:=decide_eq_false (by omega)
  have d3:decide (6≤ok)=true:=decide_eq_true (by omega)
  have d4:decide (ok≤11)=false:=decide_eq_false (by omega)
  go_wp2_with fail
  refine F.mono ?_
  rintro e w2 ⟨rfl,B2,hex⟩
  have HL:Hid ((Below B w w2∧GS w w2 (wsS wb v ps))∧∃ v' ps',WS B w2 wb v' ps' (mx+1)∧ps.length≤ps'.length∧ps'.length≤ps.length+1):=⟨⟨HBW.out.trans B2.1,GS.below HBW2.out B2.2⟩,hex⟩
  clear F B2 hex
  go_wp2
  go_ret
  exact ⟨rfl,HL.out.1,HL.out.2⟩
set_option maxRecDepth 20000 in
set_option maxHeartbeats 2000000 in
theorem step_text (B wb:Nat) (v:Value) (ps:List PQ) (mx:Nat) (o:OpV) (w:World) (h:WS B w wb v ps mx) (ho:o.ok) (hk0:12≤o.k) (hk:o.k≤15) (hE:Ends w) :
  Calls Tryz.prog 9 #[.pointer (some ⟨wb,0,none⟩),o.val] w (StPost B wb v ps mx w):=by
 have hwl:=h.lt
 have hBw:B≤w.heap.size:=by have:=h.wbB; omega
 have BA:Below w.heap.size w (w.alloc (.cells o.cells 31)):=(Below.refl _ _).alloc (Nat.le_refl _) _
 have HA:Hid (WS B w wb v ps mx):=h
 have HBA:Hid (Below w.heap.size w (w.alloc (.cells o.cells 31))):=BA
 have C:=text_any o (w.alloc (.cells o.cells 31)) ho (hE.below BA) hk0 hk
 have n1:(o.k==1)=false:=by simp; omega
 have n2:decide (12≤o.k)=true:=decide_eq_true (by omega)
 have n3:decide (o.k≤15)=true:=decide_eq_true (by omega)
 unfold StPost
 obtain ⟨ok,om,oa,ob,oc,ov,os,ot⟩:=o
 simp only [OpV.val,OpV.cells] at *
 clear h ho hE BA
 go_enter Tryz.func9,Tryz.ntmps9
 go_wp2_with fail
 refine C.mono ?_
 rintro e w1 ⟨rfl,B1⟩
 have HL:Hid (Below w.heap.size w w1):=HBA.out.trans (B1.mono HBA.out.size)
 clear C B1
 go_wp2
 go_ret
 exact ⟨rfl,⟨HL.out.mono hBw,GS.of_below HL.out⟩,v,ps,HA.out.below HL.out (by omega),Nat.le_refl _,by omega⟩
theorem step_any (B wb:Nat) (v:Value) (ps:List PQ) (mx:Nat) (o:OpV) (w:World) (h:WS B w wb v ps mx) (ho:o.ok) (hk:o.k≤19) (hE:Ends w) (hE0:0 < B) (hl:ps.length≤2199023255552) (hmx:mx < 4398046511104) (hp0:0 < ps.length) :
  Calls Tryz.prog 9 #[.pointer (some ⟨wb,0,none⟩),o.val] w (StPost B wb v ps mx w):=by
 by_cases h1:o.k≤11
 ·exact step_lo B wb v ps mx o w h ho h1 hE hE0 hl hmx hp0
 ·by_cases h2:o.k≤15
  ·exact step_text B wb v ps mx o w h ho (by omega) h2 hE
  ·exact step_hi B wb v ps mx o w h ho (by omega) hk hE hE0 hl hmx hp0
end Go.Proofs.YtbgilndohccicaaGreatDoor
