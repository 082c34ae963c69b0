import Derived.Test.YtbgilndohccicaaGreatDoorBz45
import Derived.Test.YtbgilndohccicaaGreatDoorBz10
import Derived.Test.YtbgilndohccicaaGreatDoorBz19
import Derived.WalkKit
import Derived.Test.YtbgilndohccicaaGreatDoorProg
import Derived.WalkSpells
import Derived.WalkLawsBesides
import Derived.Laws.BitsAllLaws
import Derived.Laws.Shifts
import Derived.Deep.QuietTactic
import Derived.BigQuiet
namespace Go.Proofs.YtbgilndohccicaaGreatDoor
open Go.RowKit
theorem stX_has (x:RX) (bud:Int) (cs:Sch) (n rb b:Nat) (h:(stX x bud).has cs n rb b):x.has cs n rb b:=by
 unfold stX at h
 split at h <;> exact h
theorem stX_keep (x:RX) (bud:Int):(stX x bud).pd=x.pd∧(stX x bud).nx=x.nx:=by
 unfold stX
 split <;> exact ⟨rfl,rfl⟩
theorem stX_sp (x:RX) (bud:Int) (h:0≤x.sp∧x.sp≤200):0≤(stX x bud).sp∧(stX x bud).sp≤200:=by
 unfold stX
 by_cases hs:stS x.pd bud=true
 ·rw [if_pos hs]
  have hb:1≤bud:=by unfold stS at hs; simp at hs; exact hs.2
  simp only []
  split <;> split <;> omega
 ·rw [if_neg hs]; exact h
theorem UpOK.kept {w w2:World} {hb rb:Nat} {d:PD} (h:UpOK w hb rb d) (x':RX) (hx:x'.nx=d.x.nx) (e:∀ b,d.u.lo≤b→b < d.u.hi→w2.heap[b]?=w.heap[b]?) (hpd:pdP { d.p with N:=d.p.N }=true):uE d.cs d.u.s=0∧haAll d.u.s=some d.u.hs∧MksIn w2 d.u.lo d.u.hi (updV d.p.N) d.u.mv (uM d.cs d.u.s)∧UClsIn w2 d.u.lo d.u.hi (.slice x'.nx.a x'.nx.n x'.nx.c) d.u.hv d.u.hs:=by
 rw [hx]
 exact ⟨(h.on hpd).1,(h.on hpd).2.1,(h.on hpd).2.2.1.keep e,(h.on hpd).2.2.2.keep e⟩
set_option maxRecDepth 20000 in
set_option maxHeartbeats 1000000 in
theorem changes_step (hb rb:Nat) (d:PD) (mx:Nat) (o:OpV) (w:World) (h:PairOK w hb rb d mx) (hlo:d.lo≤hb) (hk:o.k=17) :
  Calls Tryz.prog 15 #[.agg #[.pointer (some ⟨hb,0,none⟩),.pointer (some ⟨rb,0,none⟩)],o.val] w (LPost hb rb d mx w):=by
 have hB:=h.box hlo o
 have bx:=Bx.new w hb rb o
 have hbl:=h.hp.lt
 have hrl:=h.rp.lt
 have PM:=pstep_any hb d.sv d.sz d.p _ hB.hp o.a
 have RM:=step_r rb d.x d.cs d.sz d.r _ hB.rp h.up.sp o.a
 rw [h.up.pd] at RM
 have HB:Hid (PairOK (boxed w hb rb o) hb rb d mx):=hB
 generalize stS (pdP d.p) o.a=y at PM RM
 generalize stE (pdP d.p) o.a=z at PM RM
 obtain ⟨ok,om,oa,ob,oc,ov,os,ot⟩:=o
 simp only [OpV.val] at *
 subst hk
 obtain ⟨x0,x1,x2,x3,x4,x5,x6,x7,x8⟩:=bx
 clear h hB
 go_enter Tryz.func15,Tryz.ntmps15
 go_wp2_with fail
 refine PM.mono ?_
 rintro e w1 ⟨rfl,hw1⟩
 change w1=boxed w hb rb ⟨17,om,oa,ob,oc,ov,os,ot⟩ at hw1
 have HW:Hid (w1=boxed w hb rb ⟨17,om,oa,ob,oc,ov,os,ot⟩):=hw1
 rw [← hw1] at RM x0 x1 x2 x3 x4 x5 x6 x7 x8
 clear PM hw1
 go_wp2_with fail
 refine RM.mono ?_
 rintro e w2 ⟨rfl,g2,rp⟩
 have HL:Hid (LPost hb rb d mx w (.returned (.bool true)) w2):=by
  show LPost hb rb d mx w (.returned (.bool true)) w2
  have hB':=HB.out
  rw [HW.out] at g2
  have hub:∀ b,d.u.lo≤b→b < d.u.hi→w2.heap[b]?=(boxed w hb rb ⟨17,om,oa,ob,oc,ov,os,ot⟩).heap[b]?:=fun b h1 h2=>by
   have hl:=hB'.up.lt
   exact g2.block b (by omega) (fun e=>by injection e with e; subst e; exact hB'.up.nx _ (.inl rfl) ⟨h1,h2⟩)
  refine hB'.upd hlo d.p.N (stX d.x oa) d.u (fun _ _ _=>rfl) (fun b hb'=>stX_has _ _ _ _ _ _ hb') hB'.hp (gb_below (Below.refl _ _) _) rp g2 ((stX_keep _ _).1.trans hB'.up.pd) (fun hpd=>hB'.up.kept _ (stX_keep _ _).2 hub hpd) (fun hpd=>stX_sp _ _ (hB'.up.sp ((stX_keep _ _).1.symm.trans hpd))) (.inl rfl)
 clear RM g2 rp
 go_wp2
 go_ret
 exact HL.out
set_option maxRecDepth 20000 in
set_option maxHeartbeats 1000000 in
theorem changes_abort (hb rb:Nat) (d:PD) (mx:Nat) (o:OpV) (w:World) (h:PairOK w hb rb d mx) (hlo:d.lo≤hb) (hk:o.k=19) :
  Calls Tryz.prog 15 #[.agg #[.pointer (some ⟨hb,0,none⟩),.pointer (some ⟨rb,0,none⟩)],o.val] w (LPost hb rb d mx w):=by
 have hB:=h.box hlo o
 have bx:=Bx.new w hb rb o
 have hbl:=h.hp.lt
 have hrl:=h.rp.lt
 have PM:=pabort_any hb d.sv d.sz d.p _ hB.hp
 have RM:=fun W (hW:RP W rb d.x d.cs d.sz d.r)=>abort_r rb d.x d.cs d.sz d.r W hW
 rw [h.up.pd] at RM
 have HB:Hid (PairOK (boxed w hb rb o) hb rb d mx):=hB
 have HX:Hid (Bx (boxed w hb rb o) w.heap.size hb rb o):=bx
 generalize (if pdP d.p=true then (0:Int) else 12)=z at PM RM
 obtain ⟨ok,om,oa,ob,oc,ov,os,ot⟩:=o
 simp only [OpV.val] at *
 subst hk
 clear h hB bx
 go_enter Tryz.func15,Tryz.ntmps15
 go_wp2_with fail
 refine PM.mono ?_
 rintro e w1 ⟨rfl,g1,hp⟩
 obtain ⟨rp1,_⟩:=HB.out.afterP hlo g1
 have RM1:=RM w1 rp1
 obtain ⟨x0,x1,x2,x3,x4,x5,x6,x7,x8⟩:=HX.out.gb g1 hbl
 have HG1:Hid ((boxed w hb rb ⟨19,om,oa,ob,oc,ov,os,ot⟩).grownBy w1 (some hb)):=g1
 have HP1:Hid (HP w1 hb d.sv d.sz d.p.R d.p.K (if pdP d.p=true then offN d.p.N else d.p.N) d.p.F):=hp
 clear PM RM g1 rp1 hp
 go_wp2_with fail
 refine RM1.mono ?_
 rintro e w2 ⟨rfl,g2,rp⟩
 have HL:Hid (LPost hb rb d mx w (.returned (.bool true)) w2):=by
  show LPost hb rb d mx w (.returned (.bool true)) w2
  have hB':=HB.out
  have hpf:pdP { d.p with N:=(if pdP d.p=true then offN d.p.N else d.p.N) }=false:=by
   cases hq:pdP d.p with
   | true=>rw [if_pos rfl]; unfold pdP offN; simp
   | false=>rw [if_neg (by simp)]; exact hq
  refine hB'.upd hlo (if pdP d.p=true then offN d.p.N else d.p.N) { d.x with pd:=false } d.u (fun i j hi=>?_) (fun b hb'=>hb') HP1.out HG1.out rp g2 hpf.symm (fun hpd=>?_) (fun hpd=>?_) (.inl rfl)
  ·split
   ·unfold offN; rw [if_neg hi]
   ·rfl
  ·rw [hpf] at hpd; cases hpd
  ·cases hpd
 clear RM1 g2 rp
 go_wp2
 go_ret
 exact HL.out
set_option maxRecDepth 20000 in
set_option maxHeartbeats 1000000 in
theorem changes_peek (hb rb:Nat) (d:PD) (mx:Nat) (o:OpV) (w:World) (h:PairOK w hb rb d mx) (hlo:d.lo≤hb) (hmx:mx < 4398046511104) (hk:o.k=18) :
  Calls Tryz.prog 15 #[.agg #[.pointer (some ⟨hb,0,none⟩),.pointer (some ⟨rb,0,none⟩)],o.val] w (LPost hb rb d mx w):=by
 have hB:=h.box hlo o
 have bx:=Bx.new w hb rb o
 have hbl:=h.hp.lt
 have hrl:=h.rp.lt
 have hn:d.r.n≤4398046511104:=by have:=h.mx; omega
 obtain ⟨sv,hsv,hsu,heq⟩:=peek_agree h.uq h.h6 h.lc h.wf h.sim h.up.pd (fun hp=>⟨(h.up.on hp).1,(h.up.on hp).2.1⟩) o.a o.c
 have PM:=peek_any hb d.sv d.sz d.p _ hB.hp hB.pw.root (base:=d.u.lo) (vs:=d.u.mv) (ms:=uM d.cs d.u.s) (fun hp=>by
  have hp':pdP d.p=true:=by unfold pdP; simpa using hp
  exact ⟨(hB.up.on hp').2.2.1 _ (fun _ _ _=>rfl),uM_ok (hB.up.on hp').1⟩) o.a o.c
 have RM:=fun W (B1:Below (boxed w hb rb o).heap.size (boxed w hb rb o) W)=>peek_r rb d.x d.cs d.sz d.r W (hB.rp.below B1) h.wf h.uq h.n6 h.h6 hn d.u.lo d.u.hv d.u.hs sv hsv.1 hsv.2 o.a o.c (fun hpd=>by
  have hp':pdP d.p=true:=by rw [← h.up.pd]; exact hpd
  obtain ⟨a1,a2,a3,a4⟩:=hB.up.on hp'
  have hz:=(uE_parts a1).1
  obtain ⟨⟨k1,k2⟩,k3⟩:=haAll_ok d.u.s (by omega) d.u.hs a2
  refine ⟨a4 _ (fun b _ hb2=>B1.block b (by have:=hB.up.lt; omega)),k3,k1,fun c hc=>(k2 c hc).1.1,fun q hr hq t ht g hg hgk hgs=>?_⟩
  obtain ⟨s1,s2⟩:=hsu hpd q hr hq t ht g hg hgk hgs
  have hqn:q < d.r.n:=by
   obtain ⟨i,hi,hi8⟩:=rtB_nat hr
   have:=h.wf.root i hi8
   rw [hi,Int.toNat_natCast] at hq
   omega
  exact sum_d (fun c W' _ _ hW'=>letter_r rb d.x d.cs d.sz d.r W' hW' (by have:=h.n6; omega) h.h6 hn q hqn c) 7 _ _ s1 _ rfl s2)
 rw [← heq] at RM
 have HB:Hid (PairOK (boxed w hb rb o) hb rb d mx):=hB
 have HX:Hid (Bx (boxed w hb rb o) w.heap.size hb rb o):=bx
 clear hsu heq
 generalize pkI d.p (uM d.cs d.u.s) o.a o.c=yz at PM RM
 obtain ⟨y,z⟩:=yz
 simp only [] at PM RM
 obtain ⟨ok,om,oa,ob,oc,ov,os,ot⟩:=o
 simp only [OpV.val] at *
 subst hk
 clear h hB bx
 go_enter Tryz.func15,Tryz.ntmps15
 go_wp2_with fail
 refine PM.mono ?_
 rintro e w1 ⟨rfl,B1⟩
 have RM1:=RM w1 B1
 obtain ⟨x0,x1,x2,x3,x4,x5,x6,x7,x8⟩:=HX.out.bel B1
 have HB1:Hid (Below (boxed w hb rb ⟨18,om,oa,ob,oc,ov,os,ot⟩).heap.size (boxed w hb rb ⟨18,om,oa,ob,oc,ov,os,ot⟩) w1):=B1
 clear PM RM B1
 go_wp2_with fail
 refine RM1.mono ?_
 rintro e w2 ⟨rfl,B2⟩
 have HL:Hid (LPost hb rb d mx w (.returned (.bool true)) w2):=HB.out.asks hlo HB1.out B2
 clear RM1 B2
 go_wp2
 go_ret
 exact HL.out
end Go.Proofs.YtbgilndohccicaaGreatDoor
namespace Go.Proofs.YtbgilndohccicaaGreatDoor
open Go.RowKit
set_option maxHeartbeats 400000 in
theorem check_any (s:ByteArray) (w:World) (hm:s.size≤9223372036854775807) :
  Calls Tryz.prog 58 #[.string s] w fun e w'=>e=.returned (.tuple #[.int .i64 (readE s),.int .i64 (readP s)])∧Below w.heap.size w w':=by
 go_enter Tryz.func58,Tryz.ntmps58
 go_wp2_with (go_at_call 16; refine (read_any s _ hm).mono ?_; rintro e w1 ⟨a,n,c,vs,rfl,V1,hb1⟩)
 go_ret2
 exact ⟨rfl,hb1.alloc hb1.size _⟩
theorem schema_rs (s:ByteArray) (w:World) (hm:s.size≤9223372036854775807) (hE:Ends w) :
  Calls Tryz.prog 17 #[.string s] w fun e w'=>∃ (a:Option Addr) (n c:Nat),e=.returned (.tuple #[.slice a n c,.int .i64 (readE s),.int .i64 (readP s)])∧Below w.heap.size w w':=by
 refine (schema_any s w hm hE).mono ?_
 rintro e w' ⟨a,n,c,x,y,he,hS,_,hb⟩
 obtain ⟨hx,hy⟩:=agree s x y hS
 exact ⟨a,n,c,by rw [he,hx,hy],hb⟩
set_option maxHeartbeats 400000 in
theorem checks_walk (s:ByteArray) (w:World) (hm:s.size≤9223372036854775807) (hE:Ends w) :
  Calls Tryz.prog 18 #[.string s] w fun e w'=>e=.returned (.bool true)∧Below w.heap.size w w':=by
 have HE:Hid (Ends w):=hE
 have q1:(readE s==readE s)=true:=by simp
 have q2:(readP s==readP s)=true:=by simp
 clear hE
 go_enter Tryz.func18,Tryz.ntmps18
 go_wp2_with (first | (go_at_call 58; refine (check_any s _ hm).mono ?_; rintro e w1 ⟨rfl,hb1⟩) | (go_at_call 17; refine (schema_rs s _ hm (HE.out.below hb1)).mono ?_; rintro e w2 ⟨a,n,c,rfl,hb2⟩))
 go_ret
 exact ⟨rfl,hb1.trans (hb2.mono hb1.size)⟩
end Go.Proofs.YtbgilndohccicaaGreatDoor
namespace Go.Proofs.YtbgilndohccicaaGreatDoor
def lfK (z:BitVec 32):BitVec 32:=(z >>> 1) ^^^ (if z.getLsbD 0 then 3988292384#32 else 0#32)
theorem lf_xor (a b:BitVec 32):lfK (a ^^^ b)=lfK a ^^^ lfK b:=by
 have h:((a ^^^ b) >>> 1)=(a >>> 1) ^^^ (b >>> 1):=BitVec.ushiftRight_xor_distrib a b 1
 simp only [lfK,h,BitVec.getLsbD_xor]
 generalize a >>> 1=x
 generalize b >>> 1=y
 apply BitVec.eq_of_getLsbD_eq
 intro i hi
 cases a.getLsbD 0 <;> cases b.getLsbD 0 <;> simp only [Bool.xor_false,Bool.xor_true,Bool.not_false,Bool.not_true,if_true,if_false,Bool.false_eq_true,BitVec.getLsbD_xor,BitVec.getLsbD_zero] <;> cases x.getLsbD i <;> cases y.getLsbD i <;> cases (3988292384#32).getLsbD i <;> rfl
theorem lf_zero:lfK 0#32=0#32:=by decide
theorem lf_inj {a:BitVec 32} (h:lfK a=0#32):a=0#32:=by
 have h31:(lfK a).getLsbD 31=a.getLsbD 0:=by
  simp only [lfK,BitVec.getLsbD_xor,BitVec.getLsbD_ushiftRight]
  cases h0:a.getLsbD 0 <;> simp
 have h0:a.getLsbD 0=false:=by rw [← h31,h]; rfl
 have hs:a >>> 1=0#32:=by
  have:=h; simp only [lfK,h0] at this; simpa using this
 apply BitVec.eq_of_getLsbD_eq
 intro i hi
 rcases i with _ | i
 ·rw [h0]; rfl
 ·have:=congrArg (fun z=>BitVec.getLsbD z i) hs
  simp only [BitVec.getLsbD_ushiftRight] at this
  rw [Nat.add_comm i 1,this]; simp
def lfN:Nat→BitVec 32→BitVec 32
 | 0,z=>z
 | n+1,z=>lfK (lfN n z)
theorem lfN_xor (n:Nat) (a b:BitVec 32):lfN n (a ^^^ b)=lfN n a ^^^ lfN n b:=by
 induction n with
 | zero=>rfl
 | succ n ih=>simp only [lfN,ih,lf_xor]
theorem lfN_zero (n:Nat):lfN n 0#32=0#32:=by
 induction n with
 | zero=>rfl
 | succ n ih=>simp only [lfN,ih,lf_zero]
theorem lfN_inj (n:Nat) {a:BitVec 32} (h:lfN n a=0#32):a=0#32:=by
 induction n with
 | zero=>exact h
 | succ n ih=>exact ih (lf_inj h)
theorem lfN_lf (n:Nat) (a:BitVec 32):lfN n (lfK a)=lfK (lfN n a):=by
 induction n with
 | zero=>rfl
 | succ n ih=>simp only [lfN,ih]
theorem xor_eq_zero {a b:BitVec 32} (h:a ^^^ b=0#32):a=b:=BitVec.xor_eq_zero_iff.1 h
theorem lfN_eq (n:Nat) {a b:BitVec 32} (h:lfN n a=lfN n b):a=b:=by
 apply xor_eq_zero; apply lfN_inj n; rw [lfN_xor,h,BitVec.xor_self]
def bv (b:Bool):BitVec 32:=if b then 1#32 else 0#32
def bt (b:Bool):BitVec 32:=if b then 2147483648#32 else 0#32
def prS (b:Nat→Bool):Nat→BitVec 32
 | 0=>4294967295#32
 | n+1=>lfK (prS b n ^^^ bv (b n))
def rfC (b:Nat→Bool):Nat→BitVec 32
 | 0=>0#32
 | n+1=>lfK (rfC b n) ^^^ bt (Bool.xor (b n) (decide (n < 32)))
def dfD:Nat→BitVec 32
 | 0=>4294967295#32
 | n+1=>lfK (dfD n) ^^^ (if n < 32 then lfN 32 2147483648#32 else 0#32)
theorem bt_xor (a b:Bool):bt (Bool.xor a b)=bt a ^^^ bt b:=by cases a <;> cases b <;> rfl
theorem top_one:lfN 32 2147483648#32=lfK 1#32:=by decide
theorem lf_bv (b:Bool):lfN 32 (bt b)=lfK (bv b):=by
 cases b
 ·simp only [bt,bv,Bool.false_eq_true,if_false,lfN_zero,lf_zero]
 ·simp only [bt,bv,if_true,top_one]
theorem df_eq (b:Nat→Bool) (n:Nat):lfN 32 (rfC b n) ^^^ prS b n=dfD n:=by
 induction n with
 | zero=>simp only [rfC,prS,dfD,lfN_zero,BitVec.zero_xor]
 | succ n ih =>
  simp only [rfC,prS,dfD,lfN_xor,bt_xor,lf_bv,lfN_lf,lf_xor,← ih]
  have e:lfK (bv (decide (n < 32)))=(if n < 32 then lfN 32 2147483648#32 else 0#32):=by
   by_cases h:n < 32
   ·simp only [h,decide_true,if_true,top_one,bv]
   ·simp only [h,decide_false,if_false,bv,Bool.false_eq_true,lf_zero]
  rw [e]
  generalize lfK (lfN 32 (rfC b n))=x
  generalize lfK (bv (b n))=y
  generalize lfK (prS b n)=z
  generalize (if n < 32 then lfN 32 2147483648#32 else 0#32)=u
  apply xor_eq_zero
  ext i hi
  simp only [BitVec.getElem_xor,BitVec.getElem_zero]
  cases x[i] <;> cases y[i] <;> cases z[i] <;> cases u[i] <;> rfl
theorem df_32:dfD 32=0#32:=by kernel_rfl
theorem df_more (k:Nat):dfD (k+32)=0#32:=by
 induction k with
 | zero=>rw [Nat.zero_add]; exact df_32
 | succ k ih =>
  have:k+1+32=(k+32)+1:=by omega
  rw [this,dfD,ih,lf_zero,if_neg (by omega)]; rfl
theorem prS_more (b:Nat→Bool) (N:Nat) (hb:∀ k,N≤k→b k=false) (j:Nat):prS b (N+j)=lfN j (prS b N):=by
 induction j with
 | zero=>rfl
 | succ j ih=>rw [← Nat.add_assoc,prS,hb _ (by omega),ih]; simp [bv,lfN]
theorem crc_meet (b:Nat→Bool) (N:Nat) (hb:∀ k,N≤k→b k=false):rfC b (N+32)=prS b N:=by
 apply lfN_eq 32
 rw [← prS_more b N hb 32]
 apply xor_eq_zero
 rw [df_eq,df_more]
def isB (l:List Int):Prop:=∀ x∈l,0≤x∧x≤255
def bitAt (l:List Int) (k:Nat):Bool:=(l[k / 8]?.getD 0).toNat.testBit (k % 8)
def crcL (l:List Int):BitVec 32 := ~~~ prS (bitAt l) (8 * l.length)
def vint (n:Nat):List Int:=if n < 128 then [(n:Int)] else [((n % 128+128:Nat):Int),((n / 128:Nat):Int)]
def headL (l:List Int):List Int:=[82,77]++vint l.length++l
def tail4 (c:Nat):List Int:=[((c % 256:Nat):Int),((c / 256 % 256:Nat):Int),((c / 65536 % 256:Nat):Int),((c / 16777216:Nat):Int)]
def packL (l:List Int):List Int:=headL l++tail4 (crcL (headL l)).toNat
def unpF (code:List Int) (f:Nat):Bool:=decide (f+4≤code.length) && decide (((code.drop f).take (code.length - 4 - f)).length≤200) && (packL ((code.drop f).take (code.length - 4 - f))==code)
def unpackL (code:List Int):Option (List Int):=if unpF code 3=true then some ((code.drop 3).take (code.length - 4 - 3)) else if unpF code 4=true then some ((code.drop 4).take (code.length - 4 - 4)) else none
theorem bitAt_end (l:List Int) (k:Nat) (h:8 * l.length≤k):bitAt l k=false:=by
 simp only [bitAt]; rw [List.getElem?_eq_none (by omega)]; simp
theorem crc_ref (l:List Int):rfC (bitAt l) (8 * l.length+32)=prS (bitAt l) (8 * l.length):=crc_meet _ _ (bitAt_end l)
theorem vint_len (n:Nat):(vint n).length=if n < 128 then 1 else 2:=by unfold vint; split <;> rfl
theorem headL_len (l:List Int):(headL l).length=2+(if l.length < 128 then 1 else 2)+l.length:=by
 simp only [headL,List.length_append,vint_len,List.length_cons,List.length_nil]
end Go.Proofs.YtbgilndohccicaaGreatDoor
namespace Go.Proofs.YtbgilndohccicaaGreatDoor
open Go.RowKit
theorem bits_xor32 (a b:BitVec 32):bits .xor .u32 (a.toNat:Int) (b.toNat:Int)=((a ^^^ b).toNat:Int):=by
 rw [u32_xor_nat _ _ a.isLt b.isLt,BitVec.toNat_xor]
theorem lf_odd (z:BitVec 32) (h:z.toNat % 2=1):lfK z=BitVec.ofNat 32 (z.toNat / 2) ^^^ 3988292384#32:=by
 have e:z.getLsbD 0=true:=by simp [BitVec.getLsbD,Nat.testBit_zero,h]
 have e2:z >>> 1=BitVec.ofNat 32 (z.toNat / 2):=by
  apply BitVec.eq_of_toNat_eq
  have:=z.isLt
  rw [BitVec.toNat_ushiftRight,BitVec.toNat_ofNat,Nat.shiftRight_eq_div_pow,Nat.mod_eq_of_lt (by omega)]
 unfold lfK; rw [e,e2]; rfl
theorem lf_even (z:BitVec 32) (h:¬ z.toNat % 2=1):lfK z=BitVec.ofNat 32 (z.toNat / 2):=by
 have e:z.getLsbD 0=false:=by simp [BitVec.getLsbD,Nat.testBit_zero]; omega
 have e2:z >>> 1=BitVec.ofNat 32 (z.toNat / 2):=by
  apply BitVec.eq_of_toNat_eq
  have:=z.isLt
  rw [BitVec.toNat_ushiftRight,BitVec.toNat_ofNat,Nat.shiftRight_eq_div_pow,Nat.mod_eq_of_lt (by omega)]
 unfold lfK; rw [e,e2]; simp
theorem half_nat (z:BitVec 32):(BitVec.ofNat 32 (z.toNat / 2)).toNat=z.toNat / 2:=by
 have:=z.isLt
 rw [BitVec.toNat_ofNat,Nat.mod_eq_of_lt (by omega)]
theorem step_bit (b:Nat→Bool) (n j:Nat) (v:BitVec 32) (h:b n=v.getLsbD j):lfK (prS b n ^^^ (v >>> j))=prS b (n+1) ^^^ (v >>> (j+1)):=by
 have key:lfK (bv (b n)) ^^^ lfK (v >>> j)=v >>> (j+1):=by
  rw [← lf_xor]
  have e0:(bv (b n) ^^^ (v >>> j)).getLsbD 0=false:=by
   rw [BitVec.getLsbD_xor,BitVec.getLsbD_ushiftRight,Nat.add_zero,← h]; cases b n <;> rfl
  unfold lfK
  rw [e0,BitVec.ushiftRight_xor_distrib,← BitVec.shiftRight_add]
  have:bv (b n) >>> 1=0#32:=by cases b n <;> rfl
  rw [this]; simp
 rw [prS,lf_xor,lf_xor,BitVec.xor_assoc,← key]
 congr 1
 rw [← BitVec.xor_assoc,BitVec.xor_self,BitVec.zero_xor]
theorem shr8 (n:Nat) (h:n < 256):BitVec.ofNat 32 n >>> 8=0#32:=by
 apply BitVec.eq_of_toNat_eq
 rw [BitVec.toNat_ushiftRight,BitVec.toNat_ofNat,Nat.shiftRight_eq_div_pow,Nat.mod_eq_of_lt (by omega)]
 simp; omega
theorem byte_bit (l:List Int) (k j:Nat) (hj:j < 8) (h0:0≤l[k]?.getD 0) (h1:l[k]?.getD 0≤255):bitAt l (8 * k+j)=(BitVec.ofNat 32 (l[k]?.getD 0).toNat).getLsbD j:=by
 unfold bitAt
 rw [show (8 * k+j) / 8=k by omega,show (8 * k+j) % 8=j by omega,BitVec.getLsbD,BitVec.toNat_ofNat,Nat.mod_eq_of_lt (by omega)]
def crcIn (l:List Int) (k j:Nat):BitVec 32:=prS (bitAt l) (8 * k+j) ^^^ (BitVec.ofNat 32 (l[k]?.getD 0).toNat >>> j)
theorem crcIn_start (l:List Int) (k:Nat) (h0:0≤l[k]?.getD 0) (h1:l[k]?.getD 0≤255):bits .xor .u32 ((prS (bitAt l) (8 * k)).toNat:Int) (l[k]?.getD 0)=((crcIn l k 0).toNat:Int):=by
 have e:(l[k]?.getD 0)=((BitVec.ofNat 32 (l[k]?.getD 0).toNat).toNat:Int):=by
  rw [BitVec.toNat_ofNat,Nat.mod_eq_of_lt (by omega)]; omega
 rw [e,bits_xor32]; simp [crcIn]
theorem crcIn_end (l:List Int) (k:Nat) (h0:0≤l[k]?.getD 0) (h1:l[k]?.getD 0≤255):crcIn l k 8=prS (bitAt l) (8 * (k+1)):=by
 unfold crcIn; rw [shr8 _ (by omega),BitVec.xor_zero]; rfl
theorem crcIn_step (l:List Int) (k j:Nat) (hj:j < 8) (h0:0≤l[k]?.getD 0) (h1:l[k]?.getD 0≤255):lfK (crcIn l k j)=crcIn l k (j+1) :=
 step_bit _ _ _ _ (byte_bit l k j hj h0 h1)
theorem crcIn_odd (l:List Int) (k j:Nat) (hj:j < 8) (h0:0≤l[k]?.getD 0) (h1:l[k]?.getD 0≤255) (h:(crcIn l k j).toNat % 2=1):bits .xor .u32 (((crcIn l k j).toNat:Int) / 2) 3988292384=((crcIn l k (j+1)).toNat:Int):=by
 rw [← crcIn_step l k j hj h0 h1,lf_odd _ h,← bits_xor32,half_nat]; rfl
theorem crcIn_even (l:List Int) (k j:Nat) (hj:j < 8) (h0:0≤l[k]?.getD 0) (h1:l[k]?.getD 0≤255) (h:¬ (crcIn l k j).toNat % 2=1):((crcIn l k j).toNat:Int) / 2=((crcIn l k (j+1)).toNat:Int):=by
 rw [← crcIn_step l k j hj h0 h1,lf_even _ h,half_nat]; rfl
theorem crc_not (z:BitVec 32):bits .xor .u32 IntKind.u32.max (z.toNat:Int)=((~~~z).toNat:Int):=by
 have:IntKind.u32.max=((4294967295#32:BitVec 32).toNat:Int):=by decide
 rw [this,bits_xor32,show (4294967295#32:BitVec 32)=BitVec.allOnes 32 from rfl,BitVec.allOnes_xor]
set_option maxHeartbeats 400000 in
theorem crcp_any (g cap:Nat) (l:List Int) (w:World) (hb:isB l) (hm:l.length≤4096) (hc:∀ i,i < l.length→w.cell? ⟨g,i,none⟩=some (.int .u8 (l[i]?.getD 0))) :
  Calls Tryz.prog 113 #[.slice (some ⟨g,0,none⟩) l.length cap] w fun e w'=>e=.returned (.int .u32 (crcL l).toNat)∧w'=w:=by
 obtain ⟨n,hn⟩:∃ n,n=l.length:=⟨_,rfl⟩
 have hbd:∀ k:Nat,0≤l[k]?.getD 0∧l[k]?.getD 0≤255:=by
  intro k
  cases e:l[k]? with
  | none=>simp
  | some x=>exact hb x (List.mem_of_getElem? e)
 have HB:Hid (∀ k:Nat,0≤l[k]?.getD 0∧l[k]?.getD 0≤255):=hbd
 rw [← hn] at hm hc ⊢
 have HN:Hid (n=l.length):=hn
 clear hn hb hbd
 go_enter Tryz.func113,Tryz.ntmps113
 go_wp2
 go_loop [3,10] (fun c i=>∃ k:Nat,k≤n∧i=.int .i64 k∧c=.int .u32 (prS (bitAt l) (8 * k)).toNat) (fun _ i=>n - (intOf i).toNat)
 case atStart=>exact ⟨0,Nat.zero_le _,rfl,rfl⟩
 case round =>
  obtain ⟨k,hk,rfl,rfl⟩:=hrel
  by_cases hlt:k < n
  ·have hck:=hc k hlt
   have hb0:=(HB.out k).1
   have hb1:=(HB.out k).2
   have hst:=crcIn_start l k hb0 hb1
   go_wp2
   go_loop [3,6] (fun c j=>∃ m:Nat,m≤8∧j=.int .i64 m∧c=.int .u32 (crcIn l k m).toNat) (fun _ j=>8 - (intOf j).toNat)
   case atStart=>exact ⟨0,Nat.zero_le _,rfl,rfl⟩
   case round =>
    obtain ⟨m,hm8,rfl,rfl⟩:=hrel
    by_cases hlt8:m < 8
    ·have hz:(crcIn l k m).toNat < 4294967296:=(crcIn l k m).isLt
     by_cases hodd:(crcIn l k m).toNat % 2=1
     ·have hx:=crcIn_odd l k m hlt8 hb0 hb1 hodd
      have ho:(((crcIn l k m).toNat:Int).tmod 2==1)=true:=by rw [Int.tmod_eq_emod_of_nonneg (by omega)]; simp; omega
      go_wp2
      exact ⟨⟨m+1,by omega,rfl,rfl⟩,by simp [intOf]; omega⟩
     ·have hx:=crcIn_even l k m hlt8 hb0 hb1 hodd
      have ho:(((crcIn l k m).toNat:Int).tmod 2==1)=false:=by rw [Int.tmod_eq_emod_of_nonneg (by omega)]; simp; omega
      go_wp2
      exact ⟨⟨m+1,by omega,rfl,rfl⟩,by simp [intOf]; omega⟩
    ·obtain rfl:m=8:=by omega
     have he:=crcIn_end l k hb0 hb1
     go_wp2
     exact ⟨⟨k+1,by omega,rfl,by rw [he]⟩,by simp [intOf]; omega⟩
  ·obtain rfl:k=n:=by omega
   have hx:bits .xor .u32 IntKind.u32.max (prS (bitAt l) (8 * k)).toNat=(crcL l).toNat:=by
    rw [crcL,← HN.out]; exact crc_not _
   go_wp2
   go_ret
   exact ⟨rfl,rfl⟩
def bytesOf (s:ByteArray):List Int:=s.data.toList.map (fun b=>(b.toNat:Int))
theorem bytesOf_app (a b:ByteArray):bytesOf (a++b)=bytesOf a++bytesOf b:=by
 simp only [bytesOf,ByteArray.data_append,Array.toList_append,List.map_append]
theorem bytesOf_len (s:ByteArray):(bytesOf s).length=s.size:=by simp only [bytesOf,List.length_map,Array.length_toList]; rfl
theorem bytesOf_get (s:ByteArray) (i:Nat) (h:i < s.size):(bytesOf s)[i]?=some (s[i].toNat:Int):=by
 have hk:i < s.data.toList.length:=by rw [Array.length_toList]; exact h
 simp only [bytesOf,List.getElem?_map,List.getElem?_eq_getElem hk,Option.map_some]; rfl
end Go.Proofs.YtbgilndohccicaaGreatDoor
