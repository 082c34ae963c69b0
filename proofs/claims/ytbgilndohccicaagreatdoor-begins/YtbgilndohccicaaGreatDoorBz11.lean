import Derived.Test.YtbgilndohccicaaGreatDoorBz06
import Derived.Test.YtbgilndohccicaaGreatDoorBz10
import Derived.Test.YtbgilndohccicaaGreatDoorBz01
import Derived.Test.YtbgilndohccicaaGreatDoorBz03
import Derived.Deep.RegionWith
namespace Go.Proofs.YtbgilndohccicaaGreatDoor
open Go.RowKit
def newD:DH:=⟨fun _=>0,fun _=>0,fun _ _=>0,0⟩
def newEr (E size:Int):Int:=if E≠0 then E else if size < 1∨200 < size then 7 else 0
def RNPost (s:ByteArray) (size:Int) (w:World) (e:Ending) (w':World):Prop:=Below w.heap.size w w' ∧
 ((newEr (readE s) size≠0∧e=.returned (.tuple #[.pointer none,.int .i64 (newEr (readE s) size)])) ∨
  (newEr (readE s) size=0∧∃ rb x,e=.returned (.tuple #[.pointer (some ⟨rb,0,none⟩),.int .i64 0])∧RP w' rb x (readC s) size newD∧(∀ b,x.has (readC s) 0 rb b→w.heap.size≤b)∧x.pd=false))
def newX (kx:KX):RX:=⟨kx,⟨none,0,0⟩,fun _=>0,fun _=>0,⟨none,0,0⟩,false,false,0⟩
theorem RP.new (w:World) (kx:KX) (cs:Sch) (size:Int) (h:KC w kx cs):RP (w.alloc (.cells #[.slice (some ⟨kx.g,0,none⟩) cs.length kx.cap,.int .i64 size,.slice none 0 0,.int .i64 0,.int .i64 0,.int .i64 0,.int .i64 0,.int .i64 0,.int .i64 0,.int .i64 0,.int .i64 0,.slice none 0 0,.bool false,.bool false,.int .i64 0] 64)) w.heap.size (newX kx) cs size newD:=by
 have hg:=heap_alloc_new w (.cells #[.slice (some ⟨kx.g,0,none⟩) cs.length kx.cap,.int .i64 size,.slice none 0 0,.int .i64 0,.int .i64 0,.int .i64 0,.int .i64 0,.int .i64 0,.int .i64 0,.int .i64 0,.int .i64 0,.slice none 0 0,.bool false,.bool false,.int .i64 0] 64)
 have hc:=fun o=>cell_of_row _ _ o _ _ _ hg
 refine ⟨by rw [hc]; rfl,by rw [hc]; rfl,by rw [hc]; rfl,fun i hi=>?_,by rw [hc]; rfl,by rw [hc]; rfl,by rw [hc]; rfl,by rw [hc]; rfl,fun o=>frozen_of_row _ _ _ _ _ hg,h.below ((Below.refl _ _).alloc (Nat.le_refl _) _),World.ownsRow_nil _ _ _ _,fun o ho=>absurd ho (Nat.not_lt_zero _),fun o o' ho=>absurd ho (Nat.not_lt_zero _),fun o ho=>absurd ho (Nat.not_lt_zero _),fun o ho=>absurd ho (Nat.not_lt_zero _),fun o ho=>absurd ho (Nat.not_lt_zero _),fun hh=>?_,fun g hg=>by cases hg⟩
 ·rw [hc]
  have:i=0∨i=1∨i=2∨i=3∨i=4∨i=5∨i=6∨i=7:=by omega
  rcases this with rfl | rfl | rfl | rfl | rfl | rfl | rfl | rfl <;> rfl
 ·have:=h.has_lt hh; omega
theorem readC_of {s:ByteArray} {cs:List GC} (h0:readE s=0) (hc:gaAll s=some cs):readC s=cs.map gcl:=by
 have h1:¬ 200 < s.size:=fun h=>by unfold readE at h0; rw [if_pos h] at h0; simp at h0
 have h2:¬ (readR s).ok=false:=fun h=>by unfold readE at h0; rw [if_neg h1,if_pos h] at h0; simp at h0
 have h3:(readR s).tw=-1:=Classical.byContradiction fun h=>by unfold readE at h0; rw [if_neg h1,if_neg h2,if_neg h] at h0; simp at h0
 rcases read_meet s with ⟨a,_⟩ | ⟨cs',_,b,c,_⟩
 ·exact absurd a h2
 ·rw [hc] at b
  have:=Option.some.inj b
  subst this
  unfold readC; rw [if_neg h1,if_neg h2,if_pos h3]; exact c
set_option maxHeartbeats 1000000 in
set_option maxRecDepth 20000 in
theorem rnew_any (s:ByteArray) (size:Int) (w:World) (hm:s.size≤9223372036854775807) (hE:Ends w):Calls Tryz.prog 11 #[.string s,.int .i64 size] w (RNPost s size w):=by
 have R:Calls Tryz.prog 17 #[.string s] w fun e w'=>∃ (a:Option Addr) (n c:Nat) (P:Int),e=.returned (.tuple #[.slice a n c,.int .i64 (readE s),.int .i64 P])∧(readE s=0→∃ cs vs,gaAll s=some cs∧RCls w' w.heap.size (.slice a n c) vs cs)∧Below w.heap.size w w':=by
  refine (schema_any s w hm hE).mono ?_
  rintro e w' ⟨a,n,c,E,P,he,hS,hC,hb⟩
  obtain ⟨e1,_⟩:=agree s E P hS
  subst e1
  exact ⟨a,n,c,P,he,hC,hb⟩
 unfold RNPost
 by_cases h0:readE s=0
 ·by_cases h1:size < 1∨200 < size
  ·have HE:Hid (newEr (readE s) size=7):=by show _=_; unfold newEr; rw [if_neg (by simpa using h0),if_pos h1]
   rw [h0] at R
   clear hm h0 hE
   rcases h1 with h1 | h1
   ·go_enter Tryz.func11,Tryz.ntmps11
    go_wp2_with fail
    refine R.mono ?_
    rintro e w1 ⟨a,n,c,P,rfl,_,hb1⟩
    clear R
    go_wp2
    go_ret2
    exact ⟨hb1,.inl ⟨by rw [HE.out]; decide,by rw [HE.out]; rfl⟩⟩
   ·have h1':¬ size < 1:=by omega
    go_enter Tryz.func11,Tryz.ntmps11
    go_wp2_with fail
    refine R.mono ?_
    rintro e w1 ⟨a,n,c,P,rfl,_,hb1⟩
    clear R
    go_wp2
    go_ret2
    exact ⟨hb1,.inl ⟨by rw [HE.out]; decide,by rw [HE.out]; rfl⟩⟩
  ·have HE:Hid (newEr (readE s) size=0):=by show _=_; unfold newEr; rw [if_neg (by simpa using h0),if_neg h1]
   have h2:¬ size < 1:=by omega
   have h3:¬ 200 < size:=by omega
   have H0:Hid (readE s=0):=h0
   rw [h0] at R
   clear hm h0 h1 hE
   go_enter Tryz.func11,Tryz.ntmps11
   go_wp2_with fail
   refine R.mono ?_
   rintro e w1 ⟨a,n,c,P,rfl,hC,hb1⟩
   obtain ⟨cs,vs,hga,V⟩:=hC trivial
   have hne:=(gaAll_ok s cs hga).2
   have hrc:=readC_of H0.out hga
   obtain ⟨g,cap,ev,K,hkb⟩:=V.kc hne
   injection ev with e1 e2 e3
   subst e1; subst e2; subst e3
   have HR:Hid (readC s=cs.map gcl∧KC w1 (kxOf vs g c) (cs.map gcl)∧(∀ b,(kxOf vs g c).has (cs.map gcl) b→w.heap.size≤b)):=⟨hrc,K,hkb⟩
   clear R hC V hne hrc K hkb hga
   go_wp2
   go_ret2
   have BA:=(Below.refl w1.heap.size w1).alloc (Nat.le_refl _) (.cells #[.slice (some ⟨g,0,none⟩) cs.length c,.int .i64 size,.slice none 0 0,.int .i64 0,.int .i64 0,.int .i64 0,.int .i64 0,.int .i64 0,.int .i64 0,.int .i64 0,.int .i64 0,.slice none 0 0,.bool false,.bool false,.int .i64 0] 64)
   refine ⟨hb1.trans (BA.mono hb1.size),.inr ⟨HE.out,w1.heap.size,newX (kxOf vs g c),rfl,?_,?_,rfl⟩⟩
   ·rw [HR.out.1]
    have:=RP.new w1 (kxOf vs g c) (cs.map gcl) size HR.out.2.1
    rw [List.length_map] at this
    exact this
   ·rw [HR.out.1]
    rintro b (rfl | hb | ⟨g',hg',rfl⟩ | ⟨o,ho,rfl⟩)
    ·exact hb1.size
    ·exact HR.out.2.2 b hb
    ·cases hg'
    ·exact absurd ho (Nat.not_lt_zero _)
 ·have HE:Hid (newEr (readE s) size=readE s):=by show _=_; unfold newEr; rw [if_pos h0]
  obtain ⟨y,hy⟩:∃ y,y=readE s:=⟨_,rfl⟩
  have HY:Hid (y=readE s):=hy
  rw [← hy] at R h0
  have hy':(y==0)=false:=by simpa using h0
  have hy'':(y != 0)=true:=by simpa using h0
  have HY0:Hid (y≠0):=h0
  clear hm hy hE
  go_enter Tryz.func11,Tryz.ntmps11
  go_wp2_with fail
  refine R.mono ?_
  rintro e w1 ⟨a,n,c,P,rfl,_,hb1⟩
  clear R
  go_wp2
  go_ret2
  exact ⟨hb1,.inl ⟨by rw [HE.out,← HY.out]; exact HY0.out,by rw [HE.out,← HY.out]; rfl⟩⟩
end Go.Proofs.YtbgilndohccicaaGreatDoor
namespace Go.Proofs.YtbgilndohccicaaGreatDoor
open Go.RowKit
set_option maxHeartbeats 400000 in
theorem index_nil (L x:Int) (w:World) :
  Calls Tryz.prog 104 #[.agg #[.int .u8 L,.slice none 0 0],.int .u8 x] w fun e w'=>e=.returned (.int .i64 (-1))∧Below w.heap.size w w':=by
 go_enter Tryz.func104,Tryz.ntmps104
 go_wp2
 refine wp_loop_rounds 1 ?_; rw [rounds_succ]
 go_wp2
 go_ret
 exact ⟨rfl,(Below.refl _ _).alloc (Nat.le_refl _) _⟩
set_option maxHeartbeats 400000 in
theorem index_row (L x:Int) (g cap:Nat) (fs:List (Int×Int)) (w:World) (hg:g < w.heap.size) (hm:fs.length≤9223372036854775807)
  (hc:∀ i,i < fs.length→w.cell? ⟨g,i * 2,none⟩=some (.int .u8 (fs[i]?.getD (0,0)).1)∧w.cell? ⟨g,i * 2+1,none⟩=some (.int .u8 (fs[i]?.getD (0,0)).2)) :
  Calls Tryz.prog 104 #[.agg #[.int .u8 L,.slice (some ⟨g,0,none⟩) fs.length cap],.int .u8 x] w fun e w'=>e=.returned (.int .i64 (idxF fs x))∧Below w.heap.size w w':=by
 obtain ⟨n,hn⟩:∃ n,n=fs.length:=⟨_,rfl⟩
 rw [← hn] at hm hc ⊢
 have HN:Hid (n=fs.length):=hn
 clear hn
 go_enter Tryz.func104,Tryz.ntmps104
 go_wp2
 go_loopw [10] (fun i wr=>∃ k:Nat,k≤n∧i=.int .i64 k∧Hid (∀ j,j < k→¬ (fs[j]?.getD (0,0)).1=x)∧Below w.heap.size w wr) (fun i _=>n - (intOf i).toNat)
 case atStart=>exact ⟨0,Nat.zero_le _,rfl,fun j hj=>by omega,(Below.refl _ _).alloc (Nat.le_refl _) _⟩
 case round =>
  obtain ⟨k,hk,rfl,hno,hb⟩:=hrel
  by_cases hlt:k < n
  ·have c0:wr.cell? ⟨g,k * 2,none⟩=some (.int .u8 (fs[k]?.getD (0,0)).1):=(hb.cell (by exact hg)).trans (hc k hlt).1
   have c1:wr.cell? ⟨g,k * 2+1,none⟩=some (.int .u8 (fs[k]?.getD (0,0)).2):=(hb.cell (by exact hg)).trans (hc k hlt).2
   go_wp2
   ·have h1:((fs[k]?.getD (0,0)).1==x)=true:=by assumption
    go_ret
    exact ⟨ret_int (idxF_hit fs x k (by rw [← HN.out]; exact hlt) hno h1).symm,hb.alloc (Nat.le_trans (Nat.le_refl _) hb.size) _⟩
   ·have h1:((fs[k]?.getD (0,0)).1==x)=false:=by assumption
    go_roundw
    case rel=>exact ⟨k+1,by omega,by go_num,no_step hno h1,hb.alloc hb.size _⟩
    case measure=>simp [intOf]; omega
  ·go_wp2
   go_ret
   exact ⟨ret_int (idxF_none fs x (fun j hj=>hno j (by rw [← HN.out] at hj; omega))).symm,hb⟩
theorem index_any (L x:Int) (v:Value) (fs:List (Int×Int)) (w:World) (h:FV w v fs) :
  Calls Tryz.prog 104 #[.agg #[.int .u8 L,v],.int .u8 x] w fun e w'=>e=.returned (.int .i64 (idxF fs x))∧Below w.heap.size w w':=by
 rcases h.shape with ⟨rfl,rfl⟩ | ⟨g,cap,rfl,hg,hm,hc⟩
 ·exact index_nil L x w
 ·exact index_row L x g cap fs w hg hm hc
set_option maxHeartbeats 400000 in
theorem find_nil (x:Int) (w:World) :
  Calls Tryz.prog 66 #[.agg #[.slice none 0 0],.int .u8 x] w fun e w'=>e=.returned (.tuple #[.agg #[.int .u8 0,.slice none 0 0],.bool false])∧Below w.heap.size w w':=by
 go_enter Tryz.func66,Tryz.ntmps66
 go_wp2
 refine wp_loop_rounds 1 ?_; rw [rounds_succ]
 go_wp2
 exact bodyPost_ret (v:=.tuple #[.agg #[.int .u8 0,.slice none 0 0],.bool false]) (by simp [results,Tryz.results66,go_sem]) rfl ⟨rfl,((Below.refl _ _).alloc (Nat.le_refl _) _).alloc (by simp) _⟩
set_option maxHeartbeats 400000 in
theorem find_row (x:Int) (g cap:Nat) (fs:List (Int×SV)) (w:World) (hg:g < w.heap.size) (hm:fs.length≤9223372036854775807)
  (hc:∀ i,i < fs.length→w.cell? ⟨g,i * 2,none⟩=some (.int .u8 (fs[i]?.getD noC).1)∧w.cell? ⟨g,i * 2+1,none⟩=some (.slice (fs[i]?.getD noC).2.a (fs[i]?.getD noC).2.n (fs[i]?.getD noC).2.c)) :
  Calls Tryz.prog 66 #[.agg #[.slice (some ⟨g,0,none⟩) fs.length cap],.int .u8 x] w fun e w'=>e=.returned (.tuple #[clsV (findC fs x),.bool (hasC fs x)])∧Below w.heap.size w w':=by
 obtain ⟨n,hn⟩:∃ n,n=fs.length:=⟨_,rfl⟩
 rw [← hn] at hm hc ⊢
 have HN:Hid (n=fs.length):=hn
 clear hn
 go_enter Tryz.func66,Tryz.ntmps66
 go_wp2
 go_loopw [11] (fun i wr=>∃ k:Nat,k≤n∧i=.int .i64 k∧Hid (∀ j,j < k→¬ (fs[j]?.getD noC).1=x)∧Below (w.heap.size+2) ((w.alloc (.cells #[.slice (some ⟨g,0,none⟩) n cap] 45)).alloc (.cells #[.int .u8 0,.slice none 0 0] 99)) wr) (fun i _=>n - (intOf i).toNat)
 case atStart=>exact ⟨0,Nat.zero_le _,rfl,fun j hj=>by omega,Below.refl _ _⟩
 case round =>
  obtain ⟨k,hk,rfl,hno,hb⟩:=hrel
  have r0:wr.cell? ⟨w.heap.size+1,0,none⟩=some (.int .u8 0):=(hb.cell (by show w.heap.size+1 < _; omega)).trans (by go_simp)
  have r1:wr.cell? ⟨w.heap.size+1,1,none⟩=some (.slice none 0 0):=(hb.cell (by show w.heap.size+1 < _; omega)).trans (by go_simp)
  have rf0:wr.frozen? ⟨w.heap.size+1,0,none⟩=false:=(hb.frozen (by show w.heap.size+1 < _; omega)).trans (by go_simp)
  have rf1:wr.frozen? ⟨w.heap.size+1,1,none⟩=false:=(hb.frozen (by show w.heap.size+1 < _; omega)).trans (by go_simp)
  have hsz:w.heap.size+2≤wr.heap.size:=by have:=hb.size; simpa using this
  have hsz1:w.heap.size+1 < wr.heap.size:=by omega
  have hB:Below w.heap.size w wr:=(((Below.refl _ _).alloc (Nat.le_refl _) _).alloc (by simp) _).trans (hb.mono (by omega))
  by_cases hlt:k < n
  ·have c0:wr.cell? ⟨g,k * 2,none⟩=some (.int .u8 (fs[k]?.getD noC).1):=(hb.cell (by show g < _; omega)).trans ((by go_simp:_=w.cell? ⟨g,k * 2,none⟩).trans (hc k hlt).1)
   have c1:wr.cell? ⟨g,k * 2+1,none⟩=some (.slice (fs[k]?.getD noC).2.a (fs[k]?.getD noC).2.n (fs[k]?.getD noC).2.c):=(hb.cell (by show g < _; omega)).trans ((by go_simp:_=w.cell? ⟨g,k * 2+1,none⟩).trans (hc k hlt).2)
   go_wp2
   ·have h1:((fs[k]?.getD noC).1==x)=true:=by assumption
    have hf:=findC_hit fs x k (by rw [← HN.out]; exact hlt) hno h1
    refine bodyPost_ret (v:=.tuple #[clsV (fs[k]?.getD noC),.bool true]) (by simp [results,Tryz.results66,go_sem,r0,r1,hsz1,clsV]) rfl ⟨by rw [hf.1,hf.2],?_⟩
    exact ((hB.setCell (by show _≤w.heap.size+1; omega) _).setCell (by show _≤w.heap.size+1; omega) _).alloc (by have:=hB.size; simpa using this) _
   ·have h1:((fs[k]?.getD noC).1==x)=false:=by assumption
    go_roundw
    case rel=>exact ⟨k+1,by omega,by go_num,noC_step hno h1,hb.alloc hsz _⟩
    case measure=>simp [intOf]; omega
  ·have hf:=findC_none fs x (fun j hj=>hno j (by rw [← HN.out] at hj; omega))
   go_wp2
   refine bodyPost_ret (v:=.tuple #[clsV noC,.bool false]) (by simp [results,Tryz.results66,go_sem,r0,r1,clsV,noC]) rfl ⟨by rw [hf.1,hf.2],?_⟩
   exact (hB.setCell (by show _≤w.heap.size+1; omega) _).setCell (by show _≤w.heap.size+1; omega) _
theorem find_any (x:Int) (v:Value) (vs:List (Int×SV)) (w:World) (h:CV w v vs) :
  Calls Tryz.prog 66 #[.agg #[v],.int .u8 x] w fun e w'=>e=.returned (.tuple #[clsV (findC vs x),.bool (hasC vs x)])∧Below w.heap.size w w':=by
 rcases h.shape with ⟨rfl,rfl⟩ | ⟨g,cap,rfl,hg,hm,hc⟩
 ·exact find_nil x w
 ·exact find_row x g cap vs w hg hm hc
theorem find_rs {x:Int} {v:Value} {vs:List (Int×SV)} {w:World} (h:CV w v vs) (y:Bool) (hy:hasC vs x=y) :
  Calls Tryz.prog 66 #[.agg #[v],.int .u8 x] w fun e w'=>e=.returned (.tuple #[.agg #[.int .u8 (findC vs x).1,.slice (findC vs x).2.a (findC vs x).2.n (findC vs x).2.c],.bool y])∧Below w.heap.size w w':=by
 subst hy; exact find_any x v vs w h
end Go.Proofs.YtbgilndohccicaaGreatDoor
namespace Go.Proofs.YtbgilndohccicaaGreatDoor
open Go.RowKit
theorem CV.drew {w:World} {v:Value} {vs:List (Int×SV)} (h:CV w v vs):CV w.drew v vs:=h
def updV (N:Nat→Nat→Int):Value:=.slice (if N 201 4=0 then none else some ⟨(N 201 1).toNat,0,none⟩) (N 201 2).toNat (N 201 3).toNat
structure HP (w:World) (hb:Nat) (sv:SV) (sz:Int) (R:Nat→Nat) (K:Nat→Int) (N:Nat→Nat→Int) (F:Nat→Nat→Nat):Prop where
 sch:w.cell? ⟨hb,0,none⟩=some (.slice sv.a sv.n sv.c)
 size:w.cell? ⟨hb,1,none⟩=some (.int .i64 sz)
 root:∀ i,i < 8→w.cell? ⟨hb,2+i,none⟩=some (.int .i64 (R i))
 cls:∀ i,i < 201→w.cell? ⟨hb,10+i * 13,none⟩=some (.int .u8 (K i))
 num:∀ i j,i < 201→j < 6→w.cell? ⟨hb,10+i * 13+1+j,none⟩=some (.int .i64 (N i j))
 ref:∀ i j,i < 201→j < 6→w.cell? ⟨hb,10+i * 13+7+j,none⟩=some (.int .i64 (F i j))
 frz:∀ o,w.frozen? ⟨hb,o,none⟩=false
 pend:w.cell? ⟨hb,2623,none⟩=some (.bool (decide (N 201 0≠0)))
 upd:w.cell? ⟨hb,2624,none⟩=some (updV N)
set_option maxHeartbeats 400000 in
theorem isRoot_any (x:Int) (w:World):Calls Tryz.prog 65 #[.int .i64 x] w fun e w'=>e=.returned (.bool (rtB x))∧w'=w:=by
 unfold rtB
 by_cases h:0≤x
 ·go_enter Tryz.func65,Tryz.ntmps65
  go_wp2
  go_ret
  exact ⟨by rw [decide_eq_true h]; rfl,rfl⟩
 ·go_enter Tryz.func65,Tryz.ntmps65
  go_wp2
  go_ret
  exact ⟨by rw [decide_eq_false (by omega)]; rfl,rfl⟩
theorem isRoot_rs {x:Int} {w:World} (y:Bool) (hy:rtB x=y):Calls Tryz.prog 65 #[.int .i64 x] w fun e w'=>e=.returned (.bool y)∧w'=w:=by
 subst hy; exact isRoot_any x w
def heldI (R:Nat→Nat) (root:Int):Nat×Int:=if rtB root=false then (0,8) else if R root.toNat=0 then (0,9) else (R root.toNat,0)
theorem HP.lt {w:World} {hb:Nat} {sv:SV} {sz:Int} {R:Nat→Nat} {K:Nat→Int} {N:Nat→Nat→Int} {F:Nat→Nat→Nat} (h:HP w hb sv sz R K N F):hb < w.heap.size:=World.block_lt_of_cell? w ⟨hb,0,none⟩ h.sch
set_option maxHeartbeats 400000 in
theorem held_any (hb:Nat) (sv:SV) (sz:Int) (R:Nat→Nat) (K:Nat→Int) (N:Nat→Nat→Int) (F:Nat→Nat→Nat) (w:World) (h:HP w hb sv sz R K N F) (root:Int) :
  Calls Tryz.prog 73 #[.pointer (some ⟨hb,0,none⟩),.int .i64 root] w fun e w'=>e=.returned (.tuple #[.int .i64 (heldI R root).1,.int .i64 (heldI R root).2])∧w'=w:=by
 have hbl:=h.lt
 cases h1:rtB root with
 | false =>
  have e:heldI R root=(0,8):=by unfold heldI; rw [if_pos h1]
  rw [e]; clear e
  go_enter Tryz.func73,Tryz.ntmps73
  go_wp2_with (go_at_call 65; refine (isRoot_rs false h1).mono ?_; rintro e w' ⟨rfl,rfl⟩)
  go_ret2
  exact ⟨rfl,rfl⟩
 | true =>
  obtain ⟨r,rfl,hr8⟩:=rtB_nat h1
  have cr:=h.root r hr8
  have hi:(0:Int)≤(r:Int)∧(r:Int) < 8:=by omega
  by_cases h2:R r=0
  ·have e:heldI R r=(0,9):=by unfold heldI; rw [if_neg (by rw [h1]; decide),Int.toNat_natCast,if_pos h2]
   rw [e]; clear e
   rw [h2] at cr
   go_enter Tryz.func73,Tryz.ntmps73
   go_wp2_with (go_at_call 65; refine (isRoot_rs true h1).mono ?_; rintro e w' ⟨rfl,rfl⟩)
   go_ret2
   exact ⟨rfl,rfl⟩
  ·have e:heldI R r=(R r,0):=by unfold heldI; rw [if_neg (by rw [h1]; decide),Int.toNat_natCast,if_neg h2]
   rw [e]; clear e
   have hne:((R r:Int)==0)=false:=by simp; omega
   go_enter Tryz.func73,Tryz.ntmps73
   go_wp2_with (go_at_call 65; refine (isRoot_rs true h1).mono ?_; rintro e w' ⟨rfl,rfl⟩)
   go_ret2
   exact ⟨rfl,rfl⟩
set_option maxHeartbeats 1000000 in
theorem classOf_any (hb n:Nat) (sv:SV) (sz:Int) (R:Nat→Nat) (K:Nat→Int) (N:Nat→Nat→Int) (F:Nat→Nat→Nat) (vs:List (Int×SV)) (w:World) (h:HP w hb sv sz R K N F) (hv:CV w (.slice sv.a sv.n sv.c) vs) (hn:n < 201) :
  Calls Tryz.prog 97 #[.pointer (some ⟨hb,0,none⟩),.int .i64 n] w fun e w'=>e=.returned (clsV (findC vs (K n)))∧Below w.heap.size w w':=by
 have hbl:hb < w.heap.size:=World.block_lt_of_cell? w ⟨hb,0,none⟩ h.sch
 have c0:=h.sch
 have c1:=h.cls n hn
 have V0:CV (w.alloc (.cells #[.int .u8 0,.slice none 0 0] 99)) (.slice sv.a sv.n sv.c) vs:=hv.alloc _
 have hi:(0:Int)≤(n:Int)∧(n:Int) < 201:=by omega
 obtain ⟨l,a,m,c,hf⟩:∃ l a m c,findC vs (K n)=(l,⟨a,m,c⟩):=⟨_,_,_,_,rfl⟩
 obtain ⟨y,hy⟩:∃ y,hasC vs (K n)=y:=⟨_,rfl⟩
 have FC:∀ W:World,CV W (.slice sv.a sv.n sv.c) vs→Calls Tryz.prog 66 #[.agg #[.slice sv.a sv.n sv.c],.int .u8 (K n)] W fun e w'=>e=.returned (.tuple #[.agg #[.int .u8 l,.slice a m c],.bool y])∧Below W.heap.size W w':=by
  intro W hW
  have:=find_any (K n) _ vs W hW
  rw [hf,hy] at this
  exact this
 rw [hf]
 show Calls _ _ _ _ fun e w'=>e=.returned (.agg #[.int .u8 l,.slice a m c])∧_
 clear hf hy hv
 go_enter Tryz.func97,Tryz.ntmps97
 go_wp2
 go_region_with (go_at_call 66; refine (FC _ (by with_reducible repeat first | exact V0 | apply CV.drew | apply CV.alloc)).mono ?_; rintro e w2 ⟨rfl,hb2⟩; have hz2:w.heap.size < w2.heap.size:=(by have:=hb2.size; simp at this; omega); have r0:w2.cell? ⟨w.heap.size,0,none⟩=some (.int .u8 0):=(hb2.cell (by show w.heap.size < _; simp; try omega)).trans (by go_simp); have r1:w2.cell? ⟨w.heap.size,1,none⟩=some (.slice none 0 0):=(hb2.cell (by show w.heap.size < _; simp; try omega)).trans (by go_simp); have rf0:w2.frozen? ⟨w.heap.size,0,none⟩=false:=(hb2.frozen (by show w.heap.size < _; simp; try omega)).trans (by go_simp); have rf1:w2.frozen? ⟨w.heap.size,1,none⟩=false:=(hb2.frozen (by show w.heap.size < _; simp; try omega)).trans (by go_simp); (first | (have hq:w.heap.size+1 < w2.heap.size:=(by have:=hb2.size; simp at this; omega); have q0:w2.cell? ⟨w.heap.size+1,0,none⟩=some (.int .u8 0):=(hb2.cell (by show w.heap.size+1 < _; simp)).trans (by go_simp); have q1:w2.cell? ⟨w.heap.size+1,1,none⟩=some (.slice none 0 0):=(hb2.cell (by show w.heap.size+1 < _; simp)).trans (by go_simp); have qf0:w2.frozen? ⟨w.heap.size+1,0,none⟩=false:=(hb2.frozen (by show w.heap.size+1 < _; simp)).trans (by go_simp); have qf1:w2.frozen? ⟨w.heap.size+1,1,none⟩=false:=(hb2.frozen (by show w.heap.size+1 < _; simp)).trans (by go_simp)) | skip))
 all_goals
  have B2:Below w.heap.size w w2:=by
   first
    | exact (((Below.refl _ w).alloc (Nat.le_refl _) _).drew).trans (hb2.mono (by simp))
    | exact ((((Below.refl _ w).alloc (Nat.le_refl _) _).alloc (by simp) _).drew).trans (hb2.mono (by simp; omega))
  have hs2:=B2.size
  clear hb2
  go_wp2
  refine bodyPost_ret (v:=.agg #[.int .u8 l,.slice a m c]) (by simp [results,Tryz.results97,go_sem,r0,r1,hz2]) rfl ⟨rfl,?_⟩
  with_reducible repeat first | exact B2 | apply Below.drew | (refine Below.setCell ?_ (by first | exact Nat.le_refl _ | (show w.heap.size≤w.heap.size+1; omega)) _) | (refine Below.alloc ?_ (by simp; omega) _)
end Go.Proofs.YtbgilndohccicaaGreatDoor
namespace Go.Proofs.YtbgilndohccicaaGreatDoor
open Go.RowKit
theorem Below.setN {B:Nat} {a w:World} (h:Below B a w) {b o:Nat} (hp:B≤b) (u:Value):Below B a (w.setCell ⟨b,o,none⟩ u):=h.setCell hp u
def fcs (cs:List (Int×List (Int×Int))) (x:Int):Int×List (Int×Int):=(cs.find? (fun c=>c.1==x)).getD (0,[])
theorem find_pair {α β:Type} (za:Int×α) (zb:Int×β) (x:Int) (P:α→β→Prop) (hz:P za.2 zb.2) (hz1:za.1=zb.1):∀ (vs:List (Int×α)) (cs:List (Int×β)),vs.map (·.1)=cs.map (·.1) →
  (∀ (i:Nat) p c,vs[i]?=some p→cs[i]?=some c→P p.2 c.2)→((vs.find? (fun p=>p.1==x)).getD za).1=((cs.find? (fun p=>p.1==x)).getD zb).1∧P ((vs.find? (fun p=>p.1==x)).getD za).2 ((cs.find? (fun p=>p.1==x)).getD zb).2:=by
 intro vs
 induction vs with
 | nil=>intro cs h _; cases cs with
  | nil=>exact ⟨hz1,hz⟩
  | cons c cs=>simp at h
 | cons p vs ih=>intro cs h hP; cases cs with
  | nil=>simp at h
  | cons c cs =>
   simp only [List.map_cons,List.cons.injEq] at h
   rw [List.find?_cons,List.find?_cons,← h.1]
   cases p.1==x with
   | true=>exact ⟨h.1,hP 0 p c rfl rfl⟩
   | false=>exact ih cs h.2 fun i p' c' h1 h2=>hP (i+1) p' c' (by simpa using h1) (by simpa using h2)
theorem fcs_fof (cs:List (Int×List (Int×Int))) (x:Int):(fcs cs x).2=fof cs x:=rfl
theorem Cls.find {w:World} {base:Nat} {v:Value} {vs:List (Int×SV)} {cs:List (Int×List (Int×Int))} (h:Cls w base v vs cs) (x:Int):(findC vs x).1=(fcs cs x).1∧FV w (findC vs x).2.val (fcs cs x).2 :=
 find_pair noC (0,[]) x (fun a b=>FV w a.val b) (FV.nil w) rfl vs cs h.ls (fun i p c h1 h2=>(h.fld i p c h1 h2).fv)
theorem HP.kept {w w':World} {hb:Nat} {sv:SV} {sz:Int} {R:Nat→Nat} {K:Nat→Int} {N:Nat→Nat→Int} {F:Nat→Nat→Nat} (h:HP w hb sv sz R K N F) (e:w'.heap[hb]?=w.heap[hb]?):HP w' hb sv sz R K N F:=by
 have ec:∀ o,w'.cell? ⟨hb,o,none⟩=w.cell? ⟨hb,o,none⟩:=fun o=>World.cell?_of_block (a:=⟨hb,o,none⟩) e
 have ef:∀ o,w'.frozen? ⟨hb,o,none⟩=w.frozen? ⟨hb,o,none⟩:=fun o=>World.frozen?_of_block (a:=⟨hb,o,none⟩) e
 exact ⟨by rw [ec]; exact h.sch,by rw [ec]; exact h.size,fun i hi=>by rw [ec]; exact h.root i hi,fun i hi=>by rw [ec]; exact h.cls i hi,fun i j hi hj=>by rw [ec]; exact h.num i j hi hj,fun i j hi hj=>by rw [ec]; exact h.ref i j hi hj,fun o=>by rw [ef]; exact h.frz o,by rw [ec]; exact h.pend,by rw [ec]; exact h.upd⟩
theorem HP.below {w w':World} {hb:Nat} {sv:SV} {sz:Int} {R:Nat→Nat} {K:Nat→Int} {N:Nat→Nat→Int} {F:Nat→Nat→Nat} (h:HP w hb sv sz R K N F) (b:Below w.heap.size w w'):HP w' hb sv sz R K N F:=h.kept (b.block hb h.lt)
theorem HP.alloc {w:World} {hb:Nat} {sv:SV} {sz:Int} {R:Nat→Nat} {K:Nat→Int} {N:Nat→Nat→Int} {F:Nat→Nat→Nat} (h:HP w hb sv sz R K N F) (o:Obj):HP (w.alloc o) hb sv sz R K N F:=h.kept (Below.heap_alloc w o hb h.lt)
def FFPost (f:FF) (w:World) (e:Ending) (w':World):Prop:=e=.returned (.tuple #[.agg #[.int .i64 f.n,.int .i64 f.i],.int .u8 f.k,.int .i64 f.e])∧Below w.heap.size w w'
set_option maxHeartbeats 1000000 in
theorem findField_any (hb:Nat) (sv:SV) (sz:Int) (R:Nat→Nat) (K:Nat→Int) (N:Nat→Nat→Int) (F:Nat→Nat→Nat) (base:Nat) (vs:List (Int×SV)) (cs:List (Int×List (Int×Int))) (w:World) (h:HP w hb sv sz R K N F) (hv:Cls w base (.slice sv.a sv.n sv.c) vs cs)
  (hR:∀ i,i < 8→R i < 201) (root letter:Int) :
  Calls Tryz.prog 98 #[.pointer (some ⟨hb,0,none⟩),.int .i64 root,.int .u8 letter] w (FFPost (ffind cs R K root letter) w):=by
 have hbl:=h.lt
 have HD:=held_any hb sv sz R K N F _ (h.alloc (.cells #[.int .i64 0,.int .i64 0] 119)) root
 by_cases h0:(heldI R root).2=0
 case neg =>
  obtain ⟨x1,x2,hx⟩:∃ x1 x2,heldI R root=(x1,x2):=⟨_,_,rfl⟩
  have e:ffind cs R K root letter=⟨0,0,0,x2⟩:=by
   unfold heldI at hx h0; unfold ffind
   split at hx
   ·rename_i h1; rw [if_pos h1]; cases hx; rfl
   ·rename_i h1; rw [if_neg h1]; split at hx
    ·rename_i h2; rw [if_pos h2]; cases hx; rfl
    ·rename_i h2; rw [if_neg h1,if_neg h2] at h0; exact absurd rfl h0
  rw [e]; clear e
  rw [hx] at HD h0
  simp only [] at h0
  have hx':(x2==0)=false:=by simpa using h0
  have hx'':(x2 != 0)=true:=by simpa using h0
  clear hx
  go_enter Tryz.func98,Tryz.ntmps98
  go_wp2_with fail
  refine HD.mono ?_
  rintro e w' ⟨rfl,rfl⟩
  clear HD
  simp only []
  go_wp2
  refine bodyPost_ret (v:=.tuple #[.agg #[.int .i64 0,.int .i64 0],.int .u8 0,.int .i64 x2]) (by simp [results,Tryz.results98,go_sem]) rfl ⟨rfl,?_⟩
  with_reducible repeat first | exact Below.refl _ _ | (refine Below.setN ?_ (by omega) _) | (refine Below.alloc ?_ (by simp) _)
 case pos =>
  obtain ⟨r,rfl,hr8,h2⟩:∃ r:Nat,root=r∧r < 8∧R r≠0:=by
   unfold heldI at h0
   split at h0
   ·simp at h0
   ·rename_i h1
    obtain ⟨r,rfl,h8⟩:=rtB_nat (x:=root) (by simpa using h1)
    rw [Int.toNat_natCast] at h0
    split at h0
    ·simp at h0
    ·rename_i h2; exact ⟨r,rfl,h8,h2⟩
  have h1:rtB (r:Int)=true:=by unfold rtB; simp; omega
  have ehd:heldI R r=(R r,0):=by unfold heldI; rw [if_neg (by rw [h1]; decide),Int.toNat_natCast,if_neg h2]
  rw [ehd] at HD
  clear h0 ehd
  have hRr:=hR r hr8
  have hi:(0:Int)≤(r:Int)∧(r:Int) < 8:=by omega
  ·have hne:((R r:Int)==0)=false:=by simp; omega
   have C:=classOf_any hb (R r) sv sz R K N F vs _ (h.alloc (.cells #[.int .i64 0,.int .i64 0] 119)) (hv.cv.alloc _) hRr
   obtain ⟨f1,f2⟩:=hv.find (K (R r))
   obtain ⟨l,sa,sn,sc,hf⟩:∃ l sa sn sc,findC vs (K (R r))=(l,⟨sa,sn,sc⟩):=⟨_,_,_,_,rfl⟩
   obtain ⟨fs,hfs⟩:∃ fs,fs=fof cs (K (R r)):=⟨_,rfl⟩
   rw [hf] at C f2
   simp only [clsV] at C
   rw [fcs_fof,← hfs] at f2
   have f2':FV w (.slice sa sn sc) fs:=f2
   have sn':sn=fs.length:=by
    rcases f2'.shape with ⟨e1,e2⟩ | ⟨g,cap,e1,_⟩
    ·cases e1; rw [e2]; rfl
    ·cases e1; rfl
   subst sn'
   clear f1 f2 hf
   by_cases h3:idxF fs letter < 0
   ·have e:ffind cs R K r letter=⟨0,0,0,5⟩:=by unfold ffind; rw [if_neg (by rw [h1]; decide),Int.toNat_natCast,if_neg h2,← hfs,if_pos h3]
    rw [e]; clear e hfs
    go_enter Tryz.func98,Tryz.ntmps98
    go_wp2_with fail
    refine HD.mono ?_
    rintro e w' ⟨rfl,rfl⟩
    clear HD
    simp only []
    go_wp2_with fail
    refine C.mono ?_
    rintro e w1 ⟨rfl,hb1⟩
    have F1:FV (w1.alloc (.cells #[.int .u8 l,.slice sa fs.length sc] 99)) (.slice sa fs.length sc) fs:=((f2'.alloc _).below hb1).alloc _
    have r0:w1.cell? ⟨w.heap.size,0,none⟩=some (.int .i64 0):=(hb1.cell (by show w.heap.size < _; simp)).trans (by go_simp)
    have r1:w1.cell? ⟨w.heap.size,1,none⟩=some (.int .i64 0):=(hb1.cell (by show w.heap.size < _; simp)).trans (by go_simp)
    have rf0:w1.frozen? ⟨w.heap.size,0,none⟩=false:=(hb1.frozen (by show w.heap.size < _; simp)).trans (by go_simp)
    have rf1:w1.frozen? ⟨w.heap.size,1,none⟩=false:=(hb1.frozen (by show w.heap.size < _; simp)).trans (by go_simp)
    have hz1:w.heap.size < w1.heap.size:=by have:=hb1.size; simp at this; omega
    have B1:Below w.heap.size w w1:=((Below.refl _ w).alloc (Nat.le_refl _) _).trans (hb1.mono (by simp))
    clear C hb1
    obtain ⟨ix,hix⟩:∃ ix,ix=idxF fs letter:=⟨_,rfl⟩
    go_wp2_with fail
    refine (index_any l letter _ fs _ F1).mono ?_
    rintro e w2 ⟨rfl,hb2⟩
    rw [← hix] at h3 ⊢
    have hz2:w1.heap.size < w2.heap.size:=by have:=hb2.size; simp at this; omega
    have hz20:w.heap.size < w2.heap.size:=by omega
    have k0:w2.cell? ⟨w1.heap.size,0,none⟩=some (.int .u8 l):=(hb2.cell (by show w1.heap.size < _; simp)).trans (by go_simp)
    have k1:w2.cell? ⟨w1.heap.size,1,none⟩=some (.slice sa fs.length sc):=(hb2.cell (by show w1.heap.size < _; simp)).trans (by go_simp)
    have s0:w2.cell? ⟨w.heap.size,0,none⟩=some (.int .i64 0):=(hb2.cell (by show w.heap.size < _; simp; omega)).trans (by go_simp)
    have s1:w2.cell? ⟨w.heap.size,1,none⟩=some (.int .i64 0):=(hb2.cell (by show w.heap.size < _; simp; omega)).trans (by go_simp)
    have sf0:w2.frozen? ⟨w.heap.size,0,none⟩=false:=(hb2.frozen (by show w.heap.size < _; simp; omega)).trans (by go_simp)
    have sf1:w2.frozen? ⟨w.heap.size,1,none⟩=false:=(hb2.frozen (by show w.heap.size < _; simp; omega)).trans (by go_simp)
    have B2:Below w.heap.size w w2:=(B1.alloc B1.size _).trans (hb2.mono (by simp; omega))
    clear F1 hb2 hix r0 r1 rf0 rf1
    have hd:decide (ix < 0)=true:=by simpa using h3
    go_wp2
    refine bodyPost_ret (v:=.tuple #[.agg #[.int .i64 0,.int .i64 0],.int .u8 0,.int .i64 5]) (by simp [results,Tryz.results98,go_sem,s0,s1]) rfl ⟨rfl,?_⟩
    exact (B2.setCell (Nat.le_refl _) _).setCell (Nat.le_refl _) _
   ·obtain ⟨i,hi1,hi2⟩:=idxF_lt h3
    have e:ffind cs R K r letter=⟨R r,i,(fs[i]?.getD (0,0)).2,0⟩:=by unfold ffind; rw [if_neg (by rw [h1]; decide),Int.toNat_natCast,if_neg h2,← hfs,if_neg h3,hi1]; rfl
    rw [e]; clear e hfs
    go_enter Tryz.func98,Tryz.ntmps98
    go_wp2_with fail
    refine HD.mono ?_
    rintro e w' ⟨rfl,rfl⟩
    clear HD
    simp only []
    go_wp2_with fail
    refine C.mono ?_
    rintro e w1 ⟨rfl,hb1⟩
    have F1:FV (w1.alloc (.cells #[.int .u8 l,.slice sa fs.length sc] 99)) (.slice sa fs.length sc) fs:=((f2'.alloc _).below hb1).alloc _
    have r0:w1.cell? ⟨w.heap.size,0,none⟩=some (.int .i64 0):=(hb1.cell (by show w.heap.size < _; simp)).trans (by go_simp)
    have r1:w1.cell? ⟨w.heap.size,1,none⟩=some (.int .i64 0):=(hb1.cell (by show w.heap.size < _; simp)).trans (by go_simp)
    have rf0:w1.frozen? ⟨w.heap.size,0,none⟩=false:=(hb1.frozen (by show w.heap.size < _; simp)).trans (by go_simp)
    have rf1:w1.frozen? ⟨w.heap.size,1,none⟩=false:=(hb1.frozen (by show w.heap.size < _; simp)).trans (by go_simp)
    have hz1:w.heap.size < w1.heap.size:=by have:=hb1.size; simp at this; omega
    have B1:Below w.heap.size w w1:=((Below.refl _ w).alloc (Nat.le_refl _) _).trans (hb1.mono (by simp))
    clear C hb1
    go_wp2_with fail
    refine (index_any l letter _ fs _ F1).mono ?_
    rintro e w2 ⟨rfl,hb2⟩
    rw [hi1]
    have hz2:w1.heap.size < w2.heap.size:=by have:=hb2.size; simp at this; omega
    have hz20:w.heap.size < w2.heap.size:=by omega
    have k0:w2.cell? ⟨w1.heap.size,0,none⟩=some (.int .u8 l):=(hb2.cell (by show w1.heap.size < _; simp)).trans (by go_simp)
    have k1:w2.cell? ⟨w1.heap.size,1,none⟩=some (.slice sa fs.length sc):=(hb2.cell (by show w1.heap.size < _; simp)).trans (by go_simp)
    have s0:w2.cell? ⟨w.heap.size,0,none⟩=some (.int .i64 0):=(hb2.cell (by show w.heap.size < _; simp; omega)).trans (by go_simp)
    have s1:w2.cell? ⟨w.heap.size,1,none⟩=some (.int .i64 0):=(hb2.cell (by show w.heap.size < _; simp; omega)).trans (by go_simp)
    have sf0:w2.frozen? ⟨w.heap.size,0,none⟩=false:=(hb2.frozen (by show w.heap.size < _; simp; omega)).trans (by go_simp)
    have sf1:w2.frozen? ⟨w.heap.size,1,none⟩=false:=(hb2.frozen (by show w.heap.size < _; simp; omega)).trans (by go_simp)
    have B2:Below w.heap.size w w2:=(B1.alloc B1.size _).trans (hb2.mono (by simp; omega))
    rcases f2'.shape with ⟨_,e2⟩ | ⟨g,cap,e1,hg,_,hgc⟩
    ·rw [e2] at hi2; simp at hi2
    obtain ⟨rfl,rfl⟩:sa=some ⟨g,0,none⟩∧sc=cap:=by cases e1; exact ⟨rfl,rfl⟩
    have g1:w2.cell? ⟨g,i * 2+1,none⟩=some (.int .u8 (fs[i]?.getD (0,0)).2):=(B2.cell (by exact hg)).trans (hgc i hi2).2
    obtain ⟨kd,hkd⟩:∃ kd,kd=(fs[i]?.getD (0,0)).2:=⟨_,rfl⟩
    rw [← hkd] at g1
    have HKD:Hid (kd=(fs[i]?.getD (0,0)).2):=hkd
    have hib:(0:Int)≤(i:Int)∧(i:Int) < (fs.length:Int):=by omega
    have hil:¬ (fs.length:Int)≤(i:Int):=by omega
    have hlm:fs.length≤9223372036854775807:=by
     have:=f2'.2; rcases this with ⟨_,h⟩ | ⟨_,_,_,_,_,_,h1,h2,_⟩
     ·omega
     ·unfold maxLen at h2; omega
    clear F1 hb2 r0 r1 rf0 rf1 hkd hgc e1 hi1 h3
    go_wp2
    go_region
    all_goals
     go_wp2
     refine bodyPost_ret (v:=.tuple #[.agg #[.int .i64 (R r),.int .i64 i],.int .u8 kd,.int .i64 0]) (by simp [results,Tryz.results98,go_sem,s0,s1]) rfl ⟨by rw [HKD.out],?_⟩
     with_reducible repeat first | exact B2 | apply Below.drew | (refine Below.setN ?_ (by omega) _)
end Go.Proofs.YtbgilndohccicaaGreatDoor
