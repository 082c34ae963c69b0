import Derived.Test.YtbgilndohccicaaGreatDoorBz30
namespace Go.Proofs.YtbgilndohccicaaGreatDoor
open Go.RowKit
theorem RT.setP {w:World} {b:Nat} {s:ByteArray} {k base:Nat} {v:Value} {ts:List GT} (h:RT w b s k base v ts) {p:Nat} (o:Nat) (x:Value) (hb:b≠p) (hv:v.ownBlock≠some p):RT (w.setCell ⟨p,o,none⟩ x) b s k base v ts:=by
 have g:=gb_set w p o x
 exact ⟨h.rs.setOther hb x,(World.cell?_of_block (a:=⟨b,3,none⟩) (g.block b h.rs.blt (by simpa using hb))).trans h.c3,World.ownsRow.kept h.tv g (.inr hv),h.lt,Nat.le_trans h.le g.size,h.ln⟩
theorem Fr.setNew {b:Nat} {v v':Value} {w w':World} (h:Fr b v v' w w') {p:Nat} (o:Nat) (x:Value) (hp:w.heap.size≤p):Fr b v v' w (w'.setCell ⟨p,o,none⟩ x):=by
 have g:=gb_set w' p o x
 exact ⟨g.os.trans h.os,g.tape.trans h.tape,g.output.trans h.output,Nat.le_trans h.size g.size,fun k hk hb hv=>(g.block k (Nat.lt_of_lt_of_le hk h.size) (by simp; omega)).trans (h.blk k hk hb hv),h.own⟩
theorem pow_bound {x d:Int} {j:Nat} (h:x < 10 ^ j) (hd:d≤9):x * 10+d < 10 ^ (j+1):=by rw [Int.pow_succ]; omega
theorem pow_small {x:Int} {j:Nat} (h:x < 10 ^ j) (hj:j≤9):x < 1000000000:=by
 have:(10:Int) ^ j≤10 ^ 9:=by exact_mod_cast Nat.pow_le_pow_right (by decide) hj
 have e:(10:Int) ^ 9=1000000000:=by decide
 omega
def NumPost (b:Nat) (s:ByteArray) (k base:Nat) (v:Value) (ts:List GT) (w:World) (e:Ending) (w':World):Prop :=
 e=.returned (.tuple #[])∧∃ v',RT w' b s (gNum s 9 k 0).2 base v' (ts++[⟨48,(gNum s 9 k 0).1,k⟩])∧Fr b v v' w w'
set_option maxHeartbeats 2000000 in
set_option maxRecDepth 20000 in
theorem number_any (s:ByteArray) (b k base:Nat) (v:Value) (ts:List GT) (w:World) (h:RT w b s k base v ts) (h1:48≤nextB s k) (h2:nextB s k≤57) :
  Calls Tryz.prog 153 #[.pointer (some ⟨b,0,none⟩)] w (NumPost b s k base v ts w):=by
 unfold NumPost
 obtain ⟨G,hG⟩:∃ G,gNum s 9 k 0=G:=⟨_,rfl⟩
 have HG0:Hid (gNum s 9 k 0=G):=hG
 have hb:=h.rs.blt
 obtain ⟨a,c,rfl⟩:=h.shape
 have hown:∀ g,(Value.slice a ts.length c).ownBlock=some g→g < w.heap.size:=fun g hg=>(h.own g hg).2
 have HO:Hid (∀ g,(Value.slice a ts.length c).ownBlock=some g→g < w.heap.size):=hown
 have hbase:=h.le
 have hbs:=h.lt
 have hln:=h.ln
 have H:Hid (RT w b s k base (.slice a ts.length c) ts):=h
 obtain ⟨c0,c1,c2,_,f1,f3,_,_⟩:=id h.rs
 rw [hG]
 clear h hG hown
 go_enter Tryz.func153,Tryz.ntmps153
 go_wp2
 go_loopg [3] 9 (fun gk i wr=>∃ (k':Nat) (x:Int),gk≤9∧i=.int .i64 (9 - (gk:Int))∧G=gNum s gk k' x∧0≤x∧x < 10 ^ (9 - gk)∧(gk=9→k'=k∧x=0)∧k≤k'∧(gk < 9→k < k')∧RT wr b s k' base (.slice a ts.length c) ts∧wr.cell? ⟨w.heap.size,0,none⟩=some (.int .u8 48)∧wr.cell? ⟨w.heap.size,1,none⟩=some (.int .i64 x)∧wr.cell? ⟨w.heap.size,2,none⟩=some (.int .i64 k)∧wr.frozen? ⟨w.heap.size,1,none⟩=false∧w.heap.size < wr.heap.size∧Fr b (.slice a ts.length c) (.slice a ts.length c) w wr)
 case atStart =>
  refine ⟨k,0,Nat.le_refl _,rfl,HG0.out.symm,Int.le_refl _,by decide,fun _=>⟨rfl,rfl⟩,Nat.le_refl _,fun h=>by omega,H.out.alloc _,by go_simp,by go_simp,by go_simp,by go_simp,by simp,Fr.below ((Below.refl _ _).alloc (Nat.le_refl _) _)⟩
 case round =>
  obtain ⟨k',x,hg9,rfl,hGx,hx0,hx1,hst,hkk,hk9,HR,l0,l1,l2,lf,hp,F0⟩:=hrel
  have hpv:(Value.slice a ts.length c).ownBlock≠some w.heap.size:=fun e=>by have:=HO.out _ e; omega
  have HP:Hid ((Value.slice a ts.length c).ownBlock≠some w.heap.size):=hpv
  have hpb:b≠w.heap.size:=by omega
  obtain ⟨q0,q1,q2,_,q4,q5,_,_⟩:=id HR.rs
  have q3:=HR.c3
  have hbr:=HR.rs.blt
  have hlt:=HR.rs.lt
  clear hpv c0 c1 c2 f1 f3
  cases gk with
  | zero =>
   have hkk':k < k':=hk9 (by omega)
   have HG:Hid (G=(x,k')):=hGx
   have F1:Hid (Fr b (.slice a ts.length c) (.slice a ts.length c) w wr):=F0
   clear hGx hst hk9 hx1 F0
   obtain ⟨g,cap,w4,hrun,H4,F4,k3,k4,k5⟩:=(HR).run (by omega) ⟨48,x,k⟩
   have HF:Hid (Fr b (.slice a ts.length c) (.slice (some ⟨g,0,none⟩) (ts.length+1) cap) w (w4.setCell ⟨b,3,none⟩ (.slice (some ⟨g,0,none⟩) (ts.length+1) cap))):=(F1.out).trans F4
   have HH:Hid _:=H4
   clear F4 H4
   go_wp2
   go_region_law (refine stepT_append rfl (.tmp 41) (.tmp 43) 150 rfl _ _ _ _ (by simp [Act.eval]) (by simp [Act.eval]) hrun ?_)
   all_goals
    go_wp2
    refine bodyPost_end (v:=.tuple #[]) (by simp [results,Tryz.results153,go_sem]) rfl ?_
    rw [HG.out]
    exact ⟨rfl,_,HH.out,HF.out⟩
  | succ n =>
   have hs9:x < 1000000000:=pow_small hx1 (by omega)
   by_cases hd:48≤nextB s k'∧nextB s k'≤57
   ·obtain ⟨d1,d2⟩:=hd
    have hk':k' < s.size:=nextB_pos (by omega)
    have hin:(decide (48≤nextB s k') && decide (nextB s k'≤57))=true:=by simp; omega
    rw [gNum,if_pos ⟨d1,d2⟩] at hGx
    have hpw:x * 10+(nextB s k' - 48) < 10 ^ (9 - n):=by
     have:=pow_bound (d:=nextB s k' - 48) hx1 (by omega)
     rwa [show 9 - (n+1)+1=9 - n by omega] at this
    have HPW:Hid (x * 10+(nextB s k' - 48) < 10 ^ (9 - n)):=hpw
    have hNC:=next_rs HR.rs
    have F1:Hid (Fr b (.slice a ts.length c) (.slice a ts.length c) w wr):=F0
    clear hpw hx1 F0 hst
    go_wp2_with fail
    refine hNC.mono ?_
    rintro e w' ⟨rfl,m,rfl⟩
    have HR2:RT (wr.drewN m) b s k' base (.slice a ts.length c) ts:=HR.below ⟨rfl,rfl,rfl,Nat.le_refl _,fun _ _=>rfl⟩
    have F2:Hid (Fr b (.slice a ts.length c) (.slice a ts.length c) w (wr.drewN m)):=F1.out.trans (Fr.below ⟨rfl,rfl,rfl,Nat.le_refl _,fun _ _=>rfl⟩)
    have L0:(wr.drewN m).cell? ⟨w.heap.size,0,none⟩=some (.int .u8 48):=l0
    have L1:(wr.drewN m).cell? ⟨w.heap.size,1,none⟩=some (.int .i64 x):=l1
    have L2:(wr.drewN m).cell? ⟨w.heap.size,2,none⟩=some (.int .i64 k):=l2
    have LF:(wr.drewN m).frozen? ⟨w.heap.size,1,none⟩=false:=lf
    have hp5:w.heap.size < (wr.drewN m).heap.size:=hp
    generalize wr.drewN m=w5 at HR2 F2 L0 L1 L2 LF hp5 ⊢
    obtain ⟨p0,p1,p2,_,p4,p5,_,_⟩:=id HR2.rs
    have p3:=HR2.c3
    have hbr5:b < w5.heap.size:=HR2.rs.blt
    clear l0 l1 l2 lf hNC q0 q1 q2 q3 q4 q5 F1
    go_wp2_with fail
    refine (isIn_rs true hin).mono ?_
    rintro e w5 ⟨rfl,rfl⟩
    by_cases hz:x * 10+(nextB s k' - 48)=0
    ·rw [if_pos hz] at hGx
     have HG:Hid (G=(0,k'+1)):=hGx
     have HR3:=(HR2.inc hk').setP (p:=w.heap.size) 1 (.int .i64 0) hpb HP.out
     have F3:Hid (Fr b (.slice a ts.length c) (.slice a ts.length c) w ((w5.setCell ⟨b,1,none⟩ (.int .i64 ((k':Int)+1))).setCell ⟨w.heap.size,1,none⟩ (.int .i64 0))):=(F2.out.trans (Fr.setB b 1 _ _ w5)).setNew 1 _ (Nat.le_refl _)
     clear hGx hk9
     obtain ⟨g,cap,w4,hrun,H4,F4,k3,k4,k5⟩:=(HR3).run (by omega) ⟨48,0,k⟩
     have HF:Hid (Fr b (.slice a ts.length c) (.slice (some ⟨g,0,none⟩) (ts.length+1) cap) w (w4.setCell ⟨b,3,none⟩ (.slice (some ⟨g,0,none⟩) (ts.length+1) cap))):=(F3.out).trans F4
     have HH:Hid _:=H4
     clear F4 H4
     go_wp2
     go_region_law (refine stepT_append rfl (.tmp 41) (.tmp 43) 150 rfl _ _ _ _ (by simp [Act.eval]) (by simp [Act.eval]) hrun ?_)
     all_goals
      go_wp2
      refine bodyPost_end (v:=.tuple #[]) (by simp [results,Tryz.results153,go_sem]) rfl ?_
      rw [HG.out]
      exact ⟨rfl,_,HH.out,HF.out⟩
    ·rw [if_neg hz] at hGx
     have HR3:=(HR2.inc hk').setP (p:=w.heap.size) 1 (.int .i64 (x * 10+(nextB s k' - 48))) hpb HP.out
     have F3:Hid (Fr b (.slice a ts.length c) (.slice a ts.length c) w ((w5.setCell ⟨b,1,none⟩ (.int .i64 ((k':Int)+1))).setCell ⟨w.heap.size,1,none⟩ (.int .i64 (x * 10+(nextB s k' - 48))))):=(F2.out.trans (Fr.setB b 1 _ _ w5)).setNew 1 _ (Nat.le_refl _)
     have HGX:Hid (G=gNum s n (k'+1) (x * 10+(nextB s k' - 48))):=hGx
     have HR4:Hid _:=HR3
     clear hGx hk9 HR3
     go_wp2
     go_roundg n
     case measure=>omega
     case rel =>
      exact ⟨k'+1,x * 10+(nextB s k' - 48),by omega,by simp; omega,HGX.out,by omega,HPW.out,fun h=>by omega,by omega,fun _=>by omega,HR4.out,by go_simp,by go_simp,by go_simp,by go_simp,by simp [World.setCell]; omega,F3.out⟩
   ·rw [gNum,if_neg hd] at hGx
    have hin:(decide (48≤nextB s k') && decide (nextB s k'≤57))=false:=by
     cases hh:(decide (48≤nextB s k') && decide (nextB s k'≤57)) with
     | false=>rfl
     | true=>simp at hh; exact absurd hh hd
    have hkk':k < k':=by
     by_cases h9:n+1=9
     ·obtain ⟨e1,_⟩:=hst h9
      subst e1
      exact absurd ⟨h1,h2⟩ hd
     ·exact hk9 (by omega)
    have HG:Hid (G=(x,k')):=hGx
    have hNC:=next_rs HR.rs
    have F1:Hid (Fr b (.slice a ts.length c) (.slice a ts.length c) w wr):=F0
    clear hGx hst hk9 hx1 F0 hd
    go_wp2_with fail
    refine hNC.mono ?_
    rintro e w' ⟨rfl,m,rfl⟩
    have HR2:RT (wr.drewN m) b s k' base (.slice a ts.length c) ts:=HR.below ⟨rfl,rfl,rfl,Nat.le_refl _,fun _ _=>rfl⟩
    have F2:Hid (Fr b (.slice a ts.length c) (.slice a ts.length c) w (wr.drewN m)):=F1.out.trans (Fr.below ⟨rfl,rfl,rfl,Nat.le_refl _,fun _ _=>rfl⟩)
    have L0:(wr.drewN m).cell? ⟨w.heap.size,0,none⟩=some (.int .u8 48):=l0
    have L1:(wr.drewN m).cell? ⟨w.heap.size,1,none⟩=some (.int .i64 x):=l1
    have L2:(wr.drewN m).cell? ⟨w.heap.size,2,none⟩=some (.int .i64 k):=l2
    have LF:(wr.drewN m).frozen? ⟨w.heap.size,1,none⟩=false:=lf
    have hp5:w.heap.size < (wr.drewN m).heap.size:=hp
    generalize wr.drewN m=w5 at HR2 F2 L0 L1 L2 LF hp5 ⊢
    obtain ⟨p0,p1,p2,_,p4,p5,_,_⟩:=id HR2.rs
    have p3:=HR2.c3
    have hbr5:b < w5.heap.size:=HR2.rs.blt
    clear l0 l1 l2 lf hNC q0 q1 q2 q3 q4 q5 F1
    go_wp2_with fail
    refine (isIn_rs false hin).mono ?_
    rintro e w' ⟨rfl,rfl⟩
    obtain ⟨g,cap,w4,hrun,H4,F4,k3,k4,k5⟩:=(HR2).run (by omega) ⟨48,x,k⟩
    have HF:Hid (Fr b (.slice a ts.length c) (.slice (some ⟨g,0,none⟩) (ts.length+1) cap) w (w4.setCell ⟨b,3,none⟩ (.slice (some ⟨g,0,none⟩) (ts.length+1) cap))):=(F2.out).trans F4
    have HH:Hid _:=H4
    clear F4 H4
    go_wp2
    go_region_law (refine stepT_append rfl (.tmp 41) (.tmp 43) 150 rfl _ _ _ _ (by simp [Act.eval]) (by simp [Act.eval]) hrun ?_)
    all_goals
     go_wp2
     refine bodyPost_end (v:=.tuple #[]) (by simp [results,Tryz.results153,go_sem]) rfl ?_
     rw [HG.out]
     exact ⟨rfl,_,HH.out,HF.out⟩
end Go.Proofs.YtbgilndohccicaaGreatDoor
namespace Go.Proofs.YtbgilndohccicaaGreatDoor
open Go.RowKit
theorem RT.drewN {w:World} {b:Nat} {s:ByteArray} {k base:Nat} {v:Value} {ts:List GT} (h:RT w b s k base v ts) (n:Nat):RT (w.drewN n) b s k base v ts:=h.below ⟨rfl,rfl,rfl,Nat.le_refl _,fun _ _=>rfl⟩
theorem Fr.drewN {b:Nat} {v v':Value} {w w':World} (h:Fr b v v' w w') (n:Nat):Fr b v v' w (w'.drewN n):=h.trans (Fr.below ⟨rfl,rfl,rfl,Nat.le_refl _,fun _ _=>rfl⟩)
def TPost (y:Bool) (b:Nat) (s:ByteArray) (k base:Nat) (v:Value) (ts:List GT) (w:World) (e:Ending) (w':World):Prop:=e=.returned (.bool y)∧RT w' b s (if y then k+1 else k) base v ts∧Fr b v v w w'
set_option maxHeartbeats 400000 in
theorem take_rt {s:ByteArray} {b k base:Nat} {v:Value} {ts:List GT} {x:Int} {w:World} (h:RT w b s k base v ts) (hx:0 < x) (y:Bool) (hy:(nextB s k==x)=y) :
  Calls Tryz.prog 133 #[.pointer (some ⟨b,0,none⟩),.int .u8 x] w (TPost y b s k base v ts w):=by
 have H:Hid (RT w b s k base v ts):=h
 have N:=next_rs h.rs
 obtain ⟨c0,c1,c2,_,f1,f3,le,lt⟩:=id h.rs
 subst hy
 obtain ⟨z,hz⟩:∃ z,z=nextB s k:=⟨_,rfl⟩
 have hlt:z=x→k < s.size:=by
  intro e; exact nextB_pos (by omega)
 rw [← hz] at N ⊢
 clear hz h
 by_cases e:z=x
 ·have hl:=hlt e
  have e':(z==x)=true:=by simpa using e
  rw [e']
  clear hlt e
  go_enter Tryz.func133,Tryz.ntmps133
  go_wp2_with (go_at_call 141; refine N.mono ?_; rintro e w' ⟨rfl,n,rfl⟩)
  go_ret
  exact ⟨rfl,by simpa using (H.out.drewN n).inc hl,((Fr.refl b v w).drewN n).trans (Fr.setB b 1 v _ _)⟩
 ·have e':(z==x)=false:=by simpa using e
  rw [e']
  clear hlt
  go_enter Tryz.func133,Tryz.ntmps133
  go_wp2_with (go_at_call 141; refine N.mono ?_; rintro e w' ⟨rfl,n,rfl⟩)
  go_ret
  exact ⟨rfl,by simpa using H.out.drewN n,(Fr.refl b v w).drewN n⟩
def PC (fn:Nat) (s:ByteArray) (d:Nat) (F:Nat→List GT→SumR):Prop:=∀ (b k base:Nat) (v:Value) (ts:List GT) (w:World),RT w b s k base v ts →
 Calls Tryz.prog fn #[.pointer (some ⟨b,0,none⟩),.int .i64 d] w (SumPost (F k ts) b s base v w)
set_option maxHeartbeats 1000000 in
set_option maxRecDepth 20000 in
theorem fac_number (s:ByteArray) (b k base:Nat) (v:Value) (ts:List GT) (d:Nat) (w:World) (h:RT w b s k base v ts) (h1:48≤nextB s k) (h2:nextB s k≤57) :
  Calls Tryz.prog 152 #[.pointer (some ⟨b,0,none⟩),.int .i64 d] w (SumPost ⟨true,(gNum s 9 k 0).2,ts++[⟨48,(gNum s 9 k 0).1,k⟩]⟩ b s base v w):=by
 have q1:(decide (48≤nextB s k) && decide (nextB s k≤57))=true:=by simp; omega
 have H:Hid (RT w b s k base v ts):=h
 have HR:=here_any s b k true w h.rs
 have NA:=fun W (hW:RT W b s k base v ts)=>number_any s b k base v ts W hW h1 h2
 unfold NumPost at NA
 unfold SumPost
 generalize gNum s 9 k 0=G at NA ⊢
 clear h
 go_enter Tryz.func152,Tryz.ntmps152
 go_wp2_with fail
 refine HR.mono ?_
 rintro e w1 ⟨rfl,B1⟩
 have H1:=(H.out.below B1).alloc (.cells #[.int .u8 (nextB s k),.int .i64 0,.int .i64 k] 220)
 have F1:Fr b v v w (w1.alloc (.cells #[.int .u8 (nextB s k),.int .i64 0,.int .i64 k] 220)):=Fr.below (B1.alloc B1.size _)
 have C:=NA _ H1
 clear HR NA
 go_wp2_with fail
 refine (isIn_rs true q1).mono ?_
 rintro e w' ⟨rfl,rfl⟩
 go_wp2_with fail
 refine C.mono ?_
 rintro e w2 ⟨rfl,v2,H2,F2⟩
 go_wp2
 go_ret
 exact ⟨rfl,v2,H2,F1.trans F2⟩
set_option maxHeartbeats 1000000 in
set_option maxRecDepth 20000 in
theorem fac_bad (s:ByteArray) (b k base:Nat) (v:Value) (ts:List GT) (d:Nat) (w:World) (h:RT w b s k base v ts) (h1:¬ (48≤nextB s k∧nextB s k≤57)) (h2:¬ (97≤nextB s k∧nextB s k≤122)) (h3:nextB s k≠40∨6≤d) :
  Calls Tryz.prog 152 #[.pointer (some ⟨b,0,none⟩),.int .i64 d] w (SumPost ⟨false,k,ts⟩ b s base v w):=by
 have q1:(decide (48≤nextB s k) && decide (nextB s k≤57))=false:=by
  cases hh:(decide (48≤nextB s k) && decide (nextB s k≤57)) with
  | false=>rfl
  | true=>simp at hh; exact absurd hh h1
 have q2:(decide (97≤nextB s k) && decide (nextB s k≤122))=false:=by
  cases hh:(decide (97≤nextB s k) && decide (nextB s k≤122)) with
  | false=>rfl
  | true=>simp at hh; exact absurd hh h2
 have H:Hid (RT w b s k base v ts):=h
 have HR:=here_any s b k true w h.rs
 have hb:=h.rs.blt
 clear h h1 h2
 by_cases h40:nextB s k=40
 ·have hd:(6:Int)≤(d:Int):=by omega
  have e40:(nextB s k != 40)=false:=by simp [h40]
  clear h3 h40
  go_enter Tryz.func152,Tryz.ntmps152
  go_wp2_with fail
  refine HR.mono ?_
  rintro e w1 ⟨rfl,B1⟩
  have H1:=(H.out.below B1).alloc (.cells #[.int .u8 (nextB s k),.int .i64 0,.int .i64 k] 220)
  have F1:Fr b v v w (w1.alloc (.cells #[.int .u8 (nextB s k),.int .i64 0,.int .i64 k] 220)):=Fr.below (B1.alloc B1.size _)
  clear HR
  go_wp2_with fail
  refine (isIn_rs false q1).mono ?_
  rintro e w' ⟨rfl,rfl⟩
  go_wp2_with fail
  refine (isLetter_any _ _ _ _).mono ?_
  rintro e w2 ⟨rfl,B2⟩
  rw [q2]
  have H2:Hid _:=H1.below B2
  have F2:Hid _:=F1.trans (Fr.below B2)
  have lc:=fun o=>B2.cell (p:=⟨w1.heap.size,o,none⟩) (by simp)
  have l0:w2.cell? ⟨w1.heap.size,0,none⟩=some (.int .u8 (nextB s k)):=(lc 0).trans (by go_simp)
  clear B2 lc H1 F1
  go_wp2
  go_ret
  exact ⟨rfl,v,H2.out,F2.out⟩
 ·have e40:(nextB s k != 40)=true:=by simp [h40]
  clear h3
  go_enter Tryz.func152,Tryz.ntmps152
  go_wp2_with fail
  refine HR.mono ?_
  rintro e w1 ⟨rfl,B1⟩
  have H1:=(H.out.below B1).alloc (.cells #[.int .u8 (nextB s k),.int .i64 0,.int .i64 k] 220)
  have F1:Fr b v v w (w1.alloc (.cells #[.int .u8 (nextB s k),.int .i64 0,.int .i64 k] 220)):=Fr.below (B1.alloc B1.size _)
  clear HR
  go_wp2_with fail
  refine (isIn_rs false q1).mono ?_
  rintro e w' ⟨rfl,rfl⟩
  go_wp2_with fail
  refine (isLetter_any _ _ _ _).mono ?_
  rintro e w2 ⟨rfl,B2⟩
  rw [q2]
  have H2:Hid _:=H1.below B2
  have F2:Hid _:=F1.trans (Fr.below B2)
  have lc:=fun o=>B2.cell (p:=⟨w1.heap.size,o,none⟩) (by simp)
  have l0:w2.cell? ⟨w1.heap.size,0,none⟩=some (.int .u8 (nextB s k)):=(lc 0).trans (by go_simp)
  clear B2 lc H1 F1
  go_wp2
  go_ret
  exact ⟨rfl,v,H2.out,F2.out⟩
set_option maxHeartbeats 1000000 in
set_option maxRecDepth 20000 in
theorem fac_open (s:ByteArray) (b k base:Nat) (v:Value) (ts:List GT) (d:Nat) (w:World) (h:RT w b s k base v ts) (h1:nextB s k=40) (hd:d < 6) (f:Nat→List GT→SumR) (hf:PC 148 s (d+1) f) :
  Calls Tryz.prog 152 #[.pointer (some ⟨b,0,none⟩),.int .i64 d] w (SumPost (if (f (k+1) ts).ok=true∧nextB s (f (k+1) ts).at_=41 then ⟨true,(f (k+1) ts).at_+1,(f (k+1) ts).ts⟩ else ⟨false,(f (k+1) ts).at_,(f (k+1) ts).ts⟩) b s base v w):=by
 have hk:k < s.size:=nextB_pos (by omega)
 have q1:(decide (48≤nextB s k) && decide (nextB s k≤57))=false:=by rw [h1]; rfl
 have q2:(decide (97≤nextB s k) && decide (nextB s k≤122))=false:=by rw [h1]; rfl
 have e40:(nextB s k != 40)=false:=by simp [h1]
 have H:Hid (RT w b s k base v ts):=h
 have HR:=here_any s b k true w h.rs
 have hb:=h.rs.blt
 have C:=fun W (hW:RT W b s (k+1) base v ts)=>hf b (k+1) base v ts W hW
 obtain ⟨ok,q,us,hq⟩:∃ ok q us,f (k+1) ts=⟨ok,q,us⟩:=⟨_,_,_,rfl⟩
 rw [hq] at C ⊢
 unfold SumPost at C
 have ed:((d+1:Nat):Int)=(d:Int)+1:=by omega
 simp only [ed] at C
 obtain ⟨R,hR⟩:∃ R:SumR,R=(if ok=true∧nextB s q=41 then ⟨true,q+1,us⟩ else ⟨false,q,us⟩):=⟨_,rfl⟩
 have HRR:Hid (R=(if ok=true∧nextB s q=41 then ⟨true,q+1,us⟩ else ⟨false,q,us⟩)):=hR
 simp only []
 rw [← hR]
 clear hR ed
 have hd6:(d:Int) < 6:=by omega
 have hd0:(0:Int)≤(d:Int):=by omega
 clear h h1 hq hf
 go_enter Tryz.func152,Tryz.ntmps152
 go_wp2_with fail
 refine HR.mono ?_
 rintro e w1 ⟨rfl,B1⟩
 have H1:=(H.out.below B1).alloc (.cells #[.int .u8 (nextB s k),.int .i64 0,.int .i64 k] 220)
 have F1:Fr b v v w (w1.alloc (.cells #[.int .u8 (nextB s k),.int .i64 0,.int .i64 k] 220)):=Fr.below (B1.alloc B1.size _)
 clear HR
 go_wp2_with fail
 refine (isIn_rs false q1).mono ?_
 rintro e w' ⟨rfl,rfl⟩
 go_wp2_with fail
 refine (isLetter_any _ _ _ _).mono ?_
 rintro e w2 ⟨rfl,B2⟩
 rw [q2]
 have H2:=H1.below B2
 have F2:=F1.trans (Fr.below (b:=b) (v:=v) B2)
 have lc:=fun o=>B2.cell (p:=⟨w1.heap.size,o,none⟩) (by simp)
 have l0:w2.cell? ⟨w1.heap.size,0,none⟩=some (.int .u8 (nextB s k)):=(lc 0).trans (by go_simp)
 have C3:=C _ (H2.inc hk)
 have F3:Hid _:=F2.trans (Fr.setB b 1 v (.int .i64 ((k:Int)+1)) w2)
 obtain ⟨c0,c1,c2,_,f1,f3,_,_⟩:=id H2.rs
 clear B2 lc H1 F1 H2 F2 C
 go_wp2_with fail
 refine C3.mono ?_
 rintro e w3 ⟨rfl,v3,H3,F4⟩
 cases ok with
 | false =>
  have HE:Hid (R=⟨false,q,us⟩):=by rw [HRR.out,if_neg (by simp)]; exact rfl
  go_wp2
  go_ret
  rw [HE.out]
  exact ⟨rfl,v3,H3,F3.out.trans F4⟩
 | true =>
  by_cases h41:nextB s q=41
  ·have HE:Hid (R=⟨true,q+1,us⟩):=by rw [HRR.out,if_pos ⟨rfl,h41⟩]; exact rfl
   have h41':(nextB s q==41)=true:=by simp [h41]
   go_wp2_with fail
   refine (take_rt H3 (by omega) true h41').mono ?_
   rintro e w4 ⟨rfl,H4,F5⟩
   go_wp2
   go_ret
   rw [HE.out]
   exact ⟨rfl,v3,by simpa using H4,(F3.out.trans F4).trans F5⟩
  ·have HE:Hid (R=⟨false,q,us⟩):=by rw [HRR.out,if_neg (by simp [h41])]; exact rfl
   have h41':(nextB s q==41)=false:=by simp [h41]
   go_wp2_with fail
   refine (take_rt H3 (by omega) false h41').mono ?_
   rintro e w4 ⟨rfl,H4,F5⟩
   go_wp2
   go_ret
   rw [HE.out]
   exact ⟨rfl,v3,by simpa using H4,(F3.out.trans F4).trans F5⟩
theorem factor_any (s:ByteArray) (d:Nat) (sm:Option (Nat→List GT→SumR)) (h0:sm=none→6≤d) (h1:∀ f,sm=some f→d < 6∧PC 148 s (d+1) f):PC 152 s d (facR s sm):=by
 intro b k base v ts w h
 by_cases n1:48≤nextB s k∧nextB s k≤57
 ·have e:facR s sm k ts=⟨true,(gNum s 9 k 0).2,ts++[⟨48,(gNum s 9 k 0).1,k⟩]⟩:=by unfold facR; rw [if_pos n1]
  rw [e]; exact fac_number s b k base v ts d w h n1.1 n1.2
 by_cases n2:97≤nextB s k∧nextB s k≤122
 ·have e:facR s sm k ts=⟨true,k+1,ts++[⟨nextB s k,0,k⟩]⟩:=by unfold facR; rw [if_neg n1,if_pos n2]
  rw [e]; exact fac_letter s b k base v ts d w h n2.1 n2.2
 by_cases n3:nextB s k=40
 ·cases sm with
  | none =>
   have e:facR s none k ts=⟨false,k,ts⟩:=by unfold facR; rw [if_neg n1,if_neg n2,if_neg (by simpa using n3)]
   rw [e]; exact fac_bad s b k base v ts d w h n1 n2 (.inr (h0 rfl))
  | some f =>
   obtain ⟨hd,hf⟩:=h1 f rfl
   have e:facR s (some f) k ts=if (f (k+1) ts).ok=true∧nextB s (f (k+1) ts).at_=41 then ⟨true,(f (k+1) ts).at_+1,(f (k+1) ts).ts⟩ else ⟨false,(f (k+1) ts).at_,(f (k+1) ts).ts⟩:=by unfold facR; rw [if_neg n1,if_neg n2,if_neg (by simpa using n3)]
   rw [e]; exact fac_open s b k base v ts d w h n3 hd f hf
 ·have e:facR s sm k ts=⟨false,k,ts⟩:=by unfold facR; rw [if_neg n1,if_neg n2,if_pos n3]
  rw [e]; exact fac_bad s b k base v ts d w h n1 n2 (.inl n3)
end Go.Proofs.YtbgilndohccicaaGreatDoor
namespace Go.Proofs.YtbgilndohccicaaGreatDoor
open Go.RowKit
set_option maxHeartbeats 2000000 in
set_option maxRecDepth 20000 in
theorem product_loop (s:ByteArray) (d:Nat) (F:Nat→List GT→SumR) (hG:Grow F) (hF:PC 152 s d F):PC 150 s d (fun k ts=>opLoop s isMul F (s.size+1) (F k ts)):=by
 intro b k base v ts w h
 simp only []
 have C:=hF b k base v ts w h
 have hG0:=hG k ts
 obtain ⟨R,hR⟩:∃ R,R=opLoop s isMul F (s.size+1) (F k ts):=⟨_,rfl⟩
 rw [← hR]
 obtain ⟨ok,q,us,hq⟩:∃ ok q us,F k ts=⟨ok,q,us⟩:=⟨_,_,_,rfl⟩
 rw [hq] at C hR hG0
 unfold SumPost at C
 simp only [] at C hG0
 have H0:Hid (R=opLoop s isMul F (s.size+1) ⟨ok,q,us⟩):=hR
 clear hR hq h
 go_enter Tryz.func150,Tryz.ntmps150
 go_wp2_with fail
 refine C.mono ?_
 rintro e w0 ⟨rfl,v0,R0,F0⟩
 clear C
 go_wp2
 go_loopg [5] (s.size+1) (fun gk okv wr=>∃ (st:SumR) (v':Value),okv=.bool st.ok∧R=opLoop s isMul F gk st∧s.size < st.at_+gk∧RT wr b s st.at_ base v' st.ts∧Fr b v v' w wr)
 case atStart=>exact ⟨⟨ok,q,us⟩,v0,rfl,H0.out,by omega,R0,F0⟩
 case round =>
  obtain ⟨⟨ok,q,us⟩,v0,rfl,hl,hsz,HR,F0⟩:=hrel
  simp only [] at hsz HR
  have HL:Hid (R=opLoop s isMul F gk ⟨ok,q,us⟩):=hl
  have F0:Hid (Fr b v v0 w wr):=F0
  have hbr:=HR.rs.blt
  clear hl R0 H0 hG0
  cases ok with
  | false =>
   have HE:Hid (R=⟨false,q,us⟩):=by show R=_; rw [HL.out,opLoop_stop _ _ _ _ (by simp)]
   go_wp2
   go_ret
   rw [HE.out]
   exact ⟨rfl,v0,HR,F0.out⟩
  | true =>
   have HN:=here_any s b q true wr HR.rs
   cases hp:isMul (nextB s q) with
   | false =>
    have HE:Hid (R=⟨true,q,us⟩):=by show R=_; rw [HL.out,opLoop_stop _ _ _ _ (by simp [hp])]
    have e1:(nextB s q != 42)=true:=by
     have:¬ nextB s q=42:=by simpa [isMul] using hp
     simp [this]
    go_wp2_with fail
    refine HN.mono ?_
    rintro e w1 ⟨rfl,B1⟩
    have R1:=(HR.below B1).alloc (.cells #[.int .u8 (nextB s q),.int .i64 0,.int .i64 q] 220)
    have F1:Fr b v v0 w (w1.alloc (.cells #[.int .u8 (nextB s q),.int .i64 0,.int .i64 q] 220)):=F0.out.trans (Fr.below (B1.alloc B1.size _))
    go_wp2
    go_ret
    rw [HE.out]
    exact ⟨rfl,v0,R1,F1⟩
   | true =>
    have hq:q < s.size:=nextB_pos (by
     have:nextB s q=42:=by simpa [isMul] using hp
     omega)
    obtain ⟨n,rfl⟩:∃ n,gk=n+1:=⟨gk - 1,by omega⟩
    have e1:(nextB s q != 42)=false:=by
     have:nextB s q=42:=by simpa [isMul] using hp
     simp [this]
    go_wp2_with fail
    refine HN.mono ?_
    rintro e w1 ⟨rfl,B1⟩
    have R1:=(HR.below B1).alloc (.cells #[.int .u8 (nextB s q),.int .i64 0,.int .i64 q] 220)
    have hpb:b < w1.heap.size:=by have:=B1.size; omega
    have hpv:v0.ownBlock≠some w1.heap.size:=fun e=>by have:=(HR.own _ e).2; have:=B1.size; omega
    have R2:=((HR.below B1).inc hq).alloc (.cells #[.int .u8 (nextB s q),.int .i64 0,.int .i64 q] 220)
    have F2:Fr b v v0 w ((w1.setCell ⟨b,1,none⟩ (.int .i64 ((q:Int)+1))).alloc (.cells #[.int .u8 (nextB s q),.int .i64 0,.int .i64 q] 220)):=((F0.out.trans (Fr.below B1)).trans (Fr.setB b 1 v0 (.int .i64 ((q:Int)+1)) w1)).trans (Fr.below ((Below.refl _ _).alloc (Nat.le_refl _) _))
    have C3:=hF b (q+1) base v0 us _ R2
    obtain ⟨c0,c1,c2,_,f1,f3,_,_⟩:=id R1.rs
    have G:=hG (q+1) us
    have hstep:=HL.out
    rw [opLoop_step s isMul F ⟨true,q,us⟩ ⟨rfl,hp⟩] at hstep
    unfold opStep at hstep
    simp only [] at hstep
    obtain ⟨ok3,q3,us3,h3⟩:∃ ok3 q3 us3,F (q+1) us=⟨ok3,q3,us3⟩:=⟨_,_,_,rfl⟩
    rw [h3] at C3 G hstep
    unfold SumPost at C3
    simp only [] at C3 G hstep
    have HST:Hid (R=opLoop s isMul F n ⟨ok3,q3,us3++[⟨nextB s q,0,q⟩]⟩):=hstep
    have hln:=HR.ln
    clear h3 hstep B1 HN HL
    go_wp2_with fail
    refine C3.mono ?_
    rintro e w3 ⟨rfl,v3,R3,F3⟩
    have lb:=F3.blk w1.heap.size (by simp [World.setCell]) (by omega) hpv
    have lc:=fun o=>World.cell?_of_block (a:=⟨w1.heap.size,o,none⟩) lb
    have l0:w3.cell? ⟨w1.heap.size,0,none⟩=some (.int .u8 (nextB s q)):=(lc 0).trans (by go_simp)
    have l1:w3.cell? ⟨w1.heap.size,1,none⟩=some (.int .i64 0):=(lc 1).trans (by go_simp)
    have l2:w3.cell? ⟨w1.heap.size,2,none⟩=some (.int .i64 q):=(lc 2).trans (by go_simp)
    have hp3:w1.heap.size < w3.heap.size:=by have:=F3.size; simp [World.setCell] at this; omega
    have hb3:b < w3.heap.size:=by omega
    obtain ⟨g0,g1,g2,_,g4,g5,_,_⟩:=id R3.rs
    have g3:=R3.c3
    obtain ⟨a3,n3,rfl⟩:=R3.shape
    obtain ⟨g,cap,w4,hrun,H4,F4,k3,k4,k5⟩:=R3.run (by omega) ⟨nextB s q,0,q⟩
    have HF:Hid _:=(F2.trans F3).trans F4
    have HH:Hid _:=H4
    clear F4 H4 F3 F2 R3 R2 R1 lb lc C3 c0 c1 c2 f1 f3
    go_wp2
    go_region_law (refine stepT_append rfl (.tmp 30) (.tmp 32) 150 rfl _ _ _ _ (by simp [Act.eval]) (by simp [Act.eval]) hrun ?_)
    all_goals
     go_wp2
     go_roundg n
     case measure=>omega
     case rel =>
      exact ⟨⟨ok3,q3,us3++[⟨nextB s q,0,q⟩]⟩,_,rfl,HST.out,by simp only []; omega,HH.out,HF.out⟩
end Go.Proofs.YtbgilndohccicaaGreatDoor
