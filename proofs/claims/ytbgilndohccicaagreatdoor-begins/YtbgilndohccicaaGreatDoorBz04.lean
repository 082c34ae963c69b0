import Derived.Test.YtbgilndohccicaaGreatDoorBz03
import Derived.StillTailTactics
namespace Go.Proofs.YtbgilndohccicaaGreatDoor
open Go.RowKit
theorem still_tail {P:Program} {id:Nat} {Q:Exit→Act→World→Prop} {a:Act} {w:World} {l:List Oper} (n:Nat) (hm:P.follows .mixedOrders=true) (hB:Region.lexTailB .any l.toArray n=true)
  (h:wpStill P l.toArray w.drew (fun a'=>wpList P l.toArray Q (l.drop n) a' w.drew) (l.take n) a):(Code.region id l.toArray true).wp P Q a w:=wp_region_still_tail n hm hB h
theorem RP.drew {w:World} {rb:Nat} {x:RX} {cs:Sch} {sz:Int} {r:DH} (h:RP w rb x cs sz r):RP w.drew rb x cs sz r:=h.keep (Nat.le_refl _) fun _ _=>rfl
def RPutPost (rb:Nat) (x:RX) (cs:Sch) (sz:Int) (r:DH) (root name v:Int) (w:World) (e:Ending) (w':World):Prop :=
 e=.returned (.int .i64 (fnum (ffind cs r.R r.K root name)).e) ∧
  RP w' rb x cs sz (if (fnum (ffind cs r.R r.K root name)).e=0 then { r with C:=set2 r.C (ffind cs r.R r.K root name).n (ffind cs r.R r.K root name).i (wrK (ffind cs r.R r.K root name).k v) } else r)∧GS w w' (x.has cs r.n rb)
set_option maxRecDepth 20000 in
set_option maxHeartbeats 1000000 in
theorem rput_any (rb:Nat) (x:RX) (cs:Sch) (sz:Int) (r:DH) (w:World) (h:RP w rb x cs sz r) (hR:∀ i,i < 8→r.R i≤r.n) (hcs:cs.length≤1000) (h6:∀ c∈cs,c.2.length≤6) (hn:r.n≤4398046511104) (root name v:Int) (hv1:-9223372036854775808≤v) (hv2:v≤9223372036854775807) :
  Calls Tryz.prog 29 #[.pointer (some ⟨rb,0,none⟩),.int .i64 root,.int .u8 name,.int .i64 v] w (RPutPost rb x cs sz r root name v w):=by
 have hrb:=h.lt
 have C:=spot_any rb x cs sz r w h hR hcs h6 hn root name false
 have efs:fsel false (ffind cs r.R r.K root name)=fnum (ffind cs r.R r.K root name):=rfl
 unfold RPutPost
 by_cases h0:(fsel false (ffind cs r.R r.K root name)).e=0
 ·obtain ⟨o,k,kd,e1,e2,ho,hk,hkk,_⟩:=fsel_at hR h0
  rw [← efs,e2,e1]
  rw [e2] at C
  simp only [if_pos]
  clear h0 e1 e2 efs
  obtain ⟨fs,hfs⟩:∃ fs,fs=fof cs (r.K (o+1)):=⟨_,rfl⟩
  have FK:∀ W:World,KC W x.kx cs→Calls Tryz.prog 72 #[.slice (some ⟨x.kx.g,0,none⟩) cs.length x.kx.cap,.int .u8 (r.K (o+1))] W fun e w'=>e=.returned (.tuple #[.slice (knA x.kx cs (r.K (o+1))) fs.length (knC x.kx cs (r.K (o+1))),.bool (cs.any fun y=>y.1==r.K (o+1))])∧w'=W:=by
   intro W hW
   rw [hfs]
   exact known_any x.kx cs (r.K (o+1)) W hW hcs
  have KF0:=(h.kc.kf (r.K (o+1))).1
  rw [← hfs] at KF0
  obtain ⟨ea,hfg⟩:=KF0.a (by rw [hfs]; omega)
  have k1:=(KF0.row k (by rw [hfs]; exact hk)).c1
  rw [hfs,hkk] at k1
  rw [ea] at FK
  generalize knC x.kx cs (r.K (o+1))=fcap at FK
  generalize x.kx.FG (kidx cs (r.K (o+1)))=fg at FK hfg k1
  clear KF0 ea
  obtain ⟨g,hga,hg,hrow⟩:=h.row (by omega)
  obtain ⟨o0,o1⟩:=hrow o ho
  have HS:∀ W v,RP W rb x cs sz r→RP (W.setCell ⟨x.G o,k,none⟩ (.int .i64 v)) rb x cs sz { r with C:=set2 r.C (o+1) k v }:=fun W v hW=>hW.setC ho hk v
  have HHS:Hid (∀ W v,RP W rb x cs sz r→RP (W.setCell ⟨x.G o,k,none⟩ (.int .i64 v)) rb x cs sz { r with C:=set2 r.C (o+1) k v }):=HS
  have ck:=(h.ob o ho).cell k hk
  have cf:=(h.ob o ho).frz k
  have hG:=(h.ob o ho).lt
  have c2:=h.c2
  have c0:=h.c0
  rw [hga] at c2
  rw [← hfs] at hkk hk o1
  have hm6:fs.length≤6:=by rw [hfs]; exact fof_le h6 _
  clear hfs HS
  obtain ⟨m,hm⟩:∃ m,m=fs.length:=⟨_,rfl⟩
  rw [← hm] at o1 hk FK hm6
  have HM:Hid (m=fs.length):=hm
  have HKK:Hid (fs[k]?.getD (0,0)=(name,kd)):=hkk
  have hob:(0:Int)≤(o:Int)∧(o:Int) < (r.n:Int):=by omega
  have hkb:(0:Int)≤(k:Int)∧(k:Int) < (m:Int):=by omega
  obtain ⟨y,hy2⟩:∃ y,y=wrK kd v:=⟨_,rfl⟩
  have W:∀ w:World,Calls Tryz.prog 77 #[.int .u8 kd,.int .i64 v] w fun e w'=>e=.returned (.int .i64 y)∧w'=w:=by
   intro w; rw [hy2]; exact rwrap_any kd v w hv1 hv2
  rw [← hy2]
  clear hrow hm hkk hy2
  go_enter Tryz.func29,Tryz.ntmps29
  go_wp2_with fail
  refine C.mono ?_
  rintro e w1 ⟨rfl,nd,rfl⟩
  have HKC:Hid (KC w x.kx cs):=h.kc
  have HH:Hid (RP w rb x cs sz r):=h
  have HG:Hid (x.has cs r.n rb (x.G o)):=RX.has_G ho
  clear C h
  simp only [Nat.add_sub_cancel]
  go_wp2
  go_quiet ((go_at_call 72; exact (FK _ (HKC.out.drewN _)).mono fun _ _ h=>⟨h.1,_,h.2⟩))
  clear FK
  go_wp2
  refine still_tail 17 rfl (by kernel_rfl) ?_
  simp only [List.take_succ_cons,List.take_zero,List.drop_succ_cons,List.drop_zero]
  repeat still_step
  still_call (W _)
  repeat still_step
  refine wpStill_nil ?_
  go_wp2
  go_ret
  refine ⟨rfl,?_,?_⟩
  ·exact HHS.out _ y (HH.out.keep (Nat.le_refl _) fun _ _=>rfl)
  ·refine GS.of_gb (b:=x.G o) ?_ HG.out
   exact gb_setB (gb_drewN w _ _) k _
 ·rw [← efs]
  have e2:=fsel_no h0
  rw [if_neg h0]
  obtain ⟨y,hy⟩:∃ y,y=(fsel false (ffind cs r.R r.K root name)).e:=⟨_,rfl⟩
  rw [← hy] at e2 h0 ⊢
  rw [e2] at C
  have hy':(y==0)=false:=by simpa using h0
  have hy'':(y != 0)=true:=by simpa using h0
  have HH:Hid (RP w rb x cs sz r):=h
  clear e2 hy efs h
  go_enter Tryz.func29,Tryz.ntmps29
  go_wp2_with fail
  refine C.mono ?_
  rintro e w1 ⟨rfl,nd,rfl⟩
  clear C
  simp only []
  go_wp2
  go_ret
  exact ⟨rfl,HH.out.below (gb_bdN _ _),GS.of_below (gb_bdN _ _)⟩
end Go.Proofs.YtbgilndohccicaaGreatDoor
namespace Go.Proofs.YtbgilndohccicaaGreatDoor
open Go.RowKit
def ROp (rb:Nat) (x:RX) (cs:Sch) (sz:Int) (r r':DH) (e0:Int) (w:World) (e:Ending) (w':World):Prop :=
 e=.returned (.int .i64 e0)∧RP w' rb x cs sz r'∧GS w w' (x.has cs r.n rb)
def rcopyD (r:DH) (a b:Int):DH:=if rtB a=true∧rtB b=true then { r with R:=set1 r.R b.toNat (r.R a.toNat) } else r
def rtE (a b:Int):Int:=if rtB a=true∧rtB b=true then 0 else 8
set_option maxRecDepth 20000 in
set_option maxHeartbeats 1000000 in
theorem rcopy_any (rb:Nat) (x:RX) (cs:Sch) (sz:Int) (r:DH) (w:World) (h:RP w rb x cs sz r) (a b:Int) :
  Calls Tryz.prog 35 #[.pointer (some ⟨rb,0,none⟩),.int .i64 a,.int .i64 b] w (ROp rb x cs sz r (rcopyD r a b) (rtE a b) w):=by
 have hrb:=h.lt
 have HH:Hid (RP w rb x cs sz r):=h
 unfold ROp
 cases ha:rtB a with
 | false =>
  have e1:rcopyD r a b=r:=by unfold rcopyD; rw [if_neg (by rw [ha]; simp)]
  have e2:rtE a b=8:=by unfold rtE; rw [if_neg (by rw [ha]; simp)]
  rw [e1,e2]
  clear h e1 e2
  obtain ⟨yb,hyb⟩:∃ yb,rtB b=yb:=⟨_,rfl⟩
  go_enter Tryz.func35,Tryz.ntmps35
  go_wp2_with fail
  refine (rroot_rs (x:=a) false ha).mono ?_
  rintro e w' ⟨rfl,rfl⟩
  go_wp2_with fail
  refine (rroot_rs (x:=b) yb hyb).mono ?_
  rintro e w' ⟨rfl,rfl⟩
  go_wp2
  go_ret
  exact ⟨rfl,HH.out,GS.of_below (Below.refl _ _)⟩
 | true =>
  cases hb:rtB b with
  | false =>
   have e1:rcopyD r a b=r:=by unfold rcopyD; rw [if_neg (by rw [hb]; simp)]
   have e2:rtE a b=8:=by unfold rtE; rw [if_neg (by rw [hb]; simp)]
   rw [e1,e2]
   clear h e1 e2
   go_enter Tryz.func35,Tryz.ntmps35
   go_wp2_with fail
   refine (rroot_rs (x:=a) true ha).mono ?_
   rintro e w' ⟨rfl,rfl⟩
   go_wp2_with fail
   refine (rroot_rs (x:=b) false hb).mono ?_
   rintro e w' ⟨rfl,rfl⟩
   go_wp2
   go_ret
   exact ⟨rfl,HH.out,GS.of_below (Below.refl _ _)⟩
  | true =>
   have e1:rcopyD r a b={ r with R:=set1 r.R b.toNat (r.R a.toNat) }:=by unfold rcopyD; rw [if_pos ⟨ha,hb⟩]
   have e2:rtE a b=0:=by unfold rtE; rw [if_pos ⟨ha,hb⟩]
   rw [e1,e2]
   obtain ⟨p,rfl,hp⟩:=rtB_nat ha
   obtain ⟨q,rfl,hq⟩:=rtB_nat hb
   rw [Int.toNat_natCast,Int.toNat_natCast]
   have c1:=h.root p hp
   have c2:=h.root q hq
   have f2:=h.frz (3+q)
   have hpb:(0:Int)≤(p:Int)∧(p:Int) < 8:=by omega
   have hqb:(0:Int)≤(q:Int)∧(q:Int) < 8:=by omega
   clear h e1 e2
   go_enter Tryz.func35,Tryz.ntmps35
   go_wp2_with fail
   refine (rroot_rs (x:=p) true ha).mono ?_
   rintro e w' ⟨rfl,rfl⟩
   go_wp2_with fail
   refine (rroot_rs (x:=q) true hb).mono ?_
   rintro e w' ⟨rfl,rfl⟩
   go_wp2
   refine still_tail 11 rfl (by kernel_rfl) ?_
   simp only [List.take_succ_cons,List.take_zero,List.drop_succ_cons,List.drop_zero]
   repeat still_step
   refine wpStill_nil ?_
   go_wp2
   go_ret
   refine ⟨rfl,?_,?_⟩
   ·exact (HH.out.drew).setR hq
   ·exact GS.of_gb (gb_setB (gb_drewN w' 1 _) (3+q) _) RX.has_rb
end Go.Proofs.YtbgilndohccicaaGreatDoor
namespace Go.Proofs.YtbgilndohccicaaGreatDoor
open Go.RowKit
def rclearD (r:DH) (a:Int):DH:=if rtB a=true then { r with R:=set1 r.R a.toNat 0 } else r
def rtE1 (a:Int):Int:=if rtB a=true then 0 else 8
set_option maxRecDepth 20000 in
set_option maxHeartbeats 1000000 in
theorem rclear_any (rb:Nat) (x:RX) (cs:Sch) (sz:Int) (r:DH) (w:World) (h:RP w rb x cs sz r) (a:Int) :
  Calls Tryz.prog 37 #[.pointer (some ⟨rb,0,none⟩),.int .i64 a] w (ROp rb x cs sz r (rclearD r a) (rtE1 a) w):=by
 have hrb:=h.lt
 have HH:Hid (RP w rb x cs sz r):=h
 unfold ROp
 cases ha:rtB a with
 | false =>
  have e1:rclearD r a=r:=by unfold rclearD; rw [if_neg (by rw [ha]; simp)]
  have e2:rtE1 a=8:=by unfold rtE1; rw [if_neg (by rw [ha]; simp)]
  rw [e1,e2]
  clear h e1 e2
  go_enter Tryz.func37,Tryz.ntmps37
  go_wp2_with fail
  refine (rroot_rs (x:=a) false ha).mono ?_
  rintro e w' ⟨rfl,rfl⟩
  go_wp2
  go_ret
  exact ⟨rfl,HH.out,GS.of_below (Below.refl _ _)⟩
 | true =>
  have e1:rclearD r a={ r with R:=set1 r.R a.toNat 0 }:=by unfold rclearD; rw [if_pos ha]
  have e2:rtE1 a=0:=by unfold rtE1; rw [if_pos ha]
  rw [e1,e2]
  obtain ⟨p,rfl,hp⟩:=rtB_nat ha
  rw [Int.toNat_natCast]
  have c1:=h.root p hp
  have f1:=h.frz (3+p)
  have hpb:(0:Int)≤(p:Int)∧(p:Int) < 8:=by omega
  clear h e1 e2
  go_enter Tryz.func37,Tryz.ntmps37
  go_wp2_with fail
  refine (rroot_rs (x:=p) true ha).mono ?_
  rintro e w' ⟨rfl,rfl⟩
  go_wp2
  go_ret
  refine ⟨rfl,?_,?_⟩
  ·exact HH.out.setR (y:=0) hp
  ·exact GS.of_gb (gb_setB (gb_drewN w' 0 _) (3+p) _) RX.has_rb
def rsameI (r:DH) (a b:Int):Bool:=if rtB a=true∧rtB b=true then decide (r.R a.toNat=r.R b.toNat) else false
set_option maxRecDepth 20000 in
set_option maxHeartbeats 1000000 in
theorem rsame_any (rb:Nat) (x:RX) (cs:Sch) (sz:Int) (r:DH) (w:World) (h:RP w rb x cs sz r) (a b:Int) :
  Calls Tryz.prog 39 #[.pointer (some ⟨rb,0,none⟩),.int .i64 a,.int .i64 b] w fun e w'=>e=.returned (.tuple #[.bool (rsameI r a b),.int .i64 (rtE a b)])∧Below w.heap.size w w':=by
 have hrb:=h.lt
 cases ha:rtB a with
 | false =>
  have e1:rsameI r a b=false:=by unfold rsameI; rw [if_neg (by rw [ha]; simp)]
  have e2:rtE a b=8:=by unfold rtE; rw [if_neg (by rw [ha]; simp)]
  rw [e1,e2]
  clear h e1 e2
  obtain ⟨yb,hyb⟩:∃ yb,rtB b=yb:=⟨_,rfl⟩
  go_enter Tryz.func39,Tryz.ntmps39
  go_wp2_with fail
  refine (rroot_rs (x:=a) false ha).mono ?_
  rintro e w' ⟨rfl,rfl⟩
  go_wp2_with fail
  refine (rroot_rs (x:=b) yb hyb).mono ?_
  rintro e w' ⟨rfl,rfl⟩
  go_wp2
  go_ret2
  exact ⟨rfl,Below.refl _ _⟩
 | true =>
  cases hb:rtB b with
  | false =>
   have e1:rsameI r a b=false:=by unfold rsameI; rw [if_neg (by rw [hb]; simp)]
   have e2:rtE a b=8:=by unfold rtE; rw [if_neg (by rw [hb]; simp)]
   rw [e1,e2]
   clear h e1 e2
   go_enter Tryz.func39,Tryz.ntmps39
   go_wp2_with fail
   refine (rroot_rs (x:=a) true ha).mono ?_
   rintro e w' ⟨rfl,rfl⟩
   go_wp2_with fail
   refine (rroot_rs (x:=b) false hb).mono ?_
   rintro e w' ⟨rfl,rfl⟩
   go_wp2
   go_ret2
   exact ⟨rfl,Below.refl _ _⟩
  | true =>
   have e1:rsameI r a b=decide (r.R a.toNat=r.R b.toNat):=by unfold rsameI; rw [if_pos ⟨ha,hb⟩]
   have e2:rtE a b=0:=by unfold rtE; rw [if_pos ⟨ha,hb⟩]
   rw [e1,e2]
   obtain ⟨p,rfl,hp⟩:=rtB_nat ha
   obtain ⟨q,rfl,hq⟩:=rtB_nat hb
   rw [Int.toNat_natCast,Int.toNat_natCast]
   have c1:=h.root p hp
   have c2:=h.root q hq
   have hpb:(0:Int)≤(p:Int)∧(p:Int) < 8:=by omega
   have hqb:(0:Int)≤(q:Int)∧(q:Int) < 8:=by omega
   have hd:((r.R p:Int)==(r.R q:Int))=decide (r.R p=r.R q):=by
    by_cases e:r.R p=r.R q
    ·simp [e]
    ·simp [e]; omega
   rw [← hd]
   clear h e1 e2 hd
   go_enter Tryz.func39,Tryz.ntmps39
   go_wp2_with fail
   refine (rroot_rs (x:=p) true ha).mono ?_
   rintro e w' ⟨rfl,rfl⟩
   go_wp2_with fail
   refine (rroot_rs (x:=q) true hb).mono ?_
   rintro e w' ⟨rfl,rfl⟩
   go_wp2
   go_quiet (fail)
   go_wp2
   go_ret2
   exact ⟨rfl,gb_bdN _ _⟩
def rclsI (r:DH) (a:Int):Int×Int:=if rtB a=false then (0,8) else if r.R a.toNat=0 then (0,9) else (r.K (r.R a.toNat),0)
theorem fof_mem {cs:Sch} {x:Int} {f:Int×Int} (h:f∈fof cs x):∃ c∈cs,f∈c.2:=by
 unfold fof at h
 cases hf:cs.find? (fun c=>c.1==x) with
 | none=>rw [hf] at h; simp at h
 | some c=>rw [hf] at h; exact ⟨c,List.mem_of_find?_eq_some hf,h⟩
theorem fof_zero {cs:Sch} (h0:∀ c∈cs,∀ f∈c.2,f.1≠0) (x:Int):idxF (fof cs x) 0=-1:=by
 refine idxF_none _ _ (fun j hj=>?_)
 obtain ⟨c,hc,hm⟩:=fof_mem (List.getElem_mem hj)
 rw [List.getElem?_eq_getElem hj]
 exact h0 c hc _ hm
set_option maxRecDepth 20000 in
set_option maxHeartbeats 1000000 in
theorem rcls_any (rb:Nat) (x:RX) (cs:Sch) (sz:Int) (r:DH) (w:World) (h:RP w rb x cs sz r) (hR:∀ i,i < 8→r.R i≤r.n) (hcs:cs.length≤1000) (h6:∀ c∈cs,c.2.length≤6) (hn:r.n≤4398046511104) (hz:∀ c∈cs,∀ f∈c.2,f.1≠0) (a:Int) :
  Calls Tryz.prog 25 #[.pointer (some ⟨rb,0,none⟩),.int .i64 a] w fun e w'=>e=.returned (.tuple #[.int .u8 (rclsI r a).1,.int .i64 (rclsI r a).2])∧Below w.heap.size w w':=by
 have hrb:=h.lt
 have C:=spot_any rb x cs sz r w h hR hcs h6 hn a 0 false
 by_cases h1:rtB a=false
 ·have e1:rclsI r a=(0,8):=by unfold rclsI; rw [if_pos h1]
  have e2:ffind cs r.R r.K a 0=⟨0,0,0,8⟩:=by unfold ffind; rw [if_pos h1]
  rw [e1]
  rw [e2,fsel_bad false 8 (by decide)] at C
  clear e1 e2
  go_enter Tryz.func25,Tryz.ntmps25
  go_wp2_with fail
  refine C.mono ?_
  rintro e w1 ⟨rfl,nd,rfl⟩
  simp only []
  go_wp2
  go_ret2
  exact ⟨rfl,gb_bdN _ _⟩
 obtain ⟨p,rfl,hp⟩:=rtB_nat (x:=a) (by simpa using h1)
 by_cases h2:r.R p=0
 ·have e1:rclsI r p=(0,9):=by unfold rclsI; rw [if_neg h1,Int.toNat_natCast,if_pos h2]
  have e2:ffind cs r.R r.K p 0=⟨0,0,0,9⟩:=by unfold ffind; rw [if_neg h1,Int.toNat_natCast,if_pos h2]
  rw [e1]
  rw [e2,fsel_bad false 9 (by decide)] at C
  clear e1 e2
  go_enter Tryz.func25,Tryz.ntmps25
  go_wp2_with fail
  refine C.mono ?_
  rintro e w1 ⟨rfl,nd,rfl⟩
  simp only []
  go_wp2
  go_ret2
  exact ⟨rfl,gb_bdN _ _⟩
 ·have e1:rclsI r p=(r.K (r.R p),0):=by unfold rclsI; rw [if_neg h1,Int.toNat_natCast,if_neg h2]
  have e2:ffind cs r.R r.K p 0=⟨0,0,0,5⟩:=by rw [ffind_of hp h2,fof_zero hz,if_pos (by decide)]
  rw [e1]
  rw [e2,fsel_bad false 5 (by decide)] at C
  have hRp:=hR p hp
  obtain ⟨o,ho⟩:∃ o,r.R p=o+1:=⟨r.R p - 1,by omega⟩
  have cr:=h.root p hp
  rw [ho] at cr ⊢
  have cr':w.cell? ⟨rb,3+p,none⟩=some (.int .i64 ((o:Int)+1)):=by rw [cr]; simp
  have hpb:(0:Int)≤(p:Int)∧(p:Int) < 8:=by omega
  have ho':o < r.n:=by omega
  obtain ⟨g,hga,hg,hrow⟩:=h.row (by omega)
  obtain ⟨o0,o1⟩:=hrow o ho'
  have c2:=h.c2
  rw [hga] at c2
  have hob:(0:Int)≤(o:Int)∧(o:Int) < (r.n:Int):=by omega
  clear e1 e2 hrow cr h ho h2
  go_enter Tryz.func25,Tryz.ntmps25
  go_wp2_with fail
  refine C.mono ?_
  rintro e w1 ⟨rfl,nd,rfl⟩
  simp only []
  go_wp2
  go_quiet (fail)
  go_wp2
  go_ret2
  exact ⟨rfl,(gb_bdN w nd).trans ((gb_bdN _ _).mono (Nat.le_refl _))⟩
end Go.Proofs.YtbgilndohccicaaGreatDoor
namespace Go.Proofs.YtbgilndohccicaaGreatDoor
open Go.RowKit
def refE (f:FF) (other:Int):Int:=if rtB other=false then 8 else (fref f).e
def rfolD (cs:Sch) (r:DH) (root name to:Int):DH:=if refE (ffind cs r.R r.K root name) to=0 then { r with R:=set1 r.R to.toNat (r.C (ffind cs r.R r.K root name).n (ffind cs r.R r.K root name).i).toNat } else r
def rlinkD (cs:Sch) (r:DH) (root name fr:Int):DH:=if refE (ffind cs r.R r.K root name) fr=0 then { r with C:=set2 r.C (ffind cs r.R r.K root name).n (ffind cs r.R r.K root name).i (r.R fr.toNat:Int) } else r
set_option maxRecDepth 20000 in
set_option maxHeartbeats 1000000 in
theorem rfollow_any (rb:Nat) (x:RX) (cs:Sch) (sz:Int) (r:DH) (w:World) (h:RP w rb x cs sz r) (hW:Wf cs r) (hcs:cs.length≤1000) (h6:∀ c∈cs,c.2.length≤6) (hn:r.n≤4398046511104) (root name to:Int) :
  Calls Tryz.prog 31 #[.pointer (some ⟨rb,0,none⟩),.int .i64 root,.int .u8 name,.int .i64 to] w (ROp rb x cs sz r (rfolD cs r root name to) (refE (ffind cs r.R r.K root name) to) w):=by
 have hrb:=h.lt
 have C:=spot_any rb x cs sz r w h hW.root hcs h6 hn root name true
 have HH:Hid (RP w rb x cs sz r):=h
 have efs:fsel true (ffind cs r.R r.K root name)=fref (ffind cs r.R r.K root name):=rfl
 unfold ROp
 cases ha:rtB to with
 | false =>
  have e2:refE (ffind cs r.R r.K root name) to=8:=by unfold refE; rw [if_pos ha]
  have e1:rfolD cs r root name to=r:=by unfold rfolD; rw [if_neg (by rw [e2]; decide)]
  rw [e1,e2]
  generalize fsel true (ffind cs r.R r.K root name)=ff at C
  clear h e1 e2 efs
  go_enter Tryz.func31,Tryz.ntmps31
  go_wp2_with fail
  refine C.mono ?_
  rintro e w1 ⟨rfl,nd,rfl⟩
  clear C
  go_wp2_with fail
  refine (rroot_rs (x:=to) false ha).mono ?_
  rintro e w' ⟨rfl,rfl⟩
  go_wp2
  go_ret
  exact ⟨rfl,HH.out.below (gb_bdN _ _),GS.of_below (gb_bdN _ _)⟩
 | true =>
  have e0:refE (ffind cs r.R r.K root name) to=(fsel true (ffind cs r.R r.K root name)).e:=by unfold refE; rw [if_neg (by rw [ha]; decide)]; rfl
  by_cases h0:(fsel true (ffind cs r.R r.K root name)).e=0
  ·have e1:rfolD cs r root name to={ r with R:=set1 r.R to.toNat (r.C (ffind cs r.R r.K root name).n (ffind cs r.R r.K root name).i).toNat }:=by unfold rfolD; rw [if_pos (e0.trans h0)]
   rw [e1,e0]
   obtain ⟨o,k,kd,e2,e3,ho,hk,hkk,hkd⟩:=fsel_at hW.root h0
   rw [e3] at C ⊢
   rw [e2]
   clear e0 e1 e2 e3 efs h0
   simp only []
   obtain ⟨q,rfl,hq⟩:=rtB_nat ha
   rw [Int.toNat_natCast]
   obtain ⟨g,hga,hg,hrow⟩:=h.row (by omega)
   obtain ⟨o0,o1⟩:=hrow o ho
   have ck:=(h.ob o ho).cell k hk
   have hG:=(h.ob o ho).lt
   have c2:=h.c2
   rw [hga] at c2
   have cq:=h.root q hq
   have fq:=h.frz (3+q)
   have hrf:=hW.ref (o+1) (by omega) (by omega) k _ (List.getElem?_eq_getElem hk) (by
    have:(fof cs (r.K (o+1)))[k]=(name,kd):=by rw [← hkk,List.getElem?_eq_getElem hk]; rfl
    rw [this]; simpa using hkd)
   obtain ⟨y,hy⟩:∃ y:Nat,r.C (o+1) k=y:=⟨(r.C (o+1) k).toNat,by omega⟩
   rw [hy] at ck
   rw [hy,Int.toNat_natCast]
   obtain ⟨m,hm⟩:∃ m,m=(fof cs (r.K (o+1))).length:=⟨_,rfl⟩
   have hm6:m≤6:=by rw [hm]; exact fof_le h6 _
   rw [← hm] at o1 hk
   have hob:(0:Int)≤(o:Int)∧(o:Int) < (r.n:Int):=by omega
   have hkb:(0:Int)≤(k:Int)∧(k:Int) < (m:Int):=by omega
   have hqb:(0:Int)≤(q:Int)∧(q:Int) < 8:=by omega
   have hyb:y≤4398046511104:=by omega
   clear h hrow hm hy hkk hrf
   go_enter Tryz.func31,Tryz.ntmps31
   go_wp2_with fail
   refine C.mono ?_
   rintro e w1 ⟨rfl,nd,rfl⟩
   clear C
   simp only [Nat.add_sub_cancel]
   go_wp2_with fail
   refine (rroot_rs (x:=q) true ha).mono ?_
   rintro e w' ⟨rfl,rfl⟩
   go_wp2
   refine still_tail 16 rfl (by kernel_rfl) ?_
   simp only [List.take_succ_cons,List.take_zero,List.drop_succ_cons,List.drop_zero]
   repeat still_step
   refine wpStill_nil ?_
   go_wp2
   go_ret
   refine ⟨rfl,?_,?_⟩
   ·exact (HH.out.keep (w':=w.drewN (nd+1)) (Nat.le_refl _) fun _ _=>rfl).setR hq
   ·exact GS.of_gb (gb_setB (gb_drewN w (nd+1) _) (3+q) _) RX.has_rb
  ·have e1:rfolD cs r root name to=r:=by unfold rfolD; rw [if_neg (by rw [e0]; exact h0)]
   rw [e1,e0]
   have e2:=fsel_no h0
   obtain ⟨y,hy⟩:∃ y,y=(fsel true (ffind cs r.R r.K root name)).e:=⟨_,rfl⟩
   rw [← hy] at e2 h0 ⊢
   rw [e2] at C
   have hy':(y==0)=false:=by simpa using h0
   have hy'':(y != 0)=true:=by simpa using h0
   clear e2 hy efs h e0 e1
   go_enter Tryz.func31,Tryz.ntmps31
   go_wp2_with fail
   refine C.mono ?_
   rintro e w1 ⟨rfl,nd,rfl⟩
   clear C
   go_wp2_with fail
   refine (rroot_rs (x:=to) true ha).mono ?_
   rintro e w' ⟨rfl,rfl⟩
   simp only []
   go_wp2
   go_ret
   exact ⟨rfl,HH.out.below (gb_bdN _ _),GS.of_below (gb_bdN _ _)⟩
end Go.Proofs.YtbgilndohccicaaGreatDoor
namespace Go.Proofs.YtbgilndohccicaaGreatDoor
open Go.RowKit
set_option maxRecDepth 20000 in
set_option maxHeartbeats 1000000 in
theorem rlink_any (rb:Nat) (x:RX) (cs:Sch) (sz:Int) (r:DH) (w:World) (h:RP w rb x cs sz r) (hW:Wf cs r) (hcs:cs.length≤1000) (h6:∀ c∈cs,c.2.length≤6) (hn:r.n≤4398046511104) (root name fr:Int) :
  Calls Tryz.prog 33 #[.pointer (some ⟨rb,0,none⟩),.int .i64 root,.int .u8 name,.int .i64 fr] w (ROp rb x cs sz r (rlinkD cs r root name fr) (refE (ffind cs r.R r.K root name) fr) w):=by
 have hrb:=h.lt
 have C:=spot_any rb x cs sz r w h hW.root hcs h6 hn root name true
 have HH:Hid (RP w rb x cs sz r):=h
 have efs:fsel true (ffind cs r.R r.K root name)=fref (ffind cs r.R r.K root name):=rfl
 unfold ROp
 cases ha:rtB fr with
 | false =>
  have e2:refE (ffind cs r.R r.K root name) fr=8:=by unfold refE; rw [if_pos ha]
  have e1:rlinkD cs r root name fr=r:=by unfold rlinkD; rw [if_neg (by rw [e2]; decide)]
  rw [e1,e2]
  generalize fsel true (ffind cs r.R r.K root name)=ff at C
  clear h e1 e2 efs
  go_enter Tryz.func33,Tryz.ntmps33
  go_wp2_with fail
  refine C.mono ?_
  rintro e w1 ⟨rfl,nd,rfl⟩
  clear C
  go_wp2_with fail
  refine (rroot_rs (x:=fr) false ha).mono ?_
  rintro e w' ⟨rfl,rfl⟩
  go_wp2
  go_ret
  exact ⟨rfl,HH.out.below (gb_bdN _ _),GS.of_below (gb_bdN _ _)⟩
 | true =>
  have e0:refE (ffind cs r.R r.K root name) fr=(fsel true (ffind cs r.R r.K root name)).e:=by unfold refE; rw [if_neg (by rw [ha]; decide)]; rfl
  by_cases h0:(fsel true (ffind cs r.R r.K root name)).e=0
  ·have e1:rlinkD cs r root name fr={ r with C:=set2 r.C (ffind cs r.R r.K root name).n (ffind cs r.R r.K root name).i (r.R fr.toNat:Int) }:=by unfold rlinkD; rw [if_pos (e0.trans h0)]
   rw [e1,e0]
   obtain ⟨o,k,kd,e2,e3,ho,hk,hkk,hkd⟩:=fsel_at hW.root h0
   rw [e3] at C ⊢
   rw [e2]
   clear e0 e1 e2 e3 efs h0
   simp only []
   obtain ⟨q,rfl,hq⟩:=rtB_nat ha
   rw [Int.toNat_natCast]
   obtain ⟨g,hga,hg,hrow⟩:=h.row (by omega)
   obtain ⟨o0,o1⟩:=hrow o ho
   have ck:=(h.ob o ho).cell k hk
   have hG:=(h.ob o ho).lt
   have c2:=h.c2
   rw [hga] at c2
   have cq:=h.root q hq
   have fq:=h.frz (3+q)
   have hrq:=hW.root q hq
   have cf:=(h.ob o ho).frz k
   have HS:Hid (∀ W v,RP W rb x cs sz r→RP (W.setCell ⟨x.G o,k,none⟩ (.int .i64 v)) rb x cs sz { r with C:=set2 r.C (o+1) k v }):=fun W v hW=>hW.setC ho hk v
   have HG:Hid (x.has cs r.n rb (x.G o)):=RX.has_G ho
   obtain ⟨y,hy⟩:∃ y:Nat,r.R q=y:=⟨_,rfl⟩
   rw [hy] at cq hrq
   rw [hy]
   obtain ⟨m,hm⟩:∃ m,m=(fof cs (r.K (o+1))).length:=⟨_,rfl⟩
   have hm6:m≤6:=by rw [hm]; exact fof_le h6 _
   rw [← hm] at o1 hk
   have hob:(0:Int)≤(o:Int)∧(o:Int) < (r.n:Int):=by omega
   have hkb:(0:Int)≤(k:Int)∧(k:Int) < (m:Int):=by omega
   have hqb:(0:Int)≤(q:Int)∧(q:Int) < 8:=by omega
   have hyb:y≤4398046511104:=by omega
   clear h hrow hm hy hkk hrq fq
   go_enter Tryz.func33,Tryz.ntmps33
   go_wp2_with fail
   refine C.mono ?_
   rintro e w1 ⟨rfl,nd,rfl⟩
   clear C
   simp only [Nat.add_sub_cancel]
   go_wp2_with fail
   refine (rroot_rs (x:=q) true ha).mono ?_
   rintro e w' ⟨rfl,rfl⟩
   go_wp2
   refine still_tail 16 rfl (by kernel_rfl) ?_
   simp only [List.take_succ_cons,List.take_zero,List.drop_succ_cons,List.drop_zero]
   repeat still_step
   refine wpStill_nil ?_
   go_wp2
   go_ret
   refine ⟨rfl,?_,?_⟩
   ·exact HS.out _ _ (HH.out.keep (w':=w.drewN (nd+1)) (Nat.le_refl _) fun _ _=>rfl)
   ·exact GS.of_gb (gb_setB (gb_drewN w (nd+1) _) k _) HG.out
  ·have e1:rlinkD cs r root name fr=r:=by unfold rlinkD; rw [if_neg (by rw [e0]; exact h0)]
   rw [e1,e0]
   have e2:=fsel_no h0
   obtain ⟨y,hy⟩:∃ y,y=(fsel true (ffind cs r.R r.K root name)).e:=⟨_,rfl⟩
   rw [← hy] at e2 h0 ⊢
   rw [e2] at C
   have hy':(y==0)=false:=by simpa using h0
   have hy'':(y != 0)=true:=by simpa using h0
   clear e2 hy efs h e0 e1
   go_enter Tryz.func33,Tryz.ntmps33
   go_wp2_with fail
   refine C.mono ?_
   rintro e w1 ⟨rfl,nd,rfl⟩
   clear C
   go_wp2_with fail
   refine (rroot_rs (x:=fr) true ha).mono ?_
   rintro e w' ⟨rfl,rfl⟩
   simp only []
   go_wp2
   go_ret
   exact ⟨rfl,HH.out.below (gb_bdN _ _),GS.of_below (gb_bdN _ _)⟩
end Go.Proofs.YtbgilndohccicaaGreatDoor
