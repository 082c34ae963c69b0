import Derived.Test.YtbgilndohccicaaGreatDoorBz43
namespace Go.Proofs.YtbgilndohccicaaGreatDoor
open Go.RowKit
structure Goes (cs:Sch) (p:PH) (r:DH) (p':PH) (r':DH):Prop where
 sim:Sim cs p' r'
 pw:Pw p'
 wf:Wf cs r'
 n:r'.n=r.n
 u:∀ j,p'.N 201 j=p.N 201 j
theorem fld_r {cs:Sch} {p:PH} {r:DH} (h:Sim cs p r) (root name:Int):(ffind cs p.R p.K root name).k=(ffind cs r.R r.K root name).k:=by
 obtain ⟨M,hB⟩:=h; exact (find_meet hB root name).2.2.1
theorem put_pair {cs:Sch} {p:PH} {r:DH} (h:Sim cs p r) (hp:Pw p) (hw:Wf cs r) (root name v:Int) (h1:-9223372036854775808≤v) (h2:v≤9223372036854775807) :
  Goes cs p r { p with N:=if (fnum (ffind cs p.R p.K root name)).e=0 then set2 p.N (ffind cs p.R p.K root name).n (ffind cs p.R p.K root name).i (wrK (ffind cs p.R p.K root name).k v) else p.N }
   (if (fnum (ffind cs r.R r.K root name)).e=0 then { r with C:=set2 r.C (ffind cs r.R r.K root name).n (ffind cs r.R r.K root name).i (wrK (ffind cs r.R r.K root name).k v) } else r):=by
 obtain ⟨e1,_⟩:=get_meet h root name
 by_cases h0:(fnum (ffind cs p.R p.K root name)).e=0
 ·have h0':=e1.symm.trans h0
  rw [if_pos h0,if_pos h0',← fld_r h]
  obtain ⟨b1,b2,b3⟩:=fnum_e0 h0'
  obtain ⟨f,hf,hk⟩:=ffind_fld b1
  have bd:=wrK_bd (ffind cs p.R p.K root name).k v h1 h2
  refine ⟨put_meet h root name _ h0,⟨hp.root,hp.ref⟩,hw.setNum _ _ _ f hf (by rw [hk]; exact b2) bd.1 bd.2,rfl,fun j=>?_⟩
  obtain ⟨a1,_,_⟩:=fnum_e0 h0
  obtain ⟨nn,_,hn8,_,_,_,_,ea⟩:=ffind_at a1
  have hR:=hp.root nn hn8
  show set2 p.N _ _ _ 201 j=_
  rw [set2_ne _ _ (by rw [ea]; simp only []; omega)]
 ·rw [if_neg h0,if_neg (fun hh=>h0 (e1.trans hh))]
  exact ⟨h,hp,hw,rfl,fun _=>rfl⟩
theorem ref_e {cs:Sch} {p:PH} {r:DH} (h:Sim cs p r) (root name o:Int):(frf (ffind cs p.R p.K root name) o).e=refE (ffind cs r.R r.K root name) o:=by
 unfold frf refE
 split
 ·rfl
 ·exact ref_meet h root name
theorem fol_pair {cs:Sch} {p:PH} {r:DH} (h:Sim cs p r) (hp:Pw p) (hw:Wf cs r) (h6:∀ c∈cs,c.2.length≤6) (root name tq:Int):Goes cs p r (pfolD cs p root name tq) (rfolD cs r root name tq):=by
 have e:=ref_e h root name tq
 unfold pfolD rfolD
 by_cases h0:(frf (ffind cs p.R p.K root name) tq).e=0
 ·have h0':=e.symm.trans h0
  rw [if_pos h0,if_pos h0']
  obtain ⟨ht,a1,a2,a3⟩:=frf_e0 h0
  have hfr:(fref (ffind cs p.R p.K root name)).e=0:=by unfold frf at h0; rw [if_neg (by rw [ht]; decide)] at h0; exact h0
  obtain ⟨q,rfl,hq⟩:=rtB_nat ht
  rw [Int.toNat_natCast]
  have bd:=ffind_bd (K:=p.K) (root:=root) (letter:=name) hp.root h6 a1
  have hfr':=(ref_meet h root name).symm.trans hfr
  obtain ⟨b1,b2,_⟩:=fref_e0 hfr'
  obtain ⟨n,_,hn,hn0,i,_,hi,eb⟩:=ffind_at b1
  obtain ⟨f,hf,hk⟩:=ffind_fld b1
  have hrn:=hw.root n hn
  have hb1:0 < (ffind cs r.R r.K root name).n∧(ffind cs r.R r.K root name).n≤r.n:=by rw [eb]; simp only []; omega
  have hr:=hw.ref _ hb1.1 hb1.2 _ f hf (by rw [hk]; exact b2)
  exact ⟨follow_meet h root name q hfr,hp.setRoot q _ (hp.ref _ _ bd.2.1 bd.2.2),hw.setRoot q _ (by omega),rfl,fun _=>rfl⟩
 ·rw [if_neg h0,if_neg (fun hh=>h0 (e.trans hh))]
  exact ⟨h,hp,hw,rfl,fun _=>rfl⟩
theorem link_pair {cs:Sch} {p:PH} {r:DH} (h:Sim cs p r) (hp:Pw p) (hw:Wf cs r) (hn:r.n≤9223372036854775807) (root name fr:Int):Goes cs p r (plinkD cs p root name fr) (rlinkD cs r root name fr):=by
 have e:=ref_e h root name fr
 unfold plinkD rlinkD
 by_cases h0:(frf (ffind cs p.R p.K root name) fr).e=0
 ·have h0':=e.symm.trans h0
  rw [if_pos h0,if_pos h0']
  obtain ⟨ht,a1,a2,a3⟩:=frf_e0 h0
  have hfr:(fref (ffind cs p.R p.K root name)).e=0:=by unfold frf at h0; rw [if_neg (by rw [ht]; decide)] at h0; exact h0
  obtain ⟨q,rfl,hq⟩:=rtB_nat ht
  rw [Int.toNat_natCast]
  exact ⟨link_meet h root name q hq hfr,hp.setRef _ _ _ (hp.root q hq),hw.setRef _ _ _ (hw.root q hq) hn,rfl,fun _=>rfl⟩
 ·rw [if_neg h0,if_neg (fun hh=>h0 (e.trans hh))]
  exact ⟨h,hp,hw,rfl,fun _=>rfl⟩
theorem copy_pair {cs:Sch} {p:PH} {r:DH} (h:Sim cs p r) (hp:Pw p) (hw:Wf cs r) (a b:Int):Goes cs p r (pcopyD p a b) (rcopyD r a b):=by
 unfold pcopyD rcopyD
 split
 ·rename_i h1
  obtain ⟨i,rfl,hi⟩:=rtB_nat h1.1
  obtain ⟨j,rfl,hj⟩:=rtB_nat h1.2
  rw [Int.toNat_natCast,Int.toNat_natCast]
  exact ⟨copy_meet h i j hi,hp.setRoot j _ (hp.root i hi),hw.setRoot j _ (hw.root i hi),rfl,fun _=>rfl⟩
 ·exact ⟨h,hp,hw,rfl,fun _=>rfl⟩
theorem clear_pair {cs:Sch} {p:PH} {r:DH} (h:Sim cs p r) (hp:Pw p) (hw:Wf cs r) (a:Int):Goes cs p r (pclearD p a) (rclearD r a):=by
 unfold pclearD rclearD
 split
 ·exact ⟨clear_meet h _,hp.setRoot _ _ (by omega),hw.setRoot _ _ (Nat.zero_le _),rfl,fun _=>rfl⟩
 ·exact ⟨h,hp,hw,rfl,fun _=>rfl⟩
theorem PairOK.goes {w w1 w2:World} {hb rb:Nat} {d:PD} {mx:Nat} {o:OpV} (h:PairOK (boxed w hb rb o) hb rb d mx) (hlo:d.lo≤hb) {p':PH} {r':DH} (hp:HP w1 hb d.sv d.sz p'.R p'.K p'.N p'.F) (g:(boxed w hb rb o).grownBy w1 (some hb)) (rp:RP w2 rb d.x d.cs d.sz r') (gs:GS w1 w2 (d.x.has d.cs d.r.n rb)) (hG:Goes d.cs d.p d.r p' r'):LPost hb rb d mx w (.returned (.bool true)) w2:=by
 obtain ⟨q1,q2,q3⟩:=h.done hlo p' d.x r' hp g rp gs (fun b hb'=>.inl (by rw [hG.n] at hb'; exact hb')) hG.pw hG.wf hG.sim (by have:=h.mx; rw [hG.n]; omega) hG.u ⟨rfl,rfl,rfl⟩
 exact lpost_of q1 hlo q2 q3
theorem PairOK.asks {w w1 w2:World} {hb rb:Nat} {d:PD} {mx:Nat} {o:OpV} (h:PairOK (boxed w hb rb o) hb rb d mx) (hlo:d.lo≤hb) (B1:Below (boxed w hb rb o).heap.size (boxed w hb rb o) w1) (B2:Below w1.heap.size w1 w2):LPost hb rb d mx w (.returned (.bool true)) w2 :=
 h.goes hlo (h.hp.below B1) (gb_below B1 _) ((h.rp.below B1).below B2) (GS.of_below B2) ⟨h.sim,h.pw,h.wf,rfl,fun _=>rfl⟩
theorem Bx.bel {W W':World} {n hb rb:Nat} {o:OpV} (h:Bx W n hb rb o) (g:Below W.heap.size W W'):Bx W' n hb rb o:=by
 have:=h.lt
 exact h.keep g.size (g.block n (by omega)) (g.block (n+1) (by omega))
end Go.Proofs.YtbgilndohccicaaGreatDoor
namespace Go.Proofs.YtbgilndohccicaaGreatDoor
open Go.RowKit
set_option maxRecDepth 20000 in
set_option maxHeartbeats 1000000 in
theorem numbers_put (hb rb:Nat) (d:PD) (mx:Nat) (o:OpV) (w:World) (h:PairOK w hb rb d mx) (hlo:d.lo≤hb) (hmx:mx < 4398046511104) (ho:o.ok) (hk:o.k=5) :
  Calls Tryz.prog 13 #[.agg #[.pointer (some ⟨hb,0,none⟩),.pointer (some ⟨rb,0,none⟩)],o.val] w (LPost hb rb d mx w):=by
 have hB:=h.box hlo o
 have bx:=Bx.new w hb rb o
 have hbl:=h.hp.lt
 have hn:d.r.n≤4398046511104:=by have:=h.mx; omega
 have hcs:d.cs.length≤1000:=by have:=h.n6; omega
 have PM:=put_any hb d.sv d.sz d.p.R d.p.K d.p.N d.p.F d.lo d.vs d.cs _ hB.hp hB.cl.cls hB.pw.root hB.h6 o.a o.c o.v ho.v1 ho.v2
 have RM:=fun W (hW:RP W rb d.x d.cs d.sz d.r)=>rput_any rb d.x d.cs d.sz d.r W hW h.wf.root hcs h.h6 hn o.a o.c o.v ho.v1 ho.v2
 have HB:Hid (PairOK (boxed w hb rb o) hb rb d mx):=hB
 have HX:Hid (Bx (boxed w hb rb o) w.heap.size hb rb o):=bx
 have HGo:Hid (Goes d.cs d.p d.r _ _):=put_pair h.sim h.pw h.wf o.a o.c o.v ho.v1 ho.v2
 have HE:Hid ((fnum (ffind d.cs d.p.R d.p.K o.a o.c)).e=(fnum (ffind d.cs d.r.R d.r.K o.a o.c)).e):=(get_meet h.sim o.a o.c).1
 obtain ⟨ok,om,oa,ob,oc,ov,os,ot⟩:=o
 simp only [OpV.val] at *
 subst hk
 clear h hB bx ho
 go_enter Tryz.func13,Tryz.ntmps13
 go_wp2_with fail
 refine PM.mono ?_
 rintro e w1 ⟨rfl,hp1,g1⟩
 obtain ⟨rp1,_⟩:=HB.out.afterP hlo g1
 have RM1:=RM w1 rp1
 obtain ⟨x0,x1,x2,x3,x4,x5,x6,x7,x8⟩:=HX.out.gb g1 hbl
 have HG1:Hid ((boxed w hb rb ⟨5,om,oa,ob,oc,ov,os,ot⟩).grownBy w1 (some hb)):=g1
 have HP1:Hid (_):=hp1
 clear PM RM g1 rp1 hp1
 have HE':=HE.out
 go_wp2_with fail
 refine RM1.mono ?_
 rintro e w2 ⟨rfl,rp2,gs⟩
 have HL:Hid (LPost hb rb d mx w (.returned (.bool true)) w2):=HB.out.goes hlo HP1.out HG1.out rp2 gs HGo.out
 clear RM1 rp2 gs
 rw [← HE']
 generalize (fnum (ffind d.cs d.p.R d.p.K oa oc)).e=y at *
 clear HE'
 go_wp2
 go_ret
 exact HL.out
end Go.Proofs.YtbgilndohccicaaGreatDoor
namespace Go.Proofs.YtbgilndohccicaaGreatDoor
open Go.RowKit
set_option maxRecDepth 20000 in
set_option maxHeartbeats 1000000 in
theorem numbers_class (hb rb:Nat) (d:PD) (mx:Nat) (o:OpV) (w:World) (h:PairOK w hb rb d mx) (hlo:d.lo≤hb) (hmx:mx < 4398046511104) (ho:o.ok) (hk:o.k=3) :
  Calls Tryz.prog 13 #[.agg #[.pointer (some ⟨hb,0,none⟩),.pointer (some ⟨rb,0,none⟩)],o.val] w (LPost hb rb d mx w):=by
 have hB:=h.box hlo o
 have bx:=Bx.new w hb rb o
 have hbl:=h.hp.lt
 have hn:d.r.n≤4398046511104:=by have:=h.mx; omega
 have hcs:d.cs.length≤1000:=by have:=h.n6; omega
 have PM:=pclass_any hb d.sv d.sz d.p _ hB.hp hB.pw.root o.a
 have RM:=fun W (hW:RP W rb d.x d.cs d.sz d.r)=>rcls_any rb d.x d.cs d.sz d.r W hW h.wf.root hcs h.h6 hn h.hz o.a
 have HB:Hid (PairOK (boxed w hb rb o) hb rb d mx):=hB
 have HX:Hid (Bx (boxed w hb rb o) w.heap.size hb rb o):=bx
 have HE:Hid ((pclsI d.p o.a).2=(rclsI d.r o.a).2):=by show _=_; rw [class_pair h.sim]
 have HV:Hid ((pclsI d.p o.a).1=(rclsI d.r o.a).1):=by show _=_; rw [class_pair h.sim]
 obtain ⟨ok,om,oa,ob,oc,ov,os,ot⟩:=o
 simp only [OpV.val] at *
 subst hk
 clear h hB bx ho
 go_enter Tryz.func13,Tryz.ntmps13
 go_wp2_with fail
 refine PM.mono ?_
 rintro e w1 ⟨rfl,B1⟩
 have RM1:=RM w1 (HB.out.rp.below B1)
 obtain ⟨x0,x1,x2,x3,x4,x5,x6,x7,x8⟩:=HX.out.bel B1
 have HB1:Hid (Below (boxed w hb rb ⟨3,om,oa,ob,oc,ov,os,ot⟩).heap.size (boxed w hb rb ⟨3,om,oa,ob,oc,ov,os,ot⟩) w1):=B1
 clear PM RM B1
 have HE':=HE.out
 have HV':=HV.out
 go_wp2_with fail
 refine RM1.mono ?_
 rintro e w2 ⟨rfl,B2⟩
 have HL:Hid (LPost hb rb d mx w (.returned (.bool true)) w2):=HB.out.asks hlo HB1.out B2
 clear RM1 B2
 rw [← HV',← HE']
 generalize (pclsI d.p oa).1=y at *
 generalize (pclsI d.p oa).2=z at *
 clear HE' HV'
 go_wp2
 go_ret
 exact HL.out
theorem get_pair {cs:Sch} {p:PH} {r:DH} (h:Sim cs p r) (root name:Int):(if (fnum (ffind cs p.R p.K root name)).e=0 then p.N (ffind cs p.R p.K root name).n (ffind cs p.R p.K root name).i else 0)=(if (fnum (ffind cs r.R r.K root name)).e=0 then r.C (ffind cs r.R r.K root name).n (ffind cs r.R r.K root name).i else 0):=by
 obtain ⟨e1,e2⟩:=get_meet h root name
 by_cases h0:(fnum (ffind cs p.R p.K root name)).e=0
 ·rw [if_pos h0,if_pos (e1.symm.trans h0),e2 h0]
 ·rw [if_neg h0,if_neg (fun hh=>h0 (e1.trans hh))]
set_option maxRecDepth 20000 in
set_option maxHeartbeats 1000000 in
theorem numbers_get (hb rb:Nat) (d:PD) (mx:Nat) (o:OpV) (w:World) (h:PairOK w hb rb d mx) (hlo:d.lo≤hb) (hmx:mx < 4398046511104) (ho:o.ok) (hk:o.k=4) :
  Calls Tryz.prog 13 #[.agg #[.pointer (some ⟨hb,0,none⟩),.pointer (some ⟨rb,0,none⟩)],o.val] w (LPost hb rb d mx w):=by
 have hB:=h.box hlo o
 have bx:=Bx.new w hb rb o
 have hbl:=h.hp.lt
 have hn:d.r.n≤4398046511104:=by have:=h.mx; omega
 have hcs:d.cs.length≤1000:=by have:=h.n6; omega
 have PM0:=get_any hb d.sv d.sz d.p.R d.p.K d.p.N d.p.F d.lo d.vs d.cs _ hB.hp hB.cl.cls hB.pw.root hB.h6 o.a o.c
 have RM0:=fun W (hW:RP W rb d.x d.cs d.sz d.r)=>rget_any rb d.x d.cs d.sz d.r W hW h.wf.root hcs h.h6 hn o.a o.c
 have HB:Hid (PairOK (boxed w hb rb o) hb rb d mx):=hB
 have HX:Hid (Bx (boxed w hb rb o) w.heap.size hb rb o):=bx
 have HE:Hid ((fnum (ffind d.cs d.p.R d.p.K o.a o.c)).e=(fnum (ffind d.cs d.r.R d.r.K o.a o.c)).e):=(get_meet h.sim o.a o.c).1
 have HV:Hid (_=_):=get_pair h.sim o.a o.c
 unfold GetPost at PM0
 unfold RGetPost at RM0
 obtain ⟨y,hy⟩:∃ y,y=(if (fnum (ffind d.cs d.p.R d.p.K o.a o.c)).e=0 then d.p.N (ffind d.cs d.p.R d.p.K o.a o.c).n (ffind d.cs d.p.R d.p.K o.a o.c).i else 0):=⟨_,rfl⟩
 obtain ⟨z,hz⟩:∃ z,z=(fnum (ffind d.cs d.p.R d.p.K o.a o.c)).e:=⟨_,rfl⟩
 have PM:Calls Tryz.prog 26 #[.pointer (some ⟨hb,0,none⟩),.int .i64 o.a,.int .u8 o.c] (boxed w hb rb o) fun e w'=>e=.returned (.tuple #[.int .i64 y,.int .i64 z])∧Below (boxed w hb rb o).heap.size (boxed w hb rb o) w':=by rw [hy,hz]; exact PM0
 have RM:∀ W,RP W rb d.x d.cs d.sz d.r→Calls Tryz.prog 27 #[.pointer (some ⟨rb,0,none⟩),.int .i64 o.a,.int .u8 o.c] W fun e w'=>e=.returned (.tuple #[.int .i64 y,.int .i64 z])∧Below W.heap.size W w':=fun W hW=>by rw [hy,hz,HV.out,HE.out]; exact RM0 W hW
 clear PM0 RM0 hy hz HV HE
 obtain ⟨ok,om,oa,ob,oc,ov,os,ot⟩:=o
 simp only [OpV.val] at *
 subst hk
 clear h hB bx ho
 go_enter Tryz.func13,Tryz.ntmps13
 go_wp2_with fail
 refine PM.mono ?_
 rintro e w1 ⟨rfl,B1⟩
 have RM1:=RM w1 (HB.out.rp.below B1)
 obtain ⟨x0,x1,x2,x3,x4,x5,x6,x7,x8⟩:=HX.out.bel B1
 have HB1:Hid (Below (boxed w hb rb ⟨4,om,oa,ob,oc,ov,os,ot⟩).heap.size (boxed w hb rb ⟨4,om,oa,ob,oc,ov,os,ot⟩) w1):=B1
 clear PM RM B1
 go_wp2_with fail
 refine RM1.mono ?_
 rintro e w2 ⟨rfl,B2⟩
 have HL:Hid (LPost hb rb d mx w (.returned (.bool true)) w2):=HB.out.asks hlo HB1.out B2
 clear RM1 B2
 go_wp2
 go_ret
 exact HL.out
end Go.Proofs.YtbgilndohccicaaGreatDoor
namespace Go.Proofs.YtbgilndohccicaaGreatDoor
open Go.RowKit
set_option maxRecDepth 20000 in
set_option maxHeartbeats 1000000 in
theorem links_follow (hb rb:Nat) (d:PD) (mx:Nat) (o:OpV) (w:World) (h:PairOK w hb rb d mx) (hlo:d.lo≤hb) (hmx:mx < 4398046511104) (ho:o.ok) (hk:o.k=6) :
  Calls Tryz.prog 14 #[.agg #[.pointer (some ⟨hb,0,none⟩),.pointer (some ⟨rb,0,none⟩)],o.val] w (LPost hb rb d mx w):=by
 have hB:=h.box hlo o
 have bx:=Bx.new w hb rb o
 have hbl:=h.hp.lt
 have hn:d.r.n≤4398046511104:=by have:=h.mx; omega
 have hcs:d.cs.length≤1000:=by have:=h.n6; omega
 have PM:=pfollow_any hb d.sv d.sz d.p d.lo d.vs d.cs _ hB.hp hB.cl.cls hB.pw hB.h6 o.a o.c o.b
 have RM:=fun W (hW:RP W rb d.x d.cs d.sz d.r)=>rfollow_any rb d.x d.cs d.sz d.r W hW h.wf hcs h.h6 hn o.a o.c o.b
 have HB:Hid (PairOK (boxed w hb rb o) hb rb d mx):=hB
 have HX:Hid (Bx (boxed w hb rb o) w.heap.size hb rb o):=bx
 have HGo:Hid (Goes d.cs d.p d.r _ _):=fol_pair h.sim h.pw h.wf h.h6 o.a o.c o.b
 have HE:Hid ((frf (ffind d.cs d.p.R d.p.K o.a o.c) o.b).e=refE (ffind d.cs d.r.R d.r.K o.a o.c) o.b):=ref_e h.sim o.a o.c o.b
 obtain ⟨ok,om,oa,ob,oc,ov,os,ot⟩:=o
 simp only [OpV.val] at *
 subst hk
 clear h hB bx ho
 go_enter Tryz.func14,Tryz.ntmps14
 go_wp2_with fail
 refine PM.mono ?_
 rintro e w1 ⟨rfl,hp1,g1⟩
 obtain ⟨rp1,_⟩:=HB.out.afterP hlo g1
 have RM1:=RM w1 rp1
 obtain ⟨x0,x1,x2,x3,x4,x5,x6,x7,x8⟩:=HX.out.gb g1 hbl
 have HG1:Hid ((boxed w hb rb ⟨6,om,oa,ob,oc,ov,os,ot⟩).grownBy w1 (some hb)):=g1
 have HP1:Hid (_):=hp1
 clear PM RM g1 rp1 hp1
 have HE':=HE.out
 go_wp2_with fail
 refine RM1.mono ?_
 rintro e w2 ⟨rfl,rp2,gs⟩
 have HL:Hid (LPost hb rb d mx w (.returned (.bool true)) w2):=HB.out.goes hlo HP1.out HG1.out rp2 gs HGo.out
 clear RM1 rp2 gs
 rw [← HE']
 generalize (frf (ffind d.cs d.p.R d.p.K oa oc) ob).e=y at *
 clear HE'
 go_wp2
 go_ret
 exact HL.out
set_option maxRecDepth 20000 in
set_option maxHeartbeats 1000000 in
theorem links_link (hb rb:Nat) (d:PD) (mx:Nat) (o:OpV) (w:World) (h:PairOK w hb rb d mx) (hlo:d.lo≤hb) (hmx:mx < 4398046511104) (ho:o.ok) (hk:o.k=7) :
  Calls Tryz.prog 14 #[.agg #[.pointer (some ⟨hb,0,none⟩),.pointer (some ⟨rb,0,none⟩)],o.val] w (LPost hb rb d mx w):=by
 have hB:=h.box hlo o
 have bx:=Bx.new w hb rb o
 have hbl:=h.hp.lt
 have hn:d.r.n≤4398046511104:=by have:=h.mx; omega
 have hcs:d.cs.length≤1000:=by have:=h.n6; omega
 have PM:=plink_any hb d.sv d.sz d.p d.lo d.vs d.cs _ hB.hp hB.cl.cls hB.pw hB.h6 o.a o.c o.b
 have RM:=fun W (hW:RP W rb d.x d.cs d.sz d.r)=>rlink_any rb d.x d.cs d.sz d.r W hW h.wf hcs h.h6 hn o.a o.c o.b
 have HB:Hid (PairOK (boxed w hb rb o) hb rb d mx):=hB
 have HX:Hid (Bx (boxed w hb rb o) w.heap.size hb rb o):=bx
 have HGo:Hid (Goes d.cs d.p d.r _ _):=link_pair h.sim h.pw h.wf (by omega) o.a o.c o.b
 have HE:Hid ((frf (ffind d.cs d.p.R d.p.K o.a o.c) o.b).e=refE (ffind d.cs d.r.R d.r.K o.a o.c) o.b):=ref_e h.sim o.a o.c o.b
 obtain ⟨ok,om,oa,ob,oc,ov,os,ot⟩:=o
 simp only [OpV.val] at *
 subst hk
 clear h hB bx ho
 go_enter Tryz.func14,Tryz.ntmps14
 go_wp2_with fail
 refine PM.mono ?_
 rintro e w1 ⟨rfl,hp1,g1⟩
 obtain ⟨rp1,_⟩:=HB.out.afterP hlo g1
 have RM1:=RM w1 rp1
 obtain ⟨x0,x1,x2,x3,x4,x5,x6,x7,x8⟩:=HX.out.gb g1 hbl
 have HG1:Hid ((boxed w hb rb ⟨7,om,oa,ob,oc,ov,os,ot⟩).grownBy w1 (some hb)):=g1
 have HP1:Hid (_):=hp1
 clear PM RM g1 rp1 hp1
 have HE':=HE.out
 go_wp2_with fail
 refine RM1.mono ?_
 rintro e w2 ⟨rfl,rp2,gs⟩
 have HL:Hid (LPost hb rb d mx w (.returned (.bool true)) w2):=HB.out.goes hlo HP1.out HG1.out rp2 gs HGo.out
 clear RM1 rp2 gs
 rw [← HE']
 generalize (frf (ffind d.cs d.p.R d.p.K oa oc) ob).e=y at *
 clear HE'
 go_wp2
 go_ret
 exact HL.out
set_option maxRecDepth 20000 in
set_option maxHeartbeats 1000000 in
theorem links_copy (hb rb:Nat) (d:PD) (mx:Nat) (o:OpV) (w:World) (h:PairOK w hb rb d mx) (hlo:d.lo≤hb) (hmx:mx < 4398046511104) (ho:o.ok) (hk:o.k=8) :
  Calls Tryz.prog 14 #[.agg #[.pointer (some ⟨hb,0,none⟩),.pointer (some ⟨rb,0,none⟩)],o.val] w (LPost hb rb d mx w):=by
 have hB:=h.box hlo o
 have bx:=Bx.new w hb rb o
 have hbl:=h.hp.lt
 have hn:d.r.n≤4398046511104:=by have:=h.mx; omega
 have hcs:d.cs.length≤1000:=by have:=h.n6; omega
 have PM:=pcopy_any hb d.sv d.sz d.p _ hB.hp o.a o.b
 have RM:=fun W (hW:RP W rb d.x d.cs d.sz d.r)=>rcopy_any rb d.x d.cs d.sz d.r W hW o.a o.b
 have HB:Hid (PairOK (boxed w hb rb o) hb rb d mx):=hB
 have HX:Hid (Bx (boxed w hb rb o) w.heap.size hb rb o):=bx
 have HGo:Hid (Goes d.cs d.p d.r _ _):=copy_pair h.sim h.pw h.wf o.a o.b
 have HE:Hid (pE2 o.a o.b=rtE o.a o.b):=rfl
 obtain ⟨ok,om,oa,ob,oc,ov,os,ot⟩:=o
 simp only [OpV.val] at *
 subst hk
 clear h hB bx ho
 go_enter Tryz.func14,Tryz.ntmps14
 go_wp2_with fail
 refine PM.mono ?_
 rintro e w1 ⟨rfl,hp1,g1⟩
 obtain ⟨rp1,_⟩:=HB.out.afterP hlo g1
 have RM1:=RM w1 rp1
 obtain ⟨x0,x1,x2,x3,x4,x5,x6,x7,x8⟩:=HX.out.gb g1 hbl
 have HG1:Hid ((boxed w hb rb ⟨8,om,oa,ob,oc,ov,os,ot⟩).grownBy w1 (some hb)):=g1
 have HP1:Hid (_):=hp1
 clear PM RM g1 rp1 hp1
 have HE':=HE.out
 go_wp2_with fail
 refine RM1.mono ?_
 rintro e w2 ⟨rfl,rp2,gs⟩
 have HL:Hid (LPost hb rb d mx w (.returned (.bool true)) w2):=HB.out.goes hlo HP1.out HG1.out rp2 gs HGo.out
 clear RM1 rp2 gs
 rw [← HE']
 generalize pE2 oa ob=y at *
 clear HE'
 go_wp2
 go_ret
 exact HL.out
set_option maxRecDepth 20000 in
set_option maxHeartbeats 1000000 in
theorem links_clear (hb rb:Nat) (d:PD) (mx:Nat) (o:OpV) (w:World) (h:PairOK w hb rb d mx) (hlo:d.lo≤hb) (hmx:mx < 4398046511104) (ho:o.ok) (hk:o.k=9) :
  Calls Tryz.prog 14 #[.agg #[.pointer (some ⟨hb,0,none⟩),.pointer (some ⟨rb,0,none⟩)],o.val] w (LPost hb rb d mx w):=by
 have hB:=h.box hlo o
 have bx:=Bx.new w hb rb o
 have hbl:=h.hp.lt
 have hn:d.r.n≤4398046511104:=by have:=h.mx; omega
 have hcs:d.cs.length≤1000:=by have:=h.n6; omega
 have PM:=pclear_any hb d.sv d.sz d.p _ hB.hp o.a
 have RM:=fun W (hW:RP W rb d.x d.cs d.sz d.r)=>rclear_any rb d.x d.cs d.sz d.r W hW o.a
 have HB:Hid (PairOK (boxed w hb rb o) hb rb d mx):=hB
 have HX:Hid (Bx (boxed w hb rb o) w.heap.size hb rb o):=bx
 have HGo:Hid (Goes d.cs d.p d.r _ _):=clear_pair h.sim h.pw h.wf o.a
 have HE:Hid (pE1 o.a=rtE1 o.a):=rfl
 obtain ⟨ok,om,oa,ob,oc,ov,os,ot⟩:=o
 simp only [OpV.val] at *
 subst hk
 clear h hB bx ho
 go_enter Tryz.func14,Tryz.ntmps14
 go_wp2_with fail
 refine PM.mono ?_
 rintro e w1 ⟨rfl,hp1,g1⟩
 obtain ⟨rp1,_⟩:=HB.out.afterP hlo g1
 have RM1:=RM w1 rp1
 obtain ⟨x0,x1,x2,x3,x4,x5,x6,x7,x8⟩:=HX.out.gb g1 hbl
 have HG1:Hid ((boxed w hb rb ⟨9,om,oa,ob,oc,ov,os,ot⟩).grownBy w1 (some hb)):=g1
 have HP1:Hid (_):=hp1
 clear PM RM g1 rp1 hp1
 have HE':=HE.out
 go_wp2_with fail
 refine RM1.mono ?_
 rintro e w2 ⟨rfl,rp2,gs⟩
 have HL:Hid (LPost hb rb d mx w (.returned (.bool true)) w2):=HB.out.goes hlo HP1.out HG1.out rp2 gs HGo.out
 clear RM1 rp2 gs
 rw [← HE']
 generalize pE1 oa=y at *
 clear HE'
 go_wp2
 go_ret
 exact HL.out
set_option maxRecDepth 20000 in
set_option maxHeartbeats 1000000 in
theorem links_same (hb rb:Nat) (d:PD) (mx:Nat) (o:OpV) (w:World) (h:PairOK w hb rb d mx) (hlo:d.lo≤hb) (hmx:mx < 4398046511104) (ho:o.ok) (hk:o.k=10) :
  Calls Tryz.prog 14 #[.agg #[.pointer (some ⟨hb,0,none⟩),.pointer (some ⟨rb,0,none⟩)],o.val] w (LPost hb rb d mx w):=by
 have hB:=h.box hlo o
 have bx:=Bx.new w hb rb o
 have hbl:=h.hp.lt
 have hn:d.r.n≤4398046511104:=by have:=h.mx; omega
 have hcs:d.cs.length≤1000:=by have:=h.n6; omega
 have PM:=psame_any hb d.sv d.sz d.p _ hB.hp o.a o.b
 have RM:=fun W (hW:RP W rb d.x d.cs d.sz d.r)=>rsame_any rb d.x d.cs d.sz d.r W hW o.a o.b
 have HB:Hid (PairOK (boxed w hb rb o) hb rb d mx):=hB
 have HX:Hid (Bx (boxed w hb rb o) w.heap.size hb rb o):=bx
 have HE:Hid (pE2 o.a o.b=rtE o.a o.b):=rfl
 have HV:Hid (psameI d.p o.a o.b=rsameI d.r o.a o.b):=same_pair h.sim o.a o.b
 obtain ⟨ok,om,oa,ob,oc,ov,os,ot⟩:=o
 simp only [OpV.val] at *
 subst hk
 clear h hB bx ho
 go_enter Tryz.func14,Tryz.ntmps14
 go_wp2_with fail
 refine PM.mono ?_
 rintro e w1 ⟨rfl,B1⟩
 have RM1:=RM w1 (HB.out.rp.below B1)
 obtain ⟨x0,x1,x2,x3,x4,x5,x6,x7,x8⟩:=HX.out.bel B1
 have HB1:Hid (Below (boxed w hb rb ⟨10,om,oa,ob,oc,ov,os,ot⟩).heap.size (boxed w hb rb ⟨10,om,oa,ob,oc,ov,os,ot⟩) w1):=B1
 clear PM RM B1
 have HE':=HE.out
 have HV':=HV.out
 go_wp2_with fail
 refine RM1.mono ?_
 rintro e w2 ⟨rfl,B2⟩
 have HL:Hid (LPost hb rb d mx w (.returned (.bool true)) w2):=HB.out.asks hlo HB1.out B2
 clear RM1 B2
 rw [← HV',← HE']
 generalize psameI d.p oa ob=y at *
 generalize pE2 oa ob=z at *
 clear HE' HV'
 go_wp2
 go_ret
 exact HL.out
end Go.Proofs.YtbgilndohccicaaGreatDoor
namespace Go.Proofs.YtbgilndohccicaaGreatDoor
open Go.RowKit
set_option maxRecDepth 20000 in
set_option maxHeartbeats 1000000 in
theorem links_words (hb rb:Nat) (d:PD) (mx:Nat) (o:OpV) (w:World) (h:PairOK w hb rb d mx) (hlo:d.lo≤hb) (hmx:mx < 4398046511104) (_ho:o.ok) (hk:o.k=11) :
  Calls Tryz.prog 14 #[.agg #[.pointer (some ⟨hb,0,none⟩),.pointer (some ⟨rb,0,none⟩)],o.val] w (LPost hb rb d mx w):=by
 have hB:=h.box hlo o
 have bx:=Bx.new w hb rb o
 have hbl:=h.hp.lt
 have hn:d.r.n≤4398046511104:=by have:=h.mx; omega
 have hcs:d.cs.length≤1000:=by have:=h.n6; omega
 have PM:=pwords_any hb d.sv d.sz d.p d.lo d.vs d.cs _ hB.hp hB.cl.cls hB.pw hB.h6
 have RM:=fun W (hW:RP W rb d.x d.cs d.sz d.r)=>rwords_any rb d.x d.cs d.sz d.r W hW h.wf hcs h.h6 hn
 have HB:Hid (PairOK (boxed w hb rb o) hb rb d mx):=hB
 have HX:Hid (Bx (boxed w hb rb o) w.heap.size hb rb o):=bx
 have H0:Hid (Wf d.cs d.r∧Sim d.cs d.p d.r∧(∀ c∈d.cs,c.2.length≤6)):=⟨h.wf,h.sim,h.h6⟩
 obtain ⟨ok,om,oa,ob,oc,ov,os,ot⟩:=o
 simp only [OpV.val] at *
 subst hk
 clear h hB bx
 go_enter Tryz.func14,Tryz.ntmps14
 go_wp2_with fail
 refine PM.mono ?_
 rintro e w1 ⟨L,rfl,hd,hm,B1⟩
 have RM1:=RM w1 (HB.out.rp.below B1)
 obtain ⟨x0,x1,x2,x3,x4,x5,x6,x7,x8⟩:=HX.out.bel B1
 have HB1:Hid (Below (boxed w hb rb ⟨11,om,oa,ob,oc,ov,os,ot⟩).heap.size (boxed w hb rb ⟨11,om,oa,ob,oc,ov,os,ot⟩) w1):=B1
 have HL0:Hid (L.Nodup∧∀ a,a∈L↔d.p.in a):=⟨hd,hm⟩
 obtain ⟨y,hy⟩:∃ y,y=wlist d.cs d.p.K L:=⟨_,rfl⟩
 have HY:Hid (y=wlist d.cs d.p.K L):=hy
 rw [← hy]
 clear PM RM B1 hd hm hy
 go_wp2_with fail
 refine RM1.mono ?_
 rintro e w2 ⟨T,rfl,hT,B2⟩
 have HL:Hid (LPost hb rb d mx w (.returned (.bool true)) w2):=HB.out.asks hlo HB1.out B2
 have ey:wsum d.cs d.r.K T d.r.n=y:=by rw [HY.out]; exact (wlist_wsum H0.out.2.1 H0.out.2.2 H0.out.1 L T HL0.out.1 HL0.out.2 hT).symm
 rw [ey]
 clear RM1 B2 ey hT
 go_wp2
 go_ret
 exact HL.out
theorem numbers_any (hb rb:Nat) (d:PD) (mx:Nat) (o:OpV) (w:World) (h:PairOK w hb rb d mx) (hlo:d.lo≤hb) (hmx:mx < 4398046511104) (ho:o.ok) (h1:2≤o.k) (h2:o.k≤5) :
  Calls Tryz.prog 13 #[.agg #[.pointer (some ⟨hb,0,none⟩),.pointer (some ⟨rb,0,none⟩)],o.val] w (LPost hb rb d mx w):=by
 have:o.k=2∨o.k=3∨o.k=4∨o.k=5:=by omega
 rcases this with e | e | e | e
 ·exact numbers_make hb rb d mx o w h hlo hmx e
 ·exact numbers_class hb rb d mx o w h hlo hmx ho e
 ·exact numbers_get hb rb d mx o w h hlo hmx ho e
 ·exact numbers_put hb rb d mx o w h hlo hmx ho e
theorem links_any (hb rb:Nat) (d:PD) (mx:Nat) (o:OpV) (w:World) (h:PairOK w hb rb d mx) (hlo:d.lo≤hb) (hmx:mx < 4398046511104) (ho:o.ok) (h1:6≤o.k) (h2:o.k≤11) :
  Calls Tryz.prog 14 #[.agg #[.pointer (some ⟨hb,0,none⟩),.pointer (some ⟨rb,0,none⟩)],o.val] w (LPost hb rb d mx w):=by
 have:o.k=6∨o.k=7∨o.k=8∨o.k=9∨o.k=10∨o.k=11:=by omega
 rcases this with e | e | e | e | e | e
 ·exact links_follow hb rb d mx o w h hlo hmx ho e
 ·exact links_link hb rb d mx o w h hlo hmx ho e
 ·exact links_copy hb rb d mx o w h hlo hmx ho e
 ·exact links_clear hb rb d mx o w h hlo hmx ho e
 ·exact links_same hb rb d mx o w h hlo hmx ho e
 ·exact links_words hb rb d mx o w h hlo hmx ho e
end Go.Proofs.YtbgilndohccicaaGreatDoor
namespace Go.Proofs.YtbgilndohccicaaGreatDoor
open Go.RowKit
abbrev PQ:=Nat×Nat×PD
def PQ.fp (q:PQ) (b:Nat):Prop:=q.2.2.fp q.1 q.2.1 b
def flatQ (ps:List PQ):List Value:=ps.flatMap fun q=>[.pointer (some ⟨q.1,0,none⟩),.pointer (some ⟨q.2.1,0,none⟩)]
structure WS (B:Nat) (w:World) (wb:Nat) (v:Value) (ps:List PQ) (mx:Nat):Prop where
 c:w.cell? ⟨wb,0,none⟩=some v
 f:w.frozen? ⟨wb,0,none⟩=false
 own:w.ownsRow B 41 2 v ps.length (flatQ ps)
 ok:∀ (i:Nat) (q:PQ),ps[i]?=some q→q.2.2.lo≤q.1∧PairOK w q.1 q.2.1 q.2.2 mx
 ge:∀ (i:Nat) (q:PQ),ps[i]?=some q→∀ b,q.fp b→B≤b∧b≠wb∧v.ownBlock≠some b
 dj:∀ (i j:Nat) (q q':PQ),i≠j→ps[i]?=some q→ps[j]?=some q'→∀ b,q.fp b→¬ q'.fp b
 wbB:B≤wb
 wv:v.ownBlock≠some wb
def wsS (wb:Nat) (v:Value) (ps:List PQ) (b:Nat):Prop:=b=wb∨v.ownBlock=some b∨∃ (i:Nat) (q:PQ),ps[i]?=some q∧q.fp b
theorem WS.lt {B:Nat} {w:World} {wb:Nat} {v:Value} {ps:List PQ} {mx:Nat} (h:WS B w wb v ps mx):wb < w.heap.size:=World.block_lt_of_cell? w ⟨wb,0,none⟩ h.c
theorem WS.below {B:Nat} {w w':World} {wb:Nat} {v:Value} {ps:List PQ} {mx mx':Nat} (h:WS B w wb v ps mx) (hb:Below w.heap.size w w') (hm:mx≤mx'):WS B w' wb v ps mx' :=
 ⟨(hb.cell (by exact h.lt)).trans h.c,(hb.frozen (by exact h.lt)).trans h.f,row_keepH h.own fun g hg=>hb.block g (World.ownsRow.lt h.own g hg).2,
  fun i q hq=>⟨(h.ok i q hq).1,(h.ok i q hq).2.keep (h.ok i q hq).1 hb.size (fun b hb'=>hb.block b ((h.ok i q hq).2.fp_lt hb')) hm⟩,h.ge,h.dj,h.wbB,h.wv⟩
theorem flatQ_set (ps:List PQ) (i:Nat) (q:PQ) (d':PD) (h:ps[i]?=some q):flatQ (ps.set i (q.1,q.2.1,d'))=flatQ ps:=by
 unfold flatQ
 induction ps generalizing i with
 | nil=>simp at h
 | cons x l ih =>
  match i with
  | 0 =>
   simp only [List.getElem?_cons_zero,Option.some.injEq] at h
   subst h
   rw [List.set_cons_zero,List.flatMap_cons,List.flatMap_cons]
  | j+1 =>
   rw [List.set_cons_succ,List.flatMap_cons,List.flatMap_cons,ih j (by simpa using h)]
theorem WS.step {B:Nat} {w w':World} {wb:Nat} {v:Value} {ps:List PQ} {mx:Nat} (h:WS B w wb v ps mx) (i:Nat) (q:PQ) (hq:ps[i]?=some q) (d':PD) (hlo:d'.lo≤q.1) (hp:PairOK w' q.1 q.2.1 d' (mx+1)) (gs:GS w w' (q.2.2.fp q.1 q.2.1)) (hfp:∀ b,d'.fp q.1 q.2.1 b→q.2.2.fp q.1 q.2.1 b∨w.heap.size≤b) :
  WS B w' wb v (ps.set i (q.1,q.2.1,d')) (mx+1)∧Below B w w':=by
 have hl:=h.lt
 obtain ⟨hi,_⟩:=List.getElem?_eq_some_iff.1 hq
 have hwb:w'.heap[wb]?=w.heap[wb]?:=gs.block wb hl (fun hh=>(h.ge i q hq wb hh).2.1 rfl)
 refine ⟨⟨(World.cell?_of_block (a:=⟨wb,0,none⟩) hwb).trans h.c,(World.frozen?_of_block (a:=⟨wb,0,none⟩) hwb).trans h.f,?_,?_,?_,?_,h.wbB,h.wv⟩,?_⟩
 ·rw [List.length_set,flatQ_set ps i q d' hq]
  exact row_keepH h.own fun g hg=>gs.block g (World.ownsRow.lt h.own g hg).2 (fun hh=>(h.ge i q hq g hh).2.2 hg)
 ·intro j q' hq'
  rw [List.getElem?_set] at hq'
  by_cases e:i=j
  ·rw [if_pos e,if_pos hi] at hq'
   have:=Option.some.inj hq'
   subst this
   exact ⟨hlo,hp⟩
  ·rw [if_neg e] at hq'
   refine ⟨(h.ok j q' hq').1,(h.ok j q' hq').2.keep (h.ok j q' hq').1 gs.size (fun b hb=>gs.block b ((h.ok j q' hq').2.fp_lt hb) (fun hh=>h.dj i j q q' e hq hq' b hh hb)) (by omega)⟩
 ·intro j q' hq' b hb
  rw [List.getElem?_set] at hq'
  by_cases e:i=j
  ·rw [if_pos e,if_pos hi] at hq'
   have:=Option.some.inj hq'
   subst this
   rcases hfp b hb with hh | hh
   ·exact h.ge i q hq b hh
   ·refine ⟨by have:=h.wbB; omega,by omega,fun hv=>?_⟩
    have:=(World.ownsRow.lt h.own b hv).2; omega
  ·rw [if_neg e] at hq'
   exact h.ge j q' hq' b hb
 ·intro j k q' q'' hne hj hk b hb hb2
  rw [List.getElem?_set] at hj hk
  by_cases e:i=j
  ·have e2:i≠k:=fun e2=>hne (e.symm.trans e2)
   rw [if_pos e,if_pos hi] at hj
   rw [if_neg e2] at hk
   have:=Option.some.inj hj
   subst this
   rcases hfp b hb with hh | hh
   ·exact h.dj i k q q'' e2 hq hk b hh hb2
   ·have:=(h.ok k q'' hk).2.fp_lt hb2; omega
  ·rw [if_neg e] at hj
   by_cases e2:i=k
   ·rw [if_pos e2,if_pos hi] at hk
    have:=Option.some.inj hk
    subst this
    rcases hfp b hb2 with hh | hh
    ·exact h.dj i j q q' e hq hj b hh hb
    ·have:=(h.ok j q' hj).2.fp_lt hb; omega
   ·rw [if_neg e2] at hk
    exact h.dj j k q' q'' hne hj hk b hb hb2
 ·exact ⟨gs.os,gs.tape,gs.output,gs.size,fun k hk=>gs.block k (by have:=h.wbB; omega) (fun hh=>by have:=(h.ge i q hq k hh).1; omega)⟩
theorem WS.s_lt {B:Nat} {w:World} {wb:Nat} {v:Value} {ps:List PQ} {mx:Nat} (h:WS B w wb v ps mx) {b:Nat} (hb:wsS wb v ps b):b < w.heap.size:=by
 rcases hb with rfl | hb | ⟨i,q,hq,hb⟩
 ·exact h.lt
 ·exact (World.ownsRow.lt h.own b hb).2
 ·exact (h.ok i q hq).2.fp_lt hb
theorem flatQ_get (ps:List PQ):∀ i q,ps[i]?=some q→(flatQ ps)[i * 2]?=some (.pointer (some ⟨q.1,0,none⟩))∧(flatQ ps)[i * 2+1]?=some (.pointer (some ⟨q.2.1,0,none⟩)):=by
 unfold flatQ
 induction ps with
 | nil=>intro i q h; simp at h
 | cons x l ih =>
  intro i q h
  match i with
  | 0 =>
   simp only [List.getElem?_cons_zero,Option.some.injEq] at h
   subst h
   exact ⟨rfl,rfl⟩
  | j+1 =>
   have:=ih j q (by simpa using h)
   rw [List.flatMap_cons]
   have e1:(j+1) * 2=j * 2+2:=by omega
   rw [e1]
   exact this
theorem WS.cells {B:Nat} {w:World} {wb:Nat} {v:Value} {ps:List PQ} {mx:Nat} (h:WS B w wb v ps mx) (i:Nat) (q:PQ) (hq:ps[i]?=some q):∃ g cap,v=.slice (some ⟨g,0,none⟩) ps.length cap∧g < w.heap.size∧w.cell? ⟨g,i * 2,none⟩=some (.pointer (some ⟨q.1,0,none⟩))∧w.cell? ⟨g,i * 2+1,none⟩=some (.pointer (some ⟨q.2.1,0,none⟩)):=by
 obtain ⟨hi,_⟩:=List.getElem?_eq_some_iff.1 hq
 rcases h.own.2 with ⟨e,hn⟩ | ⟨g,cap,cur,e,_,hg,_⟩
 ·omega
 ·have c:=World.ownsRow.cells h.own (g:=g) (by rw [e]; rfl)
  have e2:∀ j,(⟨g,0,none⟩:Addr).add j=⟨g,j,none⟩:=fun j=>by unfold Addr.add; split <;> simp_all
  have c0:=c (i * 2) _ (flatQ_get ps i q hq).1
  have c1:=c (i * 2+1) _ (flatQ_get ps i q hq).2
  rw [e2] at c0 c1
  exact ⟨g,cap,e,(Array.getElem?_eq_some_iff.1 hg).1,c0,c1⟩
end Go.Proofs.YtbgilndohccicaaGreatDoor
