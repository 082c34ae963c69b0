import Derived.Test.YtbgilndohccicaaGreatDoorBz02
import Derived.Test.YtbgilndohccicaaGreatDoorBz23
import Derived.Test.YtbgilndohccicaaGreatDoorBz20
import Derived.Test.YtbgilndohccicaaGreatDoorBz07
namespace Go.Proofs.YtbgilndohccicaaGreatDoor
open Go.RowKit
def ltR (cs:Sch) (r:DH) (o:Nat) (name:Int):Int:=if idxF (fof cs (r.K (o+1))) name < 0 then 0 else r.C (o+1) (idxF (fof cs (r.K (o+1))) name).toNat
theorem RP.drewN {w:World} {rb:Nat} {x:RX} {cs:Sch} {sz:Int} {r:DH} (h:RP w rb x cs sz r) (n:Nat):RP (w.drewN n) rb x cs sz r:=h.below ⟨rfl,rfl,rfl,Nat.le_refl _,fun _ _=>rfl⟩
set_option maxRecDepth 20000 in
set_option maxHeartbeats 1000000 in
theorem letter_r (rb:Nat) (x:RX) (cs:Sch) (sz:Int) (r:DH) (w:World) (h:RP w rb x cs sz r) (hcs:cs.length≤1000) (h6:∀ c∈cs,c.2.length≤6) (hn:r.n≤4398046511104) (o:Nat) (ho':o < r.n) (name:Int) :
  Calls Tryz.prog 108 #[.pointer (some ⟨rb,0,none⟩),.int .i64 o,.int .u8 name] w fun e w'=>e=.returned (.int .i64 (ltR cs r o name))∧∃ n,w'=w.drewN n:=by
 have hrb:=h.lt
 obtain ⟨g,hga,hg,hrow⟩:=h.row (by omega)
 obtain ⟨o0,o1⟩:=hrow o ho'
 have c0:=h.c0
 have c2:=h.c2
 rw [hga] at c2
 have hob:(0:Int)≤(o:Int)∧(o:Int) < (r.n:Int):=by omega
 have hfl:=fof_le h6 (r.K (o+1))
 have HOB:Hid (OB w x cs r o):=h.ob o ho'
 obtain ⟨L,hL⟩:∃ L,L=ltR cs r o name:=⟨_,rfl⟩
 rw [← hL]
 unfold ltR at hL
 obtain ⟨fs,hfs⟩:∃ fs,fs=fof cs (r.K (o+1)):=⟨_,rfl⟩
 have FK:∀ W:World,KC W x.kx cs→Calls Tryz.prog 72 #[.slice (some ⟨x.kx.g,0,none⟩) cs.length x.kx.cap,.int .u8 (r.K (o+1))] W fun e w'=>e=.returned (.tuple #[.slice (knA x.kx cs (r.K (o+1))) fs.length (knC x.kx cs (r.K (o+1))),.bool (cs.any fun y=>y.1==r.K (o+1))])∧w'=W:=by
  intro W hW
  rw [hfs]
  exact known_any x.kx cs (r.K (o+1)) W hW hcs
 have KF0:=(h.kc.kf (r.K (o+1))).1
 rw [← hfs] at KF0 hL o1 hfl
 have HKC:Hid (KC w x.kx cs):=h.kc
 have HC:Hid (∀ k,k < fs.length→w.cell? ⟨x.G o,k,none⟩=some (.int .i64 (r.C (o+1) k))):=by rw [hfs]; exact HOB.out.cell
 have hGl:x.G o < w.heap.size:=HOB.out.lt
 clear hrow hfs HOB h
 obtain ⟨m,hm⟩:∃ m,m=fs.length:=⟨_,rfl⟩
 rw [← hm] at FK hfl o1
 generalize knA x.kx cs (r.K (o+1))=fa at FK KF0
 generalize knC x.kx cs (r.K (o+1))=fcap at FK
 generalize x.kx.FG (kidx cs (r.K (o+1)))=fg at KF0
 have HKF:Hid (KF w fa fg fs):=KF0
 have HM:Hid (m=fs.length):=hm
 have HL:Hid (L=if idxF fs name < 0 then 0 else r.C (o+1) (idxF fs name).toNat):=hL
 generalize x.G o=G0 at o1 HC hGl
 clear KF0 hm hL
 go_enter Tryz.func108,Tryz.ntmps108
 go_wp2
 go_quiet ((go_at_call 72; exact Calls.quiet_of_same (FK _ (HKC.out.drewN _))))
 ·clear FK HKC
  go_wp2
  go_loopw [9] (fun iv wr=>∃ k:Nat,k≤m∧iv=.int .i64 k∧Hid (∀ j,j < k→¬ (fs[j]?.getD (0,0)).1=name)∧∃ nd,wr=w.drewN nd) (fun iv _=>m - (intOf iv).toNat)
  case atStart=>exact ⟨0,by omega,rfl,fun j h=>by omega,_,rfl⟩
  case round =>
   obtain ⟨k,hk,rfl,HN,nd,rfl⟩:=hrel
   by_cases hlt:k < m
   ·have hlt':k < fs.length:=by rw [← HM.out]; exact hlt
    obtain ⟨ea,hfg⟩:=HKF.out.a (by omega)
    obtain ⟨k0,k1⟩:=HKF.out.row k hlt'
    have ck:=HC.out k hlt'
    subst ea
    by_cases he:(fs[k]?.getD (0,0)).1=name
    ·have he':((fs[k]?.getD (0,0)).1==name)=true:=by simpa using he
     have hix:idxF fs name=k:=idxF_hit fs name k hlt' HN.out he'
     rw [he] at k0
     have HL2:Hid (L=r.C (o+1) k):=by show L=_; rw [HL.out,hix,if_neg (by omega),Int.toNat_natCast]
     generalize r.C (o+1) k=y at ck HL2
     clear he' hix he
     go_wp2
     go_ret
     exact ⟨by rw [HL2.out]; rfl,_,rfl⟩
    ·have he':((fs[k]?.getD (0,0)).1==name)=false:=by simpa using he
     have HN2:Hid (∀ j,j < k+1→¬ (fs[j]?.getD (0,0)).1=name):=no_step HN.out he'
     obtain ⟨nm,hnm⟩:∃ nm,nm=(fs[k]?.getD (0,0)).1:=⟨_,rfl⟩
     rw [← hnm] at k0 he'
     clear he hnm k1 ck
     go_wp2
     go_roundw
     case rel=>exact ⟨k+1,by omega,by go_num,HN2,_,rfl⟩
     case measure=>simp [intOf]; omega
   ·have hge:m≤k:=by omega
    have hix:idxF fs name=-1:=idxF_none fs name (fun j hj=>HN.out j (by rw [← HM.out] at hj; omega))
    have HL2:Hid (L=0):=by show L=_; rw [HL.out,hix,if_pos (by decide)]
    clear hlt hix
    go_wp2
    go_ret
    exact ⟨by rw [HL2.out]; rfl,_,rfl⟩
def CSu (rb:Nat) (x:RX) (cs:Sch) (sz:Int) (r:DH) (o:Nat) (fn:Nat) (t:ByteArray) (n:Int):Prop:=∀ w:World,RP w rb x cs sz r →
 Calls Tryz.prog fn #[.pointer (some ⟨rb,0,none⟩),.string t,.int .i64 o] w fun e w'=>e=.returned (.int .i64 n)∧∃ k,w'=w.drewN k
set_option maxHeartbeats 400000 in
theorem prod_one {rb:Nat} {x:RX} {cs:Sch} {sz:Int} {r:DH} {o:Nat} {t:ByteArray} {n:Int} (hm:t.size≤1000) (hl:lastI t 42 42 < 0) (hF:CSu rb x cs sz r o 130 t n):CSu rb x cs sz r o 123 t n:=by
 intro w h
 have L:=last_any t 42 42 w hm
 generalize lastI t 42 42=l at L hl
 have F:=hF w h
 clear hF h
 go_enter Tryz.func123,Tryz.ntmps123
 go_wp2_with fail
 refine L.mono ?_
 rintro e w' ⟨rfl,rfl⟩
 go_wp2_with fail
 refine F.mono ?_
 rintro e w2 ⟨rfl,k,rfl⟩
 go_wp2
 go_ret
 exact ⟨rfl,k,rfl⟩
set_option maxHeartbeats 400000 in
theorem prod_more {rb:Nat} {x:RX} {cs:Sch} {sz:Int} {r:DH} {o:Nat} {t:ByteArray} {n m:Int} {i:Nat} (hm:t.size≤1000) (hl:lastI t 42 42=i) (hi:i < t.size) (hP:CSu rb x cs sz r o 123 (t.extract 0 i) n) (hF:CSu rb x cs sz r o 130 (t.extract (i+1) t.size) m):CSu rb x cs sz r o 123 t (wrap64 (n * m)):=by
 intro w h
 have L:=last_any t 42 42 w hm
 rw [hl] at L
 have P:=hP w h
 have F:=fun k=>hF (w.drewN k) (h.drewN k)
 clear hP hF h hl
 go_enter Tryz.func123,Tryz.ntmps123
 go_wp2_with fail
 refine L.mono ?_
 rintro e w' ⟨rfl,rfl⟩
 go_wp2_with fail
 refine P.mono ?_
 rintro e w2 ⟨rfl,k,rfl⟩
 have F1:=F k
 clear P F
 go_wp2_with fail
 refine F1.mono ?_
 rintro e w3 ⟨rfl,k2,rfl⟩
 clear F1
 go_wp2
 go_ret
 exact ⟨rfl,_,rfl⟩
set_option maxHeartbeats 400000 in
theorem sum_one {rb:Nat} {x:RX} {cs:Sch} {sz:Int} {r:DH} {o:Nat} {t:ByteArray} {n:Int} (hm:t.size≤1000) (hl:lastI t 43 45 < 0) (hF:CSu rb x cs sz r o 123 t n):CSu rb x cs sz r o 106 t n:=by
 intro w h
 have L:=last_any t 43 45 w hm
 generalize lastI t 43 45=l at L hl
 have F:=hF w h
 clear hF h
 go_enter Tryz.func106,Tryz.ntmps106
 go_wp2_with fail
 refine L.mono ?_
 rintro e w' ⟨rfl,rfl⟩
 go_wp2_with fail
 refine F.mono ?_
 rintro e w2 ⟨rfl,k,rfl⟩
 go_wp2
 go_ret
 exact ⟨rfl,k,rfl⟩
set_option maxHeartbeats 400000 in
theorem sum_more {rb:Nat} {x:RX} {cs:Sch} {sz:Int} {r:DH} {o:Nat} {t:ByteArray} {n m c:Int} {i:Nat} (hm:t.size≤1000) (hl:lastI t 43 45=i) (hi:i < t.size) (hc:c=43∨c=45) (hx:nextB t i=c) (hP:CSu rb x cs sz r o 106 (t.extract 0 i) n) (hF:CSu rb x cs sz r o 123 (t.extract (i+1) t.size) m):CSu rb x cs sz r o 106 t (joinI n c m):=by
 intro w h
 have L:=last_any t 43 45 w hm
 rw [hl] at L
 have P:=hP w h
 have F:=fun k=>hF (w.drewN k) (h.drewN k)
 have hxk:=nextB_at hi
 rw [hx] at hxk
 clear hP hF h hl hx
 rcases hc with rfl | rfl
 ·have ej:joinI n 43 m=wrap64 (n+m):=rfl
  rw [ej]
  go_enter Tryz.func106,Tryz.ntmps106
  go_wp2_with fail
  refine L.mono ?_
  rintro e w' ⟨rfl,rfl⟩
  go_wp2_with fail
  refine P.mono ?_
  rintro e w2 ⟨rfl,k,rfl⟩
  have F1:=F k
  clear P F
  go_wp2_with fail
  refine F1.mono ?_
  rintro e w3 ⟨rfl,k2,rfl⟩
  clear F1
  go_wp2
  go_ret
  exact ⟨rfl,_,rfl⟩
 ·have ej:joinI n 45 m=wrap64 (n - m):=rfl
  rw [ej]
  go_enter Tryz.func106,Tryz.ntmps106
  go_wp2_with fail
  refine L.mono ?_
  rintro e w' ⟨rfl,rfl⟩
  go_wp2_with fail
  refine P.mono ?_
  rintro e w2 ⟨rfl,k,rfl⟩
  have F1:=F k
  clear P F
  go_wp2_with fail
  refine F1.mono ?_
  rintro e w3 ⟨rfl,k2,rfl⟩
  clear F1
  go_wp2
  go_ret
  exact ⟨rfl,_,rfl⟩
end Go.Proofs.YtbgilndohccicaaGreatDoor
namespace Go.Proofs.YtbgilndohccicaaGreatDoor
open Go.RowKit
theorem bl_head {t:ByteArray} {c:Int} {r:List Int} (h:bl t=c :: r):0 < t.size∧nextB t 0=c:=by
 have hz:0 < t.size:=by rw [← bl_len,h]; simp
 have:=bl_at hz
 rw [h] at this
 exact ⟨hz,by injection this with this; exact this.symm⟩
theorem bl_take {t:ByteArray} {u v:List Int} (h:bl t=u++v):bl (t.extract 0 u.length)=u:=by
 rw [bl_extract,h,List.drop_zero,Nat.sub_zero,List.take_left']; rfl
theorem bl_rest {t:ByteArray} {u v:List Int} {c:Int} (h:bl t=u++c :: v):bl (t.extract (u.length+1) t.size)=v:=by
 have hz:t.size=u.length+1+v.length:=by rw [← bl_len,h]; simp; omega
 rw [bl_extract,h,show u++c :: v=(u++[c])++v by simp,List.drop_left' (by simp),List.take_of_length_le (by omega)]
theorem bl_mid {t:ByteArray} {c d:Int} {s:List Int} (h:bl t=c :: (s++[d])):bl (t.extract 1 (t.size - 1))=s:=by
 have hz:t.size=s.length+2:=by rw [← bl_len,h]; simp
 rw [bl_extract,h,List.drop_one,List.tail_cons,hz,show s.length+2 - 1 - 1=s.length by omega,List.take_left']; rfl
theorem decV_snoc (l:List Int) (c:Int):decV (l++[c])=10 * decV l+(c - 48):=by unfold decV; rw [List.foldl_append]; rfl
theorem fold_bd:∀ (l:List Int) (v:Int) (k:Nat),dgs l→0≤v→v < 10 ^ k→0≤l.foldl (fun n c=>10 * n+(c - 48)) v∧l.foldl (fun n c=>10 * n+(c - 48)) v < 10 ^ (k+l.length):=by
 intro l
 induction l with
 | nil=>intro v k _ h1 h2; exact ⟨h1,h2⟩
 | cons c l ih =>
  intro v k h h1 h2
  have hc:=h c List.mem_cons_self
  rw [List.foldl_cons,List.length_cons,show k+(l.length+1)=k+1+l.length by omega]
  exact ih _ (k+1) (fun x hx=>h x (List.mem_cons_of_mem _ hx)) (by omega) (by rw [Int.pow_succ]; omega)
theorem decV_bd (l:List Int) (h:dgs l):0≤decV l∧decV l < 10 ^ l.length:=by
 have:=fold_bd l 0 0 h (Int.le_refl _) (by decide)
 rw [Nat.zero_add] at this
 exact this
theorem pow9 {k:Nat} (h:k≤9):(10:Int) ^ k≤1000000000:=by
 have:k=0∨k=1∨k=2∨k=3∨k=4∨k=5∨k=6∨k=7∨k=8∨k=9:=by omega
 rcases this with rfl | rfl | rfl | rfl | rfl | rfl | rfl | rfl | rfl | rfl <;> decide
set_option maxHeartbeats 1000000 in
set_option maxRecDepth 20000 in
theorem fac_num {rb:Nat} {x:RX} {cs:Sch} {sz:Int} {r:DH} {o:Nat} {t:ByteArray} (hd:dgs (bl t)) (h1:0 < t.size) (h9:t.size≤9):CSu rb x cs sz r o 130 t (decV (bl t)):=by
 intro w h
 have hx0:=nextB_at h1
 have hb:∀ k,k < t.size→48≤nextB t k∧nextB t k≤57:=fun k hk=>hd _ (List.mem_of_getElem? (bl_at hk))
 have hb0:=hb 0 h1
 obtain ⟨V,hV⟩:∃ V,V=decV (bl t):=⟨_,rfl⟩
 rw [← hV]
 have HV:Hid (V=decV (bl t)):=hV
 have HB:Hid (∀ k,k < t.size→48≤nextB t k∧nextB t k≤57):=hb
 have HD:Hid (dgs (bl t)):=hd
 have q40:(nextB t 0==40)=false:=by simp; omega
 have A:=fun W:World=>among_any (nextB t 0) 97 122 W false (by simp; omega)
 have hL:=bl_len t
 clear hV hb hd h
 go_enter Tryz.func130,Tryz.ntmps130
 go_wp2_with fail
 refine (A _).mono ?_
 rintro e w' ⟨rfl,rfl⟩
 clear A q40 hb0 hx0
 go_wp2
 go_loop [7,8] (fun nv iv=>∃ (k:Nat) (n:Int),k≤t.size∧iv=.int .i64 k∧nv=.int .i64 n∧0≤n∧n≤1000000000∧Hid (n=decV ((bl t).take k))) (fun _ iv=>t.size - (intOf iv).toNat)
 case atStart=>exact ⟨0,0,Nat.zero_le _,rfl,rfl,by omega,by omega,rfl⟩
 case round =>
  obtain ⟨k,n,hk,rfl,rfl,n1,n2,HN⟩:=hrel
  by_cases hlt:k < t.size
  ·have hxk:=nextB_at hlt
   have hbk:=HB.out k hlt
   have e1:decV ((bl t).take (k+1))=10 * n+(nextB t k - 48):=by
    rw [List.take_add_one,bl_at hlt,HN.out]; exact decV_snoc _ _
   have hbd:=decV_bd ((bl t).take (k+1)) fun y hy=>HD.out y (List.mem_of_mem_take hy)
   have hln:((bl t).take (k+1)).length=k+1:=by rw [List.length_take,hL]; omega
   rw [hln,e1] at hbd
   have hp:=pow9 (k:=k+1) (by omega)
   have HN2:Hid (10 * n+(nextB t k - 48)=decV ((bl t).take (k+1))):=e1.symm
   generalize nextB t k=y at hxk hbk hbd HN2
   have hn9:10 * n+(y - 48)≤1000000000:=by omega
   have hn8:10 * n≤1000000000:=by omega
   clear e1 hbd hln hp
   go_wp2
   refine ⟨⟨k+1,10 * n+(y - 48),by omega,rfl,?_,by omega,hn9,HN2⟩,by simp [intOf]; omega⟩
   rfl
  ·have HN2:Hid (n=V):=by
    show n=V
    rw [HN.out,HV.out,List.take_of_length_le (by rw [hL]; omega)]
   go_wp2
   go_ret
   exact ⟨by rw [← HN2.out]; rfl,0,rfl⟩
set_option maxHeartbeats 400000 in
theorem fac_let {rb:Nat} {x:RX} {cs:Sch} {sz:Int} {r:DH} {o:Nat} {t:ByteArray} {c:Int} {n:Int} (ht:bl t=[c]) (h1:97≤c) (h2:c≤122) (hC:∀ w,RP w rb x cs sz r→Calls Tryz.prog 108 #[.pointer (some ⟨rb,0,none⟩),.int .i64 o,.int .u8 c] w fun e w'=>e=.returned (.int .i64 n)∧∃ n,w'=w.drewN n):CSu rb x cs sz r o 130 t n:=by
 intro w h
 obtain ⟨hz,hx⟩:=bl_head ht
 have hx0:=nextB_at hz
 rw [hx] at hx0
 have q40:(c==40)=false:=by simp; omega
 have A:=fun W:World=>among_any c 97 122 W true (by simp; omega)
 have C:=hC w h
 clear ht hx hC h
 go_enter Tryz.func130,Tryz.ntmps130
 go_wp2_with fail
 refine (A _).mono ?_
 rintro e w' ⟨rfl,rfl⟩
 clear A
 go_wp2_with fail
 refine C.mono ?_
 rintro e w2 ⟨rfl,k,rfl⟩
 go_wp2
 go_ret
 exact ⟨rfl,_,rfl⟩
set_option maxHeartbeats 400000 in
theorem fac_par {rb:Nat} {x:RX} {cs:Sch} {sz:Int} {r:DH} {o:Nat} {t:ByteArray} {n:Int} (hx:nextB t 0=40) (hz:2≤t.size) (hm:t.size≤1000) (hS:CSu rb x cs sz r o 106 (t.extract 1 (t.size - 1)) n):CSu rb x cs sz r o 130 t n:=by
 intro w h
 have h0:0 < t.size:=by omega
 have hx0:=nextB_at h0
 rw [hx] at hx0
 have C:=hS w h
 have e1:((t.size:Int) - 1)=((t.size - 1:Nat):Int):=by omega
 obtain ⟨q,hq⟩:∃ q,q=t.size - 1:=⟨_,rfl⟩
 rw [← hq] at e1 C
 have hq1:1≤q:=by omega
 have hq2:q≤t.size:=by omega
 clear hS h hx hq
 go_enter Tryz.func130,Tryz.ntmps130
 go_wp2_with fail
 refine C.mono ?_
 rintro e w2 ⟨rfl,k,rfl⟩
 go_wp2
 go_ret
 exact ⟨rfl,_,rfl⟩
theorem sum_d {rb:Nat} {x:RX} {cs:Sch} {sz:Int} {r:DH} {o:Nat} {num:Int→Int} (hC:∀ c w,97≤c→c≤122→RP w rb x cs sz r→Calls Tryz.prog 108 #[.pointer (some ⟨rb,0,none⟩),.int .i64 o,.int .u8 c] w fun e w'=>e=.returned (.int .i64 (num c))∧∃ n,w'=w.drewN n) :
  ∀ d l n,SuN num d l n→∀ t:ByteArray,bl t=l→t.size≤1000→CSu rb x cs sz r o 106 t n:=by
 intro d
 induction d with
 | zero=>intro l n h; exact h.elim
 | succ d ih =>
  have fF:∀ l n,FcN num (SuN num d) l n→FlatF l:=fun l n h=>fc_flat (su_flat num d) h
  have hF:∀ l n,FcN num (SuN num d) l n→∀ t:ByteArray,bl t=l→t.size≤1000→CSu rb x cs sz r o 130 t n:=by
   intro l n h t ht hm
   have hz:t.size=l.length:=by rw [← bl_len,ht]
   cases h with
   | nm h h1 h9=>rw [← ht]; exact fac_num (by rw [ht]; exact h) (by omega) (by omega)
   | @lt c h1 h2=>exact fac_let ht h1 h2 fun w h=>hC c w h1 h2 h
   | @par s n h=>exact fac_par (bl_head ht).2 (by rw [hz]; simp) hm (ih s n h _ (bl_mid ht) (by rw [← bl_len,bl_mid ht]; simp at hz; omega))
  have hP:∀ l n,PrN (FcN num (SuN num d)) l n→∀ t:ByteArray,bl t=l→t.size≤1000→CSu rb x cs sz r o 123 t n:=by
   intro l n h
   induction h with
   | one h=>exact fun t ht hm=>prod_one hm (by rw [lastI_lsc,ht]; exact lsc_no (by omega) (by omega) (fF _ _ h).m) (hF _ _ h t ht hm)
   | @more s u n m h g ihp =>
    intro t ht hm
    have hz:t.size=s.length+1+u.length:=by rw [← bl_len,ht]; simp; omega
    refine prod_more hm (by rw [lastI_lsc,ht]; exact lsc_cut (by omega) (by omega) (pr_flat fF h).1 (fF _ _ g).m (.inl rfl)) (by omega) (ihp _ (bl_take ht) ?_) (hF _ _ g _ (bl_rest ht) ?_)
    ·rw [← bl_len,bl_take ht]; omega
    ·rw [← bl_len,bl_rest ht]; omega
  intro l n h
  induction h with
  | one h=>exact fun t ht hm=>sum_one hm (by rw [lastI_lsc,ht]; exact lsc_no (by omega) (by omega) (pr_flat fF h).2.2.1) (hP _ _ h t ht hm)
  | @more s u n m c hc h g ihs =>
   intro t ht hm
   have hz:t.size=s.length+1+u.length:=by rw [← bl_len,ht]; simp; omega
   have hi:s.length < t.size:=by omega
   refine sum_more hm (by rw [lastI_lsc,ht]; exact lsc_cut (by omega) (by omega) (sm_flat (fun s n h=>by have:=pr_flat fF h; exact ⟨this.1,this.2.1⟩) h).1 (pr_flat fF g).2.2.1 hc) hi hc ?_ (ihs _ (bl_take ht) ?_) (hP _ _ g _ (bl_rest ht) ?_)
   ·have:=bl_at hi
    rw [ht,List.getElem?_append_right (Nat.le_refl _),Nat.sub_self] at this
    injection this with this; exact this.symm
   ·rw [← bl_len,bl_take ht]; omega
   ·rw [← bl_len,bl_rest ht]; omega
end Go.Proofs.YtbgilndohccicaaGreatDoor
namespace Go.Proofs.YtbgilndohccicaaGreatDoor
open Go.RowKit
structure GU where
 n:Int
 k:Int
 p:Int
 sa:Int
 sm:Bool
 bg:Bool
 su:ByteArray
def GU.cells (g:GU):List Value:=[.int .u8 g.n,.int .u8 g.k,.int .i64 g.p,.int .i64 g.sa,.bool g.sm,.bool g.bg,.string g.su]
def sumOf (t:ByteArray):ByteArray:=t.extract 4 t.size
def cutOf (t:ByteArray):ByteArray:=(sumOf t).extract 0 ((sumOf t).size - 1)
def bangB (t:ByteArray):Bool:=decide (0 < (sumOf t).size) && (nextB (sumOf t) ((sumOf t).size - 1)==33)
def fieldU (t:ByteArray) (p:Int):Option GU :=
 if t.size < 3 then none
 else if (decide (97≤nextB t 0) && decide (nextB t 0≤122))=false then none
 else if (nextB t 1==58)=false then none
 else if isKindB (nextB t 2)=false then none
 else if t.size=3 then some ⟨nextB t 0,nextB t 2,p,0,false,false,⟨#[]⟩⟩
 else if (nextB t 3==61)=false then none
 else if bangB t=true then (if sumB (cutOf t) 6=true then some ⟨nextB t 0,nextB t 2,p,p+4,true,true,cutOf t⟩ else none)
 else if sumB (sumOf t) 6=true then some ⟨nextB t 0,nextB t 2,p,p+4,true,false,sumOf t⟩ else none
def UPost (R:Option GU) (w:World) (e:Ending) (w':World):Prop:=∃ g:GU,
 e=.returned (.tuple #[.agg g.cells.toArray,.bool R.isSome])∧(∀ r,R=some r→g=r)∧Below w.heap.size w w'
def zU:GU:=⟨0,0,0,0,false,false,⟨#[]⟩⟩
set_option maxHeartbeats 400000 in
set_option maxRecDepth 20000 in
theorem ufield_short (t:ByteArray) (p:Int) (w:World) (hs:t.size < 3) :
  Calls Tryz.prog 125 #[.string t,.int .i64 p,.bool true] w (UPost none w):=by
 go_enter Tryz.func125,Tryz.ntmps125
 go_wp2
 refine bodyPost_ret (v:=.tuple #[.agg zU.cells.toArray,.bool false]) (by simp [results,Tryz.results125,go_sem,zU,GU.cells]) rfl ⟨zU,rfl,(fun r h=>by cases h),?_⟩
 exact ((Below.refl _ _).alloc (Nat.le_refl _) _).alloc (by simp) _
set_option maxHeartbeats 400000 in
set_option maxRecDepth 20000 in
theorem ufield_letter (t:ByteArray) (p:Int) (w:World) (hs:3≤t.size) (h0:(decide (97≤nextB t 0) && decide (nextB t 0≤122))=false) :
  Calls Tryz.prog 125 #[.string t,.int .i64 p,.bool true] w (UPost none w):=by
 have x0:=nextB_at (show 0 < t.size by omega)
 go_enter Tryz.func125,Tryz.ntmps125
 go_wp2_with (go_at_call 110; refine (among_any _ _ _ _ false h0).mono ?_; rintro e w' ⟨rfl,rfl⟩)
 refine bodyPost_ret (v:=.tuple #[.agg zU.cells.toArray,.bool false]) (by simp [results,Tryz.results125,go_sem,zU,GU.cells]) rfl ⟨zU,rfl,(fun r h=>by cases h),?_⟩
 exact ((Below.refl _ _).alloc (Nat.le_refl _) _).alloc (by simp) _
set_option maxHeartbeats 400000 in
set_option maxRecDepth 20000 in
theorem ufield_colon (t:ByteArray) (p:Int) (w:World) (hs:3≤t.size) (h0:(decide (97≤nextB t 0) && decide (nextB t 0≤122))=true) (h1:(nextB t 1==58)=false) :
  Calls Tryz.prog 125 #[.string t,.int .i64 p,.bool true] w (UPost none w):=by
 have x0:=nextB_at (show 0 < t.size by omega)
 have x1:=nextB_at (show 1 < t.size by omega)
 have h1n:(nextB t 1 != 58)=true:=by simpa using h1
 go_enter Tryz.func125,Tryz.ntmps125
 go_wp2_with (go_at_call 110; refine (among_any _ _ _ _ true h0).mono ?_; rintro e w' ⟨rfl,rfl⟩)
 refine bodyPost_ret (v:=.tuple #[.agg zU.cells.toArray,.bool false]) (by simp [results,Tryz.results125,go_sem,zU,GU.cells]) rfl ⟨zU,rfl,(fun r h=>by cases h),?_⟩
 exact ((Below.refl _ _).alloc (Nat.le_refl _) _).alloc (by simp) _
set_option maxHeartbeats 400000 in
set_option maxRecDepth 20000 in
theorem ufield_kind (t:ByteArray) (p:Int) (w:World) (hs:3≤t.size) (h0:(decide (97≤nextB t 0) && decide (nextB t 0≤122))=true) (h1:nextB t 1=58) (h2:isKindB (nextB t 2)=false) :
  Calls Tryz.prog 125 #[.string t,.int .i64 p,.bool true] w (UPost none w):=by
 have x0:=nextB_at (show 0 < t.size by omega)
 have x1:=nextB_at (show 1 < t.size by omega)
 have x2:=nextB_at (show 2 < t.size by omega)
 rw [h1] at x1
 simp only [isKindB,Bool.or_eq_false_iff] at h2
 obtain ⟨⟨⟨⟨k1,k2⟩,k3⟩,k4⟩,k5⟩:=h2
 have n1:(nextB t 2 != 98)=true:=by simpa using k1
 have n2:(nextB t 2 != 104)=true:=by simpa using k2
 have n3:(nextB t 2 != 119)=true:=by simpa using k3
 have n4:(nextB t 2 != 108)=true:=by simpa using k4
 have n5:(nextB t 2 != 114)=true:=by simpa using k5
 go_enter Tryz.func125,Tryz.ntmps125
 go_wp2_with (go_at_call 110; refine (among_any _ _ _ _ true h0).mono ?_; rintro e w' ⟨rfl,rfl⟩)
 refine bodyPost_ret (v:=.tuple #[.agg zU.cells.toArray,.bool false]) (by simp [results,Tryz.results125,go_sem,zU,GU.cells]) rfl ⟨zU,rfl,(fun r h=>by cases h),?_⟩
 exact ((Below.refl _ _).alloc (Nat.le_refl _) _).alloc (by simp) _
theorem kind_cases {x:Int} (h:isKindB x=true):x=98∨x=104∨x=119∨x=108∨x=114:=by
 simp only [isKindB,Bool.or_eq_true,beq_iff_eq] at h; omega
set_option maxHeartbeats 1000000 in
set_option maxRecDepth 20000 in
theorem ufield_three (t:ByteArray) (p:Int) (w:World) (hs:t.size=3) (h0:(decide (97≤nextB t 0) && decide (nextB t 0≤122))=true) (h1:nextB t 1=58) (h2:isKindB (nextB t 2)=true) :
  Calls Tryz.prog 125 #[.string t,.int .i64 p,.bool true] w (UPost (some ⟨nextB t 0,nextB t 2,p,0,false,false,⟨#[]⟩⟩) w):=by
 have x0:=nextB_at (show 0 < t.size by omega)
 have x1:=nextB_at (show 1 < t.size by omega)
 have x2:=nextB_at (show 2 < t.size by omega)
 rw [h1] at x1
 rcases kind_cases h2 with k | k | k | k | k
 all_goals
  rw [k] at x2
  go_enter Tryz.func125,Tryz.ntmps125
  go_wp2_with (go_at_call 110; refine (among_any _ _ _ _ true h0).mono ?_; rintro e w' ⟨rfl,rfl⟩)
  refine bodyPost_ret (v:=.tuple #[.agg (GU.cells ⟨nextB t 0,nextB t 2,p,0,false,false,⟨#[]⟩⟩).toArray,.bool true]) (by simp [results,Tryz.results125,go_sem,GU.cells,k]) rfl ⟨_,rfl,(fun r h=>by cases h; rfl),?_⟩
  with_reducible repeat first | exact Below.refl _ _ | (refine Below.setU ?_ (by omega) _) | (refine Below.alloc ?_ (by simp) _)
set_option maxHeartbeats 2000000 in
set_option maxRecDepth 20000 in
theorem ufield_noeq (t:ByteArray) (p:Int) (w:World) (hs:3 < t.size) (hm:t.size≤1000) (h0:(decide (97≤nextB t 0) && decide (nextB t 0≤122))=true) (h1:nextB t 1=58) (h2:isKindB (nextB t 2)=true) (h3:(nextB t 3==61)=false) :
  Calls Tryz.prog 125 #[.string t,.int .i64 p,.bool true] w (UPost none w):=by
 have x0:=nextB_at (show 0 < t.size by omega)
 have x1:=nextB_at (show 1 < t.size by omega)
 have x2:=nextB_at (show 2 < t.size by omega)
 have x3:=nextB_at (show 3 < t.size by omega)
 have h3n:(nextB t 3 != 61)=true:=by simpa using h3
 have hs3:((t.size:Int)==3)=false:=by simp; omega
 rw [h1] at x1
 rcases kind_cases h2 with k | k | k | k | k
 all_goals
  rw [k] at x2
  go_enter Tryz.func125,Tryz.ntmps125
  go_wp2_with (go_at_call 110; refine (among_any _ _ _ _ true h0).mono ?_; rintro e w' ⟨rfl,rfl⟩)
  refine bodyPost_ret (v:=.tuple #[.agg (GU.cells ⟨nextB t 0,nextB t 2,p,0,false,false,⟨#[]⟩⟩).toArray,.bool false]) (by simp [results,Tryz.results125,go_sem,GU.cells,k]) rfl ⟨_,rfl,(fun r h=>by cases h),?_⟩
  with_reducible repeat first | exact Below.refl _ _ | (refine Below.setU ?_ (by omega) _) | (refine Below.alloc ?_ (by simp) _)
end Go.Proofs.YtbgilndohccicaaGreatDoor
namespace Go.Proofs.YtbgilndohccicaaGreatDoor
open Go.RowKit
set_option maxHeartbeats 2000000 in
set_option maxRecDepth 20000 in
theorem ufield_sum (t:ByteArray) (p:Int) (w:World) (hs:3 < t.size) (hm:t.size≤1000) (hp:0≤p) (hp':p≤1000) (h0:(decide (97≤nextB t 0) && decide (nextB t 0≤122))=true) (h1:nextB t 1=58) (h2:isKindB (nextB t 2)=true) (h3:nextB t 3=61) (h4:bangB t=false) :
  Calls Tryz.prog 125 #[.string t,.int .i64 p,.bool true] w (UPost (if sumB (sumOf t) 6=true then some ⟨nextB t 0,nextB t 2,p,p+4,true,false,sumOf t⟩ else none) w):=by
 have x0:=nextB_at (show 0 < t.size by omega)
 have x1:=nextB_at (show 1 < t.size by omega)
 have x2:=nextB_at (show 2 < t.size by omega)
 have x3:=nextB_at (show 3 < t.size by omega)
 have hs3:((t.size:Int)==3)=false:=by simp; omega
 have hz:(sumOf t).size=t.size - 4:=by unfold sumOf; rw [ByteArray.size_extract]; omega
 have SB:=isSum_any (sumOf t) 6
 rw [h1] at x1
 rw [h3] at x3
 have hsu:t.extract 4 t.size=sumOf t:=rfl
 obtain ⟨u,hu⟩:∃ u,u=sumOf t:=⟨_,rfl⟩
 have hbg:bangB t=(decide (0 < u.size) && (nextB u (u.size - 1)==33)):=by rw [hu]; rfl
 rw [hbg] at h4
 rw [← hu] at hz SB hsu ⊢
 clear hu hbg
 obtain ⟨y,hy⟩:∃ y,y=sumB u 6:=⟨_,rfl⟩
 rw [← hy] at SB ⊢
 obtain ⟨Q,hQ⟩:∃ Q,Q=(if y=true then some (⟨nextB t 0,nextB t 2,p,p+4,true,false,u⟩:GU) else none):=⟨_,rfl⟩
 rw [← hQ]
 have HR:Hid (Q=(if y=true then some (⟨nextB t 0,nextB t 2,p,p+4,true,false,u⟩:GU) else none)):=hQ
 clear hQ
 have hzu:u.size≤1000:=by omega
 have SB':∀ W:World,Calls Tryz.prog 135 #[.string u,.int .i64 6] W fun e w'=>e=.returned (.bool y)∧w'=W:=fun W=>SB W hzu (by decide)
 clear SB hy
 by_cases he:4 < t.size
 ·have hz5:0 < u.size:=by omega
  have hne:u.toList.isEmpty=false:=by rw [empty_size]; exact decide_eq_false (by omega)
  have hlt:u.size - 1 < u.size:=by omega
  have xl:=nextB_at hlt
  have h4':(nextB u (u.size - 1)==33)=false:=by
   rw [decide_eq_true hz5,Bool.true_and] at h4; exact h4
  clear h4 hz
  rcases kind_cases h2 with k | k | k | k | k
  all_goals
   rw [k] at x2
   go_enter Tryz.func125,Tryz.ntmps125
   go_wp2_with (go_at_call 110; refine (among_any _ _ _ _ true h0).mono ?_; rintro e w' ⟨rfl,rfl⟩)
   refine (SB' _).mono ?_
   rintro e w' ⟨rfl,rfl⟩
   go_wp2
   refine bodyPost_ret (v:=.tuple #[.agg (GU.cells ⟨nextB t 0,nextB t 2,p,p+4,true,false,u⟩).toArray,.bool y]) (by simp [results,Tryz.results125,go_sem,GU.cells,k]) rfl ⟨_,by rw [HR.out]; cases y <;> rfl,(fun r h=>by rw [HR.out] at h; cases y <;> simp at h; exact h),?_⟩
   with_reducible repeat first | exact Below.refl _ _ | (refine Below.setU ?_ (by omega) _) | (refine Below.alloc ?_ (by simp) _)
 ·have hne:u.toList.isEmpty=true:=by rw [empty_size]; exact decide_eq_true (by omega)
  clear h4
  rcases kind_cases h2 with k | k | k | k | k
  all_goals
   rw [k] at x2
   go_enter Tryz.func125,Tryz.ntmps125
   go_wp2_with (go_at_call 110; refine (among_any _ _ _ _ true h0).mono ?_; rintro e w' ⟨rfl,rfl⟩)
   refine (SB' _).mono ?_
   rintro e w' ⟨rfl,rfl⟩
   go_wp2
   refine bodyPost_ret (v:=.tuple #[.agg (GU.cells ⟨nextB t 0,nextB t 2,p,p+4,true,false,u⟩).toArray,.bool y]) (by simp [results,Tryz.results125,go_sem,GU.cells,k]) rfl ⟨_,by rw [HR.out]; cases y <;> rfl,(fun r h=>by rw [HR.out] at h; cases y <;> simp at h; exact h),?_⟩
   with_reducible repeat first | exact Below.refl _ _ | (refine Below.setU ?_ (by omega) _) | (refine Below.alloc ?_ (by simp) _)
end Go.Proofs.YtbgilndohccicaaGreatDoor
namespace Go.Proofs.YtbgilndohccicaaGreatDoor
open Go.RowKit
set_option maxHeartbeats 2000000 in
set_option maxRecDepth 20000 in
theorem ufield_bang (t:ByteArray) (p:Int) (w:World) (hs:3 < t.size) (hm:t.size≤1000) (hp:0≤p) (hp':p≤1000) (h0:(decide (97≤nextB t 0) && decide (nextB t 0≤122))=true) (h1:nextB t 1=58) (h2:isKindB (nextB t 2)=true) (h3:nextB t 3=61) (h4:bangB t=true) :
  Calls Tryz.prog 125 #[.string t,.int .i64 p,.bool true] w (UPost (if sumB (cutOf t) 6=true then some ⟨nextB t 0,nextB t 2,p,p+4,true,true,cutOf t⟩ else none) w):=by
 have x0:=nextB_at (show 0 < t.size by omega)
 have x1:=nextB_at (show 1 < t.size by omega)
 have x2:=nextB_at (show 2 < t.size by omega)
 have x3:=nextB_at (show 3 < t.size by omega)
 have hs3:((t.size:Int)==3)=false:=by simp; omega
 have hz:(sumOf t).size=t.size - 4:=by unfold sumOf; rw [ByteArray.size_extract]; omega
 have SB:=isSum_any (cutOf t) 6
 rw [h1] at x1
 rw [h3] at x3
 have hsu:t.extract 4 t.size=sumOf t:=rfl
 obtain ⟨u,hu⟩:∃ u,u=sumOf t:=⟨_,rfl⟩
 have hbg:bangB t=(decide (0 < u.size) && (nextB u (u.size - 1)==33)):=by rw [hu]; rfl
 have hcu:u.extract 0 (u.size - 1)=cutOf t:=by rw [hu]; rfl
 rw [hbg,Bool.and_eq_true,decide_eq_true_eq] at h4
 rw [← hu] at hz hsu
 clear hu hbg
 obtain ⟨c,hc⟩:∃ c,c=cutOf t:=⟨_,rfl⟩
 rw [← hc] at SB hcu ⊢
 have hzc:c.size≤1000:=by rw [← hcu,ByteArray.size_extract]; omega
 clear hc
 obtain ⟨y,hy⟩:∃ y,y=sumB c 6:=⟨_,rfl⟩
 rw [← hy] at SB ⊢
 obtain ⟨Q,hQ⟩:∃ Q,Q=(if y=true then some (⟨nextB t 0,nextB t 2,p,p+4,true,true,c⟩:GU) else none):=⟨_,rfl⟩
 rw [← hQ]
 have HR:Hid (Q=(if y=true then some (⟨nextB t 0,nextB t 2,p,p+4,true,true,c⟩:GU) else none)):=hQ
 clear hQ
 have SB':∀ W:World,Calls Tryz.prog 135 #[.string c,.int .i64 6] W fun e w'=>e=.returned (.bool y)∧w'=W:=fun W=>SB W hzc (by decide)
 clear SB hy
 obtain ⟨hz5,h4'⟩:=h4
 ·have hne:u.toList.isEmpty=false:=by rw [empty_size]; exact decide_eq_false (by omega)
  have hlt:u.size - 1 < u.size:=by omega
  have xl:=nextB_at hlt
  have h4n:nextB u (u.size - 1)=33:=by simpa using h4'
  rw [h4n] at xl
  have hzu:u.size≤1000:=by omega
  clear h4' h4n hz
  rcases kind_cases h2 with k | k | k | k | k
  all_goals
   rw [k] at x2
   go_enter Tryz.func125,Tryz.ntmps125
   go_wp2_with (go_at_call 110; refine (among_any _ _ _ _ true h0).mono ?_; rintro e w' ⟨rfl,rfl⟩)
   refine (SB' _).mono ?_
   rintro e w' ⟨rfl,rfl⟩
   go_wp2
   refine bodyPost_ret (v:=.tuple #[.agg (GU.cells ⟨nextB t 0,nextB t 2,p,p+4,true,true,c⟩).toArray,.bool y]) (by simp [results,Tryz.results125,go_sem,GU.cells,k]) rfl ⟨_,by rw [HR.out]; cases y <;> rfl,(fun r h=>by rw [HR.out] at h; cases y <;> simp at h; exact h),?_⟩
   with_reducible repeat first | exact Below.refl _ _ | (refine Below.setU ?_ (by omega) _) | (refine Below.alloc ?_ (by simp) _)
end Go.Proofs.YtbgilndohccicaaGreatDoor
namespace Go.Proofs.YtbgilndohccicaaGreatDoor
open Go.RowKit
theorem ufield_any (t:ByteArray) (p:Int) (w:World) (hm:t.size≤1000) (hp:0≤p) (hp':p≤1000) :
  Calls Tryz.prog 125 #[.string t,.int .i64 p,.bool true] w (UPost (fieldU t p) w):=by
 unfold fieldU
 by_cases h:t.size < 3
 ·rw [if_pos h]; exact ufield_short t p w h
 rw [if_neg h]
 cases h0:(decide (97≤nextB t 0) && decide (nextB t 0≤122)) with
 | false=>rw [if_pos rfl]; exact ufield_letter t p w (by omega) h0
 | true =>
  rw [if_neg (by decide)]
  cases h1:(nextB t 1==58) with
  | false=>rw [if_pos rfl]; exact ufield_colon t p w (by omega) h0 h1
  | true =>
   have h1':nextB t 1=58:=by simpa using h1
   rw [if_neg (by decide)]
   cases h2:isKindB (nextB t 2) with
   | false=>rw [if_pos rfl]; exact ufield_kind t p w (by omega) h0 h1' h2
   | true =>
    rw [if_neg (by decide)]
    by_cases h3:t.size=3
    ·rw [if_pos h3]; exact ufield_three t p w h3 h0 h1' h2
    ·rw [if_neg h3]
     cases h4:(nextB t 3==61) with
     | false=>rw [if_pos rfl]; exact ufield_noeq t p w (by omega) hm h0 h1' h2 h4
     | true =>
      have h4':nextB t 3=61:=by simpa using h4
      rw [if_neg (by decide)]
      cases h5:bangB t with
      | true=>rw [if_pos rfl]; exact ufield_bang t p w (by omega) hm hp hp' h0 h1' h2 h4' h5
      | false=>rw [if_neg (by decide)]; exact ufield_sum t p w (by omega) hm hp hp' h0 h1' h2 h4' h5
end Go.Proofs.YtbgilndohccicaaGreatDoor
