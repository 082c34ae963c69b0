import Derived.Test.YtbgilndohccicaaGreatDoorBz41
import Derived.Deep.CutRange
import Derived.Test.YtbgilndohccicaaGreatDoorBz40
namespace Go.Proofs.YtbgilndohccicaaGreatDoor
open Go.RowKit
set_option maxHeartbeats 400000 in
theorem wrapF_any (k v:Int) (w:World) :
  Calls Tryz.prog 76 #[.int .u8 k,.int .i64 v] w fun e w'=>e=.returned (.int .i64 (wrK k v))∧w'=w:=by
 by_cases k1:k=98
 ·have e:wrK k v=v % 256:=by unfold wrK; rw [if_pos k1]
  rw [e]; subst k1; clear e
  go_enter Tryz.func76,Tryz.ntmps76
  go_wp2
  go_ret
  exact ⟨rfl,rfl⟩
 by_cases k2:k=104
 ·have e:wrK k v=(v+32768) % 65536 - 32768:=by unfold wrK; rw [if_neg k1,if_pos k2]
  rw [e]; subst k2; clear e k1
  go_enter Tryz.func76,Tryz.ntmps76
  go_wp2
  go_ret
  exact ⟨ret_i64 (by rw [wrap_i16]; unfold wrap64; omega),rfl⟩
 by_cases k3:k=119
 ·have e:wrK k v=(v+2147483648) % 4294967296 - 2147483648:=by unfold wrK; rw [if_neg k1,if_neg k2,if_pos k3]
  rw [e]; subst k3; clear e k1 k2
  go_enter Tryz.func76,Tryz.ntmps76
  go_wp2
  go_ret
  exact ⟨ret_i64 (by unfold wrap64 wrap32; omega),rfl⟩
 ·have e:wrK k v=v:=by unfold wrK; rw [if_neg k1,if_neg k2,if_neg k3]
  have q1:(k==98)=false:=by simpa using k1
  have q2:(k==104)=false:=by simpa using k2
  have q3:(k==119)=false:=by simpa using k3
  rw [e]; clear e
  go_enter Tryz.func76,Tryz.ntmps76
  go_wp2
  go_ret
  exact ⟨rfl,rfl⟩
def kdM (m:PM) (x:Int):Int:=(m.fs[(idxF m.fs x).toNat]?.getD (0,0)).2
def rlM (m:PM) (x:Int):PR:=m.rs[(idxF m.fs x).toNat]?.getD ⟨[],false⟩
def vlM (m:PM) (N:Nat→Int) (x:Int):Int:=top (evP N (rlM m x).ts [])
def numOf (m:PM) (N:Nat→Int) (x:Int):Int×Int :=
 if idxF m.fs x < 0 then (0,5) else if kdM m x=114 then (0,6)
 else if (rlM m x).ex=true∧wrK (kdM m x) (vlM m N x)≠vlM m N x then (0,15) else (wrK (kdM m x) (vlM m N x),0)
theorem TPb.drew {w:World} {base:Nat} {v:Value} {ts:List PT} (h:TPb w base v ts):TPb w.drew base v ts:=h
theorem Rls.cells {w:World} {base:Nat} {v:Value} {us:List (SV×Bool)} {rs:List PR} (h:Rls w base v us rs) {j:Nat} (hj:j < rs.length) :
  ∃ (g cap:Nat) (u:SV) (r:PR),v=.slice (some ⟨g,0,none⟩) rs.length cap∧g < w.heap.size∧rs[j]?=some r∧w.cell? ⟨g,j * 2,none⟩=some (.slice u.a u.n u.c)∧w.cell? ⟨g,j * 2+1,none⟩=some (.bool r.ex)∧TPb w base u.val r.ts:=by
 have h':=h.row
 unfold flatRl at h'
 have hl:=h.len
 rcases h.row.2 with ⟨rfl,hn⟩ | ⟨g,cap,cur,rfl,_,hg,h1,h2,_⟩
 ·omega
 ·have hu:us[j]?=some (us[j]'(by omega)):=List.getElem?_eq_getElem (by omega)
  have hr:rs[j]?=some (rs[j]'hj):=List.getElem?_eq_getElem hj
  obtain ⟨e1,e2⟩:=h.el j _ _ hu hr
  refine ⟨g,cap,_,_,by rw [hl],(World.ownsRow.lt h' g rfl).2,hr,by simpa using row_cell h' (fun _=>rfl) (j:=0) hu rfl,?_,e2⟩
  rw [← e1]; exact row_cell h' (fun _=>rfl) (j:=1) hu rfl
set_option maxHeartbeats 2000000 in
set_option maxRecDepth 20000 in
theorem number_m {p:MV} {m:PM} {us:List (SV×Bool)} {base:Nat} {w:World} (hF:FV w p.f.val m.fs) (hR:Rls w base p.r.val us m.rs) (hlen:m.rs.length=m.fs.length) (hts:∀ r∈m.rs,r.ts.length≤900) (N:Nat→Int) (x:Int) :
  Calls Tryz.prog 83 #[mvV p,.int .u8 x,numV N] w fun e w'=>e=.returned (.tuple #[.int .i64 (numOf m N x).1,.int .i64 (numOf m N x).2])∧Below w.heap.size w w':=by
 obtain ⟨pl,⟨fa,fn,fc⟩,ps,⟨ra,rn,rc⟩⟩:=p
 simp only [SV.val] at hF hR
 obtain ⟨ix,hix⟩:∃ ix,idxF m.fs x=ix:=⟨_,rfl⟩
 obtain ⟨A,hA⟩:∃ A,numOf m N x=A:=⟨_,rfl⟩
 rw [hA]
 have CR:=fun (W:World) (ex:Bool) (u:SV) (r:PR) (hr:r∈m.rs) (h:TPb W base u.val r.ts)=>reckon_any ex N h (hts r hr)
 unfold numV at CR ⊢
 unfold mvV
 simp only []
 obtain ⟨W,hW⟩:∃ W,W=(w.alloc (.cells #[.int .u8 pl,.slice fa fn fc,.int .u8 ps,.slice ra rn rc] 134)).alloc (.cells #[.int .i64 (N 0),.int .i64 (N 1),.int .i64 (N 2),.int .i64 (N 3),.int .i64 (N 4),.int .i64 (N 5)] 49):=⟨_,rfl⟩
 have B0:Below w.heap.size w W:=by rw [hW]; exact ((Below.refl _ _).alloc (Nat.le_refl _) _).alloc (by simp) _
 have z0:W.heap.size=w.heap.size+1+1:=by rw [hW]; simp
 have y0:W.cell? ⟨w.heap.size,0,none⟩=some (.int .u8 pl):=by rw [hW]; go_simp
 have y1:W.cell? ⟨w.heap.size,1,none⟩=some (.slice fa fn fc):=by rw [hW]; go_simp
 have y3:W.cell? ⟨w.heap.size,3,none⟩=some (.slice ra rn rc):=by rw [hW]; go_simp
 have n0:W.cell? ⟨w.heap.size+1,0,none⟩=some (.int .i64 (N 0)):=by rw [hW]; go_simp
 have n1:W.cell? ⟨w.heap.size+1,1,none⟩=some (.int .i64 (N 1)):=by rw [hW]; go_simp
 have n2:W.cell? ⟨w.heap.size+1,2,none⟩=some (.int .i64 (N 2)):=by rw [hW]; go_simp
 have n3:W.cell? ⟨w.heap.size+1,3,none⟩=some (.int .i64 (N 3)):=by rw [hW]; go_simp
 have n4:W.cell? ⟨w.heap.size+1,4,none⟩=some (.int .i64 (N 4)):=by rw [hW]; go_simp
 have n5:W.cell? ⟨w.heap.size+1,5,none⟩=some (.int .i64 (N 5)):=by rw [hW]; go_simp
 have u0:w.heap.size < W.heap.size:=by omega
 have u1:w.heap.size+1 < W.heap.size:=by omega
 have CI:=index_rs (L:=pl) (x:=x) (hF.below B0) ix hix
 by_cases h0:ix < 0
 ·have HA:Hid (A=(0,5)):=by show A=_; rw [← hA]; unfold numOf; rw [hix,if_pos h0]
  clear hA CR hF hR hix
  go_enter Tryz.func83,Tryz.ntmps83
  go_wp2_with fail
  rw [← hW]
  clear hW
  go_wp2_with fail
  refine CI.mono ?_
  rintro e w1 ⟨rfl,B1⟩
  clear CI
  go_wp2
  go_ret2
  rw [HA.out]
  exact ⟨rfl,B0.trans (B1.mono B0.size)⟩
 ·have hlt:=idxF_ltU m.fs x
  rw [hix] at hlt
  obtain ⟨j,rfl⟩:=Int.eq_ofNat_of_zero_le (by omega:0≤ix)
  have hj:j < m.fs.length:=by omega
  obtain ⟨g,cap,hgf,hg,hm,hcc⟩:∃ g cap,Value.slice fa fn fc=.slice (some ⟨g,0,none⟩) m.fs.length cap∧g < w.heap.size∧m.fs.length≤maxLen∧(∀ i,i < m.fs.length→w.cell? ⟨g,i * 2,none⟩=some (.int .u8 (m.fs[i]?.getD (0,0)).1)∧w.cell? ⟨g,i * 2+1,none⟩=some (.int .u8 (m.fs[i]?.getD (0,0)).2)):=by
   rcases hF.shape with ⟨_,h⟩ | h
   ·rw [h] at hj; simp at hj
   ·exact h
  obtain ⟨gr,rcap,u,r,hgr,hgr2,hr,k0,k1,T0⟩:=hR.cells (j:=j) (by omega)
  have hkd:=(hcc j hj).2
  obtain ⟨kd,hkd0⟩:∃ kd,(m.fs[j]?.getD (0,0)).2=kd:=⟨_,rfl⟩
  rw [hkd0] at hkd
  simp only [Value.slice.injEq] at hgf hgr
  obtain ⟨rfl,rfl,rfl⟩:=hgf
  obtain ⟨rfl,rfl,rfl⟩:=hgr
  have ek:kdM m x=kd:=by unfold kdM; rw [hix]; exact hkd0
  have er:rlM m x=r:=by unfold rlM; rw [hix]; show m.rs[j]?.getD _=_; rw [hr]; rfl
  obtain ⟨v,hv⟩:∃ v,vlM m N x=v:=⟨_,rfl⟩
  have hv':top (evP N r.ts [])=v:=by rw [← hv]; unfold vlM; rw [er]
  have hA':(if kd=114 then (0,6) else if r.ex=true∧wrK kd v≠v then (0,15) else (wrK kd v,0))=A:=by
   rw [← hA]; unfold numOf; rw [hix,if_neg h0,ek,er,hv]
  have hmem:r∈m.rs:=List.mem_of_getElem? hr
  have CR':=fun (W:World) (h:TPb W base u.val r.ts)=>CR W r.ex u r hmem h
  rw [hv'] at CR'
  have hlen':m.rs.length=m.fs.length:=hlen
  obtain ⟨n,hn⟩:∃ n,m.fs.length=n:=⟨_,rfl⟩
  rw [hlen'] at y3 hW ⊢
  rw [hn] at y1 y3 hW CI hj hm ⊢
  have hmx:n≤9223372036854775807:=by unfold maxLen at hm; omega
  have HT0:Hid (TPb w base u.val r.ts):=T0
  obtain ⟨ua,un,uc⟩:=u
  simp only [SV.val] at k0 CR'
  have HT:Hid (TPb w base (.slice ua un uc) r.ts):=HT0
  obtain ⟨ex,hex⟩:∃ ex,r.ex=ex:=⟨_,rfl⟩
  obtain ⟨ts,hts0⟩:∃ ts,r.ts=ts:=⟨_,rfl⟩
  rw [hex] at k1 hA' CR'
  rw [hts0] at CR' HT
  have HA':Hid ((if kd=114 then (0,6) else if ex=true∧wrK kd v≠v then (0,15) else (wrK kd v,0))=A):=hA'
  clear hA hA' hv hv' ek er hr hmem CR hts hF hR hcc hkd0 hix hlt T0 HT0 hex hts0 hlen hlen' hn hm
  have hjn:(j:Int) < (n:Int):=by omega
  go_enter Tryz.func83,Tryz.ntmps83
  go_wp2_with fail
  rw [← hW]
  clear hW
  go_wp2_with fail
  refine CI.mono ?_
  rintro e w1 ⟨rfl,B1⟩
  clear CI
  have BW1:Below w.heap.size w w1:=B0.trans (B1.mono B0.size)
  have s1:=B1.size
  have a1:=(B1.cell (p:=⟨w.heap.size,1,none⟩) u0).trans y1
  have a3:=(B1.cell (p:=⟨w.heap.size,3,none⟩) u0).trans y3
  have m0:=(B1.cell (p:=⟨w.heap.size+1,0,none⟩) u1).trans n0
  have m1:=(B1.cell (p:=⟨w.heap.size+1,1,none⟩) u1).trans n1
  have m2:=(B1.cell (p:=⟨w.heap.size+1,2,none⟩) u1).trans n2
  have m3:=(B1.cell (p:=⟨w.heap.size+1,3,none⟩) u1).trans n3
  have m4:=(B1.cell (p:=⟨w.heap.size+1,4,none⟩) u1).trans n4
  have m5:=(B1.cell (p:=⟨w.heap.size+1,5,none⟩) u1).trans n5
  have f1:=(BW1.cell (p:=⟨g,j * 2+1,none⟩) hg).trans hkd
  have r0:=(BW1.cell (p:=⟨gr,j * 2,none⟩) hgr2).trans k0
  have r1:=(BW1.cell (p:=⟨gr,j * 2+1,none⟩) hgr2).trans k1
  have t0:w.heap.size < w1.heap.size:=by omega
  have t1:w.heap.size+1 < w1.heap.size:=by omega
  have t2:g < w1.heap.size:=by omega
  have t3:gr < w1.heap.size:=by omega
  clear y0 y1 y3 n0 n1 n2 n3 n4 n5 hkd k0 k1
  by_cases h114:kd=114
  ·have HA:Hid (A=(0,6)):=by show A=_; rw [← HA'.out,if_pos h114]
   subst h114
   clear CR'
   go_wp2
   go_ret2
   rw [HA.out]
   exact ⟨rfl,BW1⟩
  ·have HA:Hid ((if ex=true∧wrK kd v≠v then (0,15) else (wrK kd v,0))=A):=by show _=A; rw [← HA'.out,if_neg h114]
   have e114:(kd==114)=false:=by simp [h114]
   have C:=CR' w1.drew (TPb.drew (World.ownsRow.kept HT.out (gb_below (BW1.mono (Nat.le_refl _)) none) (by cases hv:(Value.slice ua un uc).ownBlock <;> simp)))
   clear h114 CR' HA'
   go_wp2
   go_region_with (go_at_call 105; refine C.mono ?_; rintro e w2 ⟨rfl,B2⟩)
   all_goals
    have B3:Below w1.heap.size w1 w2:=(Below.refl _ w1).drew.trans B2
    have BW3:Below w.heap.size w w2:=BW1.trans (B3.mono BW1.size)
    have s3:=B3.size
    have b3:=(B3.cell (p:=⟨w.heap.size,3,none⟩) t0).trans a3
    have q1:=(B3.cell (p:=⟨gr,j * 2+1,none⟩) t3).trans r1
    have t4:w.heap.size < w2.heap.size:=by omega
    have t5:gr < w2.heap.size:=by omega
    have CW:=wrapF_any kd v w2
    obtain ⟨wv,hwv⟩:∃ wv,wrK kd v=wv:=⟨_,rfl⟩
    rw [hwv] at CW HA
    clear C B2 B3 a1 a3 m0 m1 m2 m3 m4 m5 f1 r0 r1
    go_wp2_with fail
    refine CW.mono ?_
    rintro e w2' ⟨rfl,rfl⟩
    clear CW
    cases ex with
    | false =>
     have HA2:Hid ((wv,0)=A):=by have:=HA.out; rw [if_neg (by simp)] at this; exact this
     go_wp2
     go_ret2
     rw [← HA2.out]
     exact ⟨rfl,BW3⟩
    | true =>
     by_cases hne:wv=v
     ·have HA2:Hid ((wv,0)=A):=by have:=HA.out; rw [if_neg (by simp [hne])] at this; exact this
      have e1:(wv != v)=false:=by simp [hne]
      clear hne
      go_wp2
      go_ret2
      rw [← HA2.out]
      exact ⟨rfl,BW3⟩
     ·have HA2:Hid ((0,15)=A):=by have:=HA.out; rw [if_pos ⟨rfl,hne⟩] at this; exact this
      have e1:(wv != v)=true:=by simp [hne]
      clear hne
      go_wp2
      go_ret2
      rw [← HA2.out]
      exact ⟨rfl,BW3⟩
end Go.Proofs.YtbgilndohccicaaGreatDoor
namespace Go.Proofs.YtbgilndohccicaaGreatDoor
open Go.RowKit
def pkI (p:PH) (ms:List PM) (root x:Int):Int×Int :=
 if p.N 201 0=0 then (0,12) else if (heldI p.R root).2≠0 then (0,(heldI p.R root).2)
 else match findPM ms (p.K (heldI p.R root).1) with
  | none=>(0,4)
  | some m=>numOf m (p.N (heldI p.R root).1) x
structure MOK (ms:List PM):Prop where
 len:∀ m∈ms,m.rs.length=m.fs.length
 ts:∀ m∈ms,∀ r∈m.rs,r.ts.length≤900
theorem findPM_mem {ms:List PM} {x:Int} {m:PM} (h:findPM ms x=some m):m∈ms:=by
 unfold findPM at h
 split at h
 ·cases h
 ·exact List.mem_of_find?_eq_some h
theorem FVb.fv' {w:World} {base:Nat} {v:Value} {fs:List (Int×Int)} (h:FVb w base v fs):FV w v fs:=row_mono h (Nat.zero_le _)
theorem Mks.drew {w:World} {base:Nat} {v:Value} {vs:List MV} {ms:List PM} (h:Mks w base v vs ms):Mks w.drew base v vs ms:=h.below (Below.refl _ _).drew
theorem Mks.alloc {w:World} {base:Nat} {v:Value} {vs:List MV} {ms:List PM} (h:Mks w base v vs ms) (o:Obj):Mks (w.alloc o) base v vs ms:=h.below ((Below.refl _ _).alloc (Nat.le_refl _) _)
structure MB (w:World) (b:Nat) (x y z t:Value):Prop where
 c0:w.cell? ⟨b,0,none⟩=some x
 c1:w.cell? ⟨b,1,none⟩=some y
 c2:w.cell? ⟨b,2,none⟩=some z
 c3:w.cell? ⟨b,3,none⟩=some t
 lt:b < w.heap.size
theorem MB.new (w:World) (x y z t:Value) (T:TypeId):MB (w.alloc (.cells #[x,y,z,t] T)) w.heap.size x y z t:=⟨by go_simp,by go_simp,by go_simp,by go_simp,by simp⟩
theorem MB.set {w:World} {b:Nat} {x0 y0 z0 t0:Value} (x y z t:Value) (q0:w.cell? ⟨b,0,none⟩=some x0) (q1:w.cell? ⟨b,1,none⟩=some y0) (q2:w.cell? ⟨b,2,none⟩=some z0) (q3:w.cell? ⟨b,3,none⟩=some t0) :
  MB ((((w.setCell ⟨b,0,none⟩ x).setCell ⟨b,1,none⟩ y).setCell ⟨b,2,none⟩ z).setCell ⟨b,3,none⟩ t) b x y z t:=by
 have hb:b < w.heap.size:=World.block_lt_of_cell? w ⟨b,0,none⟩ q0
 exact ⟨by go_simp,by go_simp,by go_simp,by go_simp,by simpa [World.setCell] using hb⟩
set_option maxHeartbeats 4000000 in
set_option maxRecDepth 20000 in
theorem peek_any (hb:Nat) (sv:SV) (sz:Int) (p:PH) (w:World) (h:HP w hb sv sz p.R p.K p.N p.F) (hR:∀ i,i < 8→p.R i < 201) {base:Nat} {vs:List MV} {ms:List PM} (hU:p.N 201 0≠0→Mks w base (updV p.N) vs ms∧MOK ms) (root x:Int) :
  Calls Tryz.prog 46 #[.pointer (some ⟨hb,0,none⟩),.int .i64 root,.int .u8 x] w fun e w'=>e=.returned (.tuple #[.int .i64 (pkI p ms root x).1,.int .i64 (pkI p ms root x).2])∧Below w.heap.size w w':=by
 have hbl:=h.lt
 obtain ⟨A,hA⟩:∃ A,pkI p ms root x=A:=⟨_,rfl⟩
 rw [hA]
 unfold pkI at hA
 have cp:=h.pend
 by_cases h0:p.N 201 0=0
 ·have HA:Hid (A=(0,12)):=by show A=_; rw [← hA,if_pos h0]
  rw [decide_eq_false (by simpa using h0)] at cp
  clear hA hU h0
  go_enter Tryz.func46,Tryz.ntmps46
  go_wp2
  go_ret2
  rw [HA.out]
  exact ⟨rfl,Below.refl _ _⟩
 ·rw [decide_eq_true h0] at cp
  rw [if_neg h0] at hA
  obtain ⟨U,OK⟩:=hU h0
  have CH:=held_any hb sv sz p.R p.K p.N p.F w h root
  obtain ⟨n,e0,hh⟩:∃ n e0,heldI p.R root=(n,e0):=⟨_,_,rfl⟩
  rw [hh] at CH hA
  simp only [] at CH hA
  by_cases he:e0=0
  ·have hn:n < 201:=by
    unfold heldI at hh
    split at hh
    ·injection hh with h1 h2; omega
    ·split at hh
     ·injection hh with h1 h2; omega
     ·rename_i q1 q2
      injection hh with h1 h2
      rw [← h1]
      exact hR _ (by
       cases hq:rtB root with
       | false=>exact absurd hq q1
       | true=>obtain ⟨r,rfl,hr⟩:=rtB_nat hq; simpa using hr)
   subst he
   rw [if_neg (by decide)] at hA
   have cu:=h.upd
   have ck:=h.cls n hn
   have m0:=h.num n 0 hn (by omega)
   have m1:=h.num n 1 hn (by omega)
   have m2:=h.num n 2 hn (by omega)
   have m3:=h.num n 3 hn (by omega)
   have m4:=h.num n 4 hn (by omega)
   have m5:=h.num n 5 hn (by omega)
   have hi:(0:Int)≤(n:Int)∧(n:Int) < 201:=by omega
   obtain ⟨ua,un,uc,hu⟩:∃ a n c,updV p.N=.slice a n c:=⟨_,_,_,rfl⟩
   rw [hu] at cu U
   obtain ⟨K,hK⟩:∃ K,p.K n=K:=⟨_,rfl⟩
   rw [hK] at ck hA
   have CF:=fun (W:World) (hW:Mks W base (.slice ua un uc) vs ms)=>ufind_any hW K
   obtain ⟨q,hq⟩:∃ q,(findMV vs K).getD zMV=q:=⟨_,rfl⟩
   obtain ⟨y,hy⟩:∃ y,(findMV vs K).isSome=y:=⟨_,rfl⟩
   rw [hq,hy] at CF
   have HQ0:Hid (y=false→A=(0,4)):=by
    intro hy0
    rcases U.find K with ⟨f1,f2⟩ | ⟨p',m,f1,f2,f3,f4,us,f5⟩
    ·rw [f2] at hA; exact hA.symm
    ·rw [f1] at hy; rw [← hy] at hy0; simp at hy0
   have HQ1:Hid (y=true→∃ m us,A=numOf m (p.N n) x∧FV w q.f.val m.fs∧Rls w base q.r.val us m.rs∧m∈ms):=by
    intro hy0
    rcases U.find K with ⟨f1,f2⟩ | ⟨p',m,f1,f2,f3,f4,us,f5⟩
    ·rw [f1] at hy; rw [← hy] at hy0; simp at hy0
    ·rw [f1] at hq; rw [f2] at hA
     have:p'=q:=hq
     subst this
     exact ⟨m,us,hA.symm,FVb.fv' f4,f5,findPM_mem f2⟩
   have CN:=fun (W:World) (m:PM) (us:List (SV×Bool)) (h1:FV W q.f.val m.fs) (h2:Rls W base q.r.val us m.rs) (h3:m∈ms)=>number_m h1 h2 (OK.len m h3) (OK.ts m h3) (p.N n) x
   clear hA hq hy hu OK hh hK h hU h0 hR
   obtain ⟨ql,⟨fa,fn,fc⟩,qs,⟨ra,rn,rc⟩⟩:=q
   unfold mvV at CF CN
   unfold numV at CN
   simp only [] at CF CN
   generalize p.N n 0=N0 at m0 CN
   generalize p.N n 1=N1 at m1 CN
   generalize p.N n 2=N2 at m2 CN
   generalize p.N n 3=N3 at m3 CN
   generalize p.N n 4=N4 at m4 CN
   generalize p.N n 5=N5 at m5 CN
   have HCN:=CN
   go_enter Tryz.func46,Tryz.ntmps46
   go_wp2_with fail
   refine CH.mono ?_
   rintro e wq ⟨rfl,rfl⟩
   clear CH CN
   go_upto_region 6 with fail
   go_cut [10,11] from 26 to 40 (fun s10 s11 wx=>∃ bm,s10=.pointer (some ⟨bm,0,none⟩)∧s11=.bool y∧MB wx bm (.int .u8 ql) (.slice fa fn fc) (.int .u8 qs) (.slice ra rn rc)∧Below wq.heap.size wq wx)
   case first =>
    go_region_with (go_at_call 82; refine (CF _ (by with_reducible repeat first | exact U | apply Mks.drew | apply Mks.alloc)).mono ?_; rintro e w2 ⟨rfl,hb2⟩; have hz2:wq.heap.size≤w2.heap.size:=(by have:=hb2.size; simp at this; omega); (first | (have hq:wq.heap.size < w2.heap.size:=(by have:=hb2.size; simp at this; omega); have q0:w2.cell? ⟨wq.heap.size,0,none⟩=some (.int .u8 0):=(hb2.cell (by show wq.heap.size < _; simp)).trans (by go_simp); have q1:w2.cell? ⟨wq.heap.size,1,none⟩=some (.slice none 0 0):=(hb2.cell (by show wq.heap.size < _; simp)).trans (by go_simp); have q2:w2.cell? ⟨wq.heap.size,2,none⟩=some (.int .u8 0):=(hb2.cell (by show wq.heap.size < _; simp)).trans (by go_simp); have q3:w2.cell? ⟨wq.heap.size,3,none⟩=some (.slice none 0 0):=(hb2.cell (by show wq.heap.size < _; simp)).trans (by go_simp); have qf0:w2.frozen? ⟨wq.heap.size,0,none⟩=false:=(hb2.frozen (by show wq.heap.size < _; simp)).trans (by go_simp); have qf1:w2.frozen? ⟨wq.heap.size,1,none⟩=false:=(hb2.frozen (by show wq.heap.size < _; simp)).trans (by go_simp); have qf2:w2.frozen? ⟨wq.heap.size,2,none⟩=false:=(hb2.frozen (by show wq.heap.size < _; simp)).trans (by go_simp); have qf3:w2.frozen? ⟨wq.heap.size,3,none⟩=false:=(hb2.frozen (by show wq.heap.size < _; simp)).trans (by go_simp)) | skip))
    all_goals
    have B2:Below wq.heap.size wq w2:=by
     first
      | exact ((Below.refl _ wq).drew).trans (hb2.mono (by simp))
      | exact (((Below.refl _ wq).alloc (Nat.le_refl _) _).drew).trans (hb2.mono (by simp))
      | exact (((Below.refl _ wq).drew).alloc (Nat.le_refl _) _).trans (hb2.mono (by simp))
    clear hb2
    go_wp2_with fail
    go_meet
    first
     | exact ⟨wq.heap.size,rfl,rfl,MB.set (.int .u8 ql) (.slice fa fn fc) (.int .u8 qs) (.slice ra rn rc) q0 q1 q2 q3,Below.setN (Below.setN (Below.setN (Below.setN B2 (Nat.le_refl _) _) (Nat.le_refl _) _) (Nat.le_refl _) _) (Nat.le_refl _) _⟩
     | exact ⟨w2.heap.size,rfl,rfl,MB.new w2 (.int .u8 ql) (.slice fa fn fc) (.int .u8 qs) (.slice ra rn rc) 134,B2.alloc hz2 _⟩
   case rest =>
    rename World=>W3
    obtain ⟨bm,rfl,rfl,M,B3⟩:=hcut
    cases y with
    | false =>
     have HA:Hid (A=(0,4)):=HQ0.out rfl
     go_wp2
     go_ret2
     rw [HA.out]
     exact ⟨rfl,B3⟩
    | true =>
     obtain ⟨m,us,hAm,hF,hRl,hmm⟩:=HQ1.out rfl
     have C:=HCN W3.drew m us (FV.below hF B3.drew) (hRl.below B3.drew) hmm
     rw [← hAm] at C
     have k0:=(B3.cell (p:=⟨hb,10+n * 13+1+0,none⟩) hbl).trans m0
     have k1:=(B3.cell (p:=⟨hb,10+n * 13+1+1,none⟩) hbl).trans m1
     have k2:=(B3.cell (p:=⟨hb,10+n * 13+1+2,none⟩) hbl).trans m2
     have k3:=(B3.cell (p:=⟨hb,10+n * 13+1+3,none⟩) hbl).trans m3
     have k4:=(B3.cell (p:=⟨hb,10+n * 13+1+4,none⟩) hbl).trans m4
     have k5:=(B3.cell (p:=⟨hb,10+n * 13+1+5,none⟩) hbl).trans m5
     obtain ⟨j0,j1,j2,j3,jl⟩:=M
     have hbl3:hb < W3.heap.size:=Nat.lt_of_lt_of_le hbl B3.size
     clear hAm hF hRl hmm HCN CF U m0 m1 m2 m3 m4 m5 cp cu ck
     go_wp2
     go_region_with (go_at_call 83; refine C.mono ?_; rintro e w4 ⟨rfl,B4⟩)
     all_goals
      have B5:Below wq.heap.size wq w4:=B3.trans (((Below.refl _ W3).drew.trans B4).mono B3.size)
      clear B4 C
      go_wp2
      go_ret2
      exact ⟨rfl,B5⟩
  ·have HA:Hid (A=(0,e0)):=by show A=_; rw [← hA,if_pos he]
   have e1:(e0 != 0)=true:=by simp [he]
   clear hA he
   go_enter Tryz.func46,Tryz.ntmps46
   go_wp2_with fail
   refine CH.mono ?_
   rintro e w' ⟨rfl,rfl⟩
   clear CH
   go_wp2
   go_ret2
   rw [HA.out]
   exact ⟨rfl,Below.refl _ _⟩
end Go.Proofs.YtbgilndohccicaaGreatDoor
namespace Go.Proofs.YtbgilndohccicaaGreatDoor
open Go.RowKit
def begN (N:Nat→Nat→Int) (g f n c:Nat):Nat→Nat→Int:=fun i j=>if i=201 then (if j=0 then 1 else if j=1 then (g:Int) else if j=2 then (n:Int) else if j=3 then (c:Int) else if j=4 then (f:Int) else N i j) else N i j
theorem begN_ne (N:Nat→Nat→Int) (g f n c:Nat) {i:Nat} (h:i≠201) (j:Nat):begN N g f n c i j=N i j:=by unfold begN; rw [if_neg h]
theorem begN_upd (N:Nat→Nat→Int) (g f n c:Nat):updV (begN N g f n c)=.slice (if f=0 then none else some ⟨g,0,none⟩) n c:=by
 unfold updV
 have e1:begN N g f n c 201 1=(g:Int):=rfl
 have e2:begN N g f n c 201 2=(n:Int):=rfl
 have e3:begN N g f n c 201 3=(c:Int):=rfl
 have e4:begN N g f n c 201 4=(f:Int):=rfl
 rw [e1,e2,e3,e4,Int.toNat_natCast,Int.toNat_natCast,Int.toNat_natCast]
 congr 1
 by_cases h:f=0
 ·rw [if_pos h,if_pos (by omega)]
 ·rw [if_neg h,if_neg (by omega)]
theorem HP.setUpd {w:World} {hb:Nat} {sv:SV} {sz:Int} {R:Nat→Nat} {K:Nat→Int} {N N':Nat→Nat→Int} {F:Nat→Nat→Nat} (h:HP w hb sv sz R K N F) (b:Bool) (v:Value) (h1:decide (N' 201 0≠0)=b) (h2:updV N'=v) (h3:∀ i j,i≠201→N' i j=N i j) :
  HP ((w.setCell ⟨hb,2623,none⟩ (.bool b)).setCell ⟨hb,2624,none⟩ v) hb sv sz R K N' F:=by
 have ne:∀ o,o < 2623→((w.setCell ⟨hb,2623,none⟩ (.bool b)).setCell ⟨hb,2624,none⟩ v).cell? ⟨hb,o,none⟩=w.cell? ⟨hb,o,none⟩:=by
  intro o ho
  rw [World.cell?_setCell_other _ _ _ _ (by intro e; injection e with _ e2 _; omega),World.cell?_setCell_other _ _ _ _ (by intro e; injection e with _ e2 _; omega)]
 have hbl:=h.lt
 have cp:=h.pend
 have cu:=h.upd
 refine ⟨by rw [ne _ (by omega)]; exact h.sch,by rw [ne _ (by omega)]; exact h.size,fun a ha=>by rw [ne _ (by omega)]; exact h.root a ha,fun a ha=>by rw [ne _ (by omega)]; exact h.cls a ha,fun a c ha hc=>by rw [ne _ (by omega),h3 _ _ (by omega)]; exact h.num a c ha hc,fun a c ha hc=>by rw [ne _ (by omega)]; exact h.ref a c ha hc,fun o=>by have:=h.frz o; go_simp,?_,?_⟩
 ·rw [h1]; go_simp
 ·rw [h2]; go_simp
def bgE (p:PH) (cs:Sch) (s:ByteArray):Int×Int:=if p.N 201 0≠0 then (11,0) else (uE cs s,uP cs s)
def BgPost (hb:Nat) (sv:SV) (sz:Int) (p:PH) (cs:Sch) (s:ByteArray) (w:World) (e:Ending) (w':World):Prop :=
 e=.returned (.tuple #[.int .i64 (bgE p cs s).1,.int .i64 (bgE p cs s).2])∧w.grownBy w' (some hb)∧((bgE p cs s).1≠0→HP w' hb sv sz p.R p.K p.N p.F) ∧
 ((bgE p cs s).1=0→∃ N' mv,HP w' hb sv sz p.R p.K N' p.F∧N' 201 0=1∧(∀ i j,i≠201→N' i j=p.N i j)∧Mks w' w.heap.size (updV N') mv (uM cs s))
set_option maxHeartbeats 2000000 in
set_option maxRecDepth 20000 in
theorem pbegin_any (hb:Nat) (sv:SV) (sz:Int) (p:PH) (w:World) (h:HP w hb sv sz p.R p.K p.N p.F) {ob:Nat} {vs:List (Int×SV)} {cs:Sch} (hv:Cls w ob (.slice sv.a sv.n sv.c) vs cs) (s:ByteArray) (hm:s.size≤9223372036854775807) :
  Calls Tryz.prog 42 #[.pointer (some ⟨hb,0,none⟩),.string s] w (BgPost hb sv sz p cs s w):=by
 have hbl:=h.lt
 have cp:=h.pend
 obtain ⟨A,hA⟩:∃ A,bgE p cs s=A:=⟨_,rfl⟩
 unfold BgPost
 rw [hA]
 unfold bgE at hA
 by_cases h0:p.N 201 0=0
 ·rw [if_neg (by simpa using h0)] at hA
  rw [decide_eq_false (by simpa using h0)] at cp
  have cs0:=h.sch
  have C:=uread_any s hv hm
  unfold RUPost at C
  have HM:Hid (uE cs s=0→uP cs s=0):=by
   intro he
   unfold uE at he
   unfold uP
   split at he
   ·rename_i h1; exact absurd he h1
   ·rename_i h1
    rw [if_neg h1]
    split at he
    ·omega
    ·rename_i h2; rw [if_neg h2,if_neg (by simpa using he)]
  generalize uM cs s=ms at C ⊢
  have HA1:Hid (A.1=uE cs s):=by show A.1=_; rw [← hA]
  have HA2:Hid (A.2=uP cs s):=by show A.2=_; rw [← hA]
  generalize uE cs s=e1 at C HA1 HM
  generalize uP cs s=p1 at C HA2 HM
  have HH:Hid (HP w hb sv sz p.R p.K p.N p.F):=h
  obtain ⟨sa,sn,sc⟩:=sv
  simp only [] at cs0 C
  clear hA hv h h0
  by_cases he:e1=0
  ·have e0:(e1 != 0)=false:=by simp [he]
   have HE:Hid (e1=0):=he
   clear he
   go_enter Tryz.func42,Tryz.ntmps42
   go_wp2_with fail
   refine C.mono ?_
   rintro e w1 ⟨a,n,c,mv,rfl,M1,B1⟩
   clear C
   have H1:HP (w1.alloc (.cells #[.slice a n c] 56)) hb ⟨sa,sn,sc⟩ sz p.R p.K p.N p.F:=(HH.out.below B1).alloc _
   have s1:=B1.size
   have hbl1:hb < w1.heap.size:=by omega
   have q1:=H1.pend
   have q2:=H1.upd
   have q3:=H1.frz 2623
   have q4:=H1.frz 2624
   have HD:Hid (∃ g f,Value.slice a n c=.slice (if f=0 then none else some ⟨g,0,none⟩) n c):=by
    rcases M1.cells with ⟨e,_⟩ | ⟨g,cap,e,_⟩
    ·exact ⟨0,0,by cases e; rfl⟩
    ·exact ⟨g,1,by cases e; rfl⟩
   have H1':Hid (HP (w1.alloc (.cells #[.slice a n c] 56)) hb ⟨sa,sn,sc⟩ sz p.R p.K p.N p.F):=H1
   have M1':Hid (Mks w1 w.heap.size (.slice a n c) mv ms):=M1
   have c1:w1.cell? ⟨hb,2623,none⟩=some (.bool (decide (p.N 201 0≠0))):=(HH.out.below B1).pend
   have c2:w1.cell? ⟨hb,2624,none⟩=some (updV p.N):=(HH.out.below B1).upd
   have f1:w1.frozen? ⟨hb,2623,none⟩=false:=(HH.out.below B1).frz _
   have f2:w1.frozen? ⟨hb,2624,none⟩=false:=(HH.out.below B1).frz _
   generalize updV p.N=uv at c2
   generalize decide (p.N 201 0≠0)=bv at c1
   clear H1 M1 q1 q2 q3 q4
   go_wp2
   go_ret2
   obtain ⟨g,f,hD⟩:=HD.out
   refine ⟨by rw [HA1.out,HA2.out,HM.out HE.out,HE.out]; rfl,?_,fun hne=>absurd (HA1.out.trans HE.out) hne,fun _=>⟨begN p.N g f n c,mv,?_,rfl,fun i j hi=>begN_ne _ _ _ _ _ hi j,?_⟩⟩
   ·exact gb_alloc (gb_trans (gb_trans (gb_below B1 _) (gb_set _ _ _ _)) (gb_set _ _ _ _)) _
   ·exact ((HH.out.below B1).setUpd true (.slice a n c) rfl (by rw [begN_upd,← hD]) (fun i j hi=>begN_ne _ _ _ _ _ hi j)).alloc _
   ·rw [begN_upd,← hD]
    exact ((M1'.out.kept (gb_set _ hb 2623 _) hbl).kept (gb_set _ hb 2624 _) hbl).alloc _
  ·have e0:(e1 != 0)=true:=by simp [he]
   have HE:Hid (e1≠0):=he
   clear he
   go_enter Tryz.func42,Tryz.ntmps42
   go_wp2_with fail
   refine C.mono ?_
   rintro e w1 ⟨a,n,c,mv,rfl,M1,B1⟩
   clear C M1
   go_wp2
   go_ret2
   exact ⟨by rw [HA1.out,HA2.out]; rfl,gb_alloc (gb_below B1 _) _,fun _=>(HH.out.below B1).alloc _,fun h0=>absurd (HA1.out.symm.trans h0) HE.out⟩
 ·rw [if_pos h0] at hA
  rw [decide_eq_true h0] at cp
  have HA:Hid (A=(11,0)):=hA.symm
  have HH:Hid (HP w hb sv sz p.R p.K p.N p.F):=h
  clear hA h0 h
  go_enter Tryz.func42,Tryz.ntmps42
  go_wp2
  go_ret2
  rw [HA.out]
  exact ⟨rfl,World.grownBy.refl _ _,fun _=>HH.out,fun h=>by simp at h⟩
end Go.Proofs.YtbgilndohccicaaGreatDoor
namespace Go.Proofs.YtbgilndohccicaaGreatDoor
open Go.RowKit
def pdP (p:PH):Bool:=decide (p.N 201 0≠0)
def offN (N:Nat→Nat→Int):Nat→Nat→Int:=fun i j=>if i=201 then 0 else N i j
set_option maxHeartbeats 400000 in
theorem pstep_any (hb:Nat) (sv:SV) (sz:Int) (p:PH) (w:World) (h:HP w hb sv sz p.R p.K p.N p.F) (bud:Int) :
  Calls Tryz.prog 44 #[.pointer (some ⟨hb,0,none⟩),.int .i64 bud] w fun e w'=>e=.returned (.tuple #[.bool (stS (pdP p) bud),.int .i64 (stE (pdP p) bud)])∧w'=w:=by
 have hbl:=h.lt
 have cp:=h.pend
 change w.cell? ⟨hb,2623,none⟩=some (.bool (pdP p)) at cp
 generalize pdP p=pd at cp ⊢
 cases pd with
 | false =>
  have e1:stS false bud=false:=rfl
  have e2:stE false bud=12:=rfl
  rw [e1,e2]
  clear h e1 e2
  go_enter Tryz.func44,Tryz.ntmps44
  go_wp2
  go_ret2
  exact ⟨rfl,rfl⟩
 | true =>
  by_cases hb1:bud < 1
  ·have e1:stS true bud=false:=by unfold stS; simp; omega
   have e2:stE true bud=13:=by unfold stE; rw [if_neg (by decide),if_pos hb1]
   rw [e1,e2]
   clear h e1 e2
   go_enter Tryz.func44,Tryz.ntmps44
   go_wp2
   go_ret2
   exact ⟨rfl,rfl⟩
  ·have e1:stS true bud=true:=by unfold stS; simp; omega
   have e2:stE true bud=0:=by unfold stE; rw [if_neg (by decide),if_neg hb1]
   rw [e1,e2]
   clear h e1 e2
   go_enter Tryz.func44,Tryz.ntmps44
   go_wp2
   go_ret2
   exact ⟨rfl,rfl⟩
set_option maxHeartbeats 400000 in
theorem pabort_any (hb:Nat) (sv:SV) (sz:Int) (p:PH) (w:World) (h:HP w hb sv sz p.R p.K p.N p.F) :
  Calls Tryz.prog 50 #[.pointer (some ⟨hb,0,none⟩)] w fun e w'=>e=.returned (.int .i64 (if pdP p=true then 0 else 12))∧w.grownBy w' (some hb)∧HP w' hb sv sz p.R p.K (if pdP p=true then offN p.N else p.N) p.F:=by
 have hbl:=h.lt
 have cp:=h.pend
 have cu:=h.upd
 have f1:=h.frz 2623
 have f2:=h.frz 2624
 change w.cell? ⟨hb,2623,none⟩=some (.bool (pdP p)) at cp
 have HH:Hid (HP w hb sv sz p.R p.K p.N p.F):=h
 generalize updV p.N=uv at cu
 generalize pdP p=pd at cp ⊢
 cases pd with
 | false =>
  rw [if_neg (by simp),if_neg (by simp)]
  clear h
  go_enter Tryz.func50,Tryz.ntmps50
  go_wp2
  go_ret
  exact ⟨rfl,World.grownBy.refl _ _,HH.out⟩
 | true =>
  rw [if_pos rfl,if_pos rfl]
  clear h
  go_enter Tryz.func50,Tryz.ntmps50
  go_wp2
  go_ret
  exact ⟨rfl,gb_trans (gb_set _ _ _ _) (gb_set _ _ _ _),HH.out.setUpd false (.slice none 0 0) rfl rfl (fun i j hi=>by unfold offN; rw [if_neg hi])⟩
end Go.Proofs.YtbgilndohccicaaGreatDoor
namespace Go.Proofs.YtbgilndohccicaaGreatDoor
open Go.RowKit
theorem joinI_bd (a c b:Int):-9223372036854775808≤joinI a c b∧joinI a c b≤9223372036854775807:=by
 unfold joinI
 split
 ·unfold wrap64; omega
 ·split <;> (unfold wrap64; omega)
theorem su_bd {num:Int→Int} (hnum:∀ c,-9223372036854775808≤num c∧num c≤9223372036854775807):∀ d l n,SuN num d l n→-9223372036854775808≤n∧n≤9223372036854775807:=by
 intro d
 induction d with
 | zero=>intro l n h; exact h.elim
 | succ d ih =>
  have hF:∀ l n,FcN num (SuN num d) l n→-9223372036854775808≤n∧n≤9223372036854775807:=by
   intro l n h
   cases h with
   | nm h h1 h9 =>
    have h2:=decV_bd l h
    have h3:=pow9 (k:=l.length) h9
    omega
   | lt h1 h2=>exact hnum _
   | par h=>exact ih _ _ h
  have hP:∀ l n,PrN (FcN num (SuN num d)) l n→-9223372036854775808≤n∧n≤9223372036854775807:=by
   intro l n h
   cases h with
   | one h=>exact hF _ _ h
   | more h g=>exact joinI_bd _ _ _
  intro l n h
  cases h with
  | one h=>exact hP _ _ h
  | more hc h g=>exact joinI_bd _ _ _
theorem fms_find {s:ByteArray} (name:Int):∀ (fs:List GFd) (gs:List GU) (lo hi:Nat),FMs s lo hi fs gs →
  (idxF (fs.map schF) name < 0∧fdG gs name=none)∨∃ (i k e:Nat) (f:GFd) (g:GU),idxF (fs.map schF) name=i∧fs[i]?=some f∧fdG gs name=some g∧FM s k e f g∧e≤hi:=by
 intro fs
 induction fs with
 | nil =>
  intro gs lo hi h
  cases gs with
  | nil=>exact .inl ⟨by show (-1:Int) < 0; decide,rfl⟩
  | cons _ _=>exact h.elim
 | cons f fs ih =>
  intro gs lo hi h
  cases gs with
  | nil=>exact h.elim
  | cons g gs =>
   obtain ⟨k,e,h1,h2,h3⟩:=h
   have hle:=FMs_le h3
   by_cases hn:f.l=name
   ·refine .inr ⟨0,k,e,f,g,?_,rfl,?_,h2,hle⟩
    ·unfold idxF; rw [List.map_cons,List.findIdx?_cons]
     have:((schF f).1==name)=true:=by simp [schF,hn]
     rw [this]; rfl
    ·unfold fdG; rw [List.find?_cons]
     have:(g.n==name)=true:=by simp [h2.n,hn]
     rw [this]
   ·have hn':((schF f).1==name)=false:=by simp [schF,hn]
    have e1:idxF ((f :: fs).map schF) name=if idxF (fs.map schF) name < 0 then -1 else idxF (fs.map schF) name+1:=by
     unfold idxF
     rw [List.map_cons,List.findIdx?_cons,hn']
     cases hf:(fs.map schF).findIdx? (fun p=>p.1==name) with
     | none=>simp
     | some i=>simp; omega
    have e2:fdG (g :: gs) name=fdG gs name:=by
     unfold fdG; rw [List.find?_cons]
     have:(g.n==name)=false:=by simp [h2.n,hn]
     rw [this]
    rcases ih gs e hi h3 with ⟨a,b⟩ | ⟨i,k',e',f',g',a,b,c,d,d'⟩
    ·exact .inl ⟨by rw [e1,if_pos a]; decide,by rw [e2]; exact b⟩
    ·exact .inr ⟨i+1,k',e',f',g',by rw [e1,if_neg (by omega),a]; rfl,by simpa using b,by rw [e2]; exact c,d,d'⟩
theorem cms_find {s:ByteArray} (os:Sch) (K:Int) (hK:K≠0):∀ (cs:List GCd) (hs:List HC) (lo hi:Nat),CMs s lo hi cs hs →
  (findPM (cs.map (mkOf (vsO os) os)) K=none∧tgI os hs K=-1)∨∃ (i lo' hi':Nat) (c:GCd) (h:HC),findPM (cs.map (mkOf (vsO os) os)) K=some (mkOf (vsO os) os c)∧c∈cs∧tgI os hs K=i∧hs[i]?=some h∧CM s lo' hi' c h∧hi'≤hi∧srcI (vsO os) c.l c.fl=K:=by
 intro cs
 induction cs with
 | nil =>
  intro hs lo hi h
  cases hs with
  | nil=>exact .inl ⟨by unfold findPM; rw [if_neg hK]; rfl,rfl⟩
  | cons _ _=>exact h.elim
 | cons c cs ih =>
  intro hs lo hi h
  cases hs with
  | nil=>exact h.elim
  | cons hh hs =>
   obtain ⟨k,e,h1,h2,h3⟩:=h
   have hle:=CMs_le h3
   have es:srcI (vsO os) hh.n hh.s=srcI (vsO os) c.l c.fl:=by rw [h2.n,h2.s_]
   by_cases hn:srcI (vsO os) c.l c.fl=K
   ·refine .inr ⟨0,k,e,c,hh,?_,List.mem_cons_self,?_,rfl,h2,by omega,hn⟩
    ·unfold findPM; rw [if_neg hK,List.map_cons,List.find?_cons]
     have:((mkOf (vsO os) os c).src==K)=true:=by simp [mkOf,hn]
     rw [this]
    ·unfold tgI; rw [List.findIdx?_cons]
     have:(srcI (vsO os) hh.n hh.s==K)=true:=by simp [es,hn]
     rw [this]; rfl
   ·have e1:findPM ((c :: cs).map (mkOf (vsO os) os)) K=findPM (cs.map (mkOf (vsO os) os)) K:=by
     unfold findPM; rw [if_neg hK,if_neg hK,List.map_cons,List.find?_cons]
     have:((mkOf (vsO os) os c).src==K)=false:=by simp [mkOf,hn]
     rw [this]
    have e2:tgI os (hh :: hs) K=if tgI os hs K < 0 then -1 else tgI os hs K+1:=by
     unfold tgI
     rw [List.findIdx?_cons]
     have:(srcI (vsO os) hh.n hh.s==K)=false:=by simp [es,hn]
     rw [this]
     cases hf:hs.findIdx? (fun h=>srcI (vsO os) h.n h.s==K) with
     | none=>simp
     | some i=>simp; omega
    rcases ih hs _ hi h3 with ⟨a,b⟩ | ⟨i,lo',hi',c',h',a,a',b,b',d,d',d''⟩
    ·exact .inl ⟨by rw [e1]; exact a,by rw [e2,b]; rfl⟩
    ·exact .inr ⟨i+1,lo',hi',c',h',by rw [e1]; exact a,List.mem_cons_of_mem _ a',by rw [e2,if_neg (by omega),b]; rfl,by simpa using b',d,d',d''⟩
end Go.Proofs.YtbgilndohccicaaGreatDoor
