import Derived.Test.YtbgilndohccicaaGreatDoorBz30
import Derived.Test.YtbgilndohccicaaGreatDoorBz32
import Derived.Test.YtbgilndohccicaaGreatDoorBz19
import Derived.Test.YtbgilndohccicaaGreatDoorBz20
import Derived.Test.YtbgilndohccicaaGreatDoorBz23
namespace Go.Proofs.YtbgilndohccicaaGreatDoor
open Go.RowKit
theorem Tryz.infoUMaking:(Tryz.prog.info? 134).map (fun i=>(i.zero,i.size,i.bytes))=some (some (.agg #[.int .u8 0,.slice none 0 0,.int .u8 0,.slice none 0 0]),4,64):=by kernel_rfl
structure MV where
 l:Int
 f:SV
 s:Int
 r:SV
def MV.cells (p:MV):List Value:=[.int .u8 p.l,.slice p.f.a p.f.n p.f.c,.int .u8 p.s,.slice p.r.a p.r.n p.r.c]
def flatMk (l:List MV):List Value:=l.flatMap MV.cells
theorem flatMk_app (a b:List MV):flatMk (a++b)=flatMk a++flatMk b:=by simp [flatMk]
structure Mks (w:World) (base:Nat) (v:Value) (vs:List MV) (ms:List PM):Prop where
 row:w.ownsRow base 134 4 v vs.length (flatMk vs)
 len:vs.length=ms.length
 el:∀ (i:Nat) (p:MV) (m:PM),vs[i]?=some p→ms[i]?=some m→p.l=m.l∧p.s=m.src∧FVb w base p.f.val m.fs∧∃ us,Rls w base p.r.val us m.rs
theorem Mks.nil (w:World) (base:Nat):Mks w base (.slice none 0 0) [] []:=⟨World.ownsRow_nil _ _ _ _,rfl,fun i p c h1 _=>by simp at h1⟩
theorem Mks.shape {w:World} {base:Nat} {v:Value} {vs:List MV} {ms:List PM} (h:Mks w base v vs ms):∃ a c,v=.slice a ms.length c:=by
 rw [← h.len]
 rcases h.row.2 with ⟨rfl,hn⟩ | ⟨g,cap,cur,rfl,_⟩
 ·exact ⟨none,0,by rw [hn]⟩
 ·exact ⟨_,_,rfl⟩
theorem Mks.mono {w:World} {base base':Nat} {v:Value} {vs:List MV} {ms:List PM} (h:Mks w base v vs ms) (hb:base'≤base):Mks w base' v vs ms :=
 ⟨row_mono h.row hb,h.len,fun i p m h1 h2=>by
  obtain ⟨a,b,c,us,d⟩:=h.el i p m h1 h2
  exact ⟨a,b,c.mono hb,us,d.mono hb⟩⟩
theorem Mks.kept {w w':World} {base b:Nat} {v:Value} {vs:List MV} {ms:List PM} (h:Mks w base v vs ms) (g:w.grownBy w' (some b)) (hb:b < base):Mks w' base v vs ms :=
 ⟨row_kept h.row g hb,h.len,fun i p m h1 h2=>by
  obtain ⟨a,b,c,us,d⟩:=h.el i p m h1 h2
  exact ⟨a,b,c.kept g hb,us,d.kept g hb⟩⟩
theorem Mks.below {w w':World} {base:Nat} {v:Value} {vs:List MV} {ms:List PM} (h:Mks w base v vs ms) (hb:Below w.heap.size w w'):Mks w' base v vs ms :=
 ⟨World.ownsRow.kept h.row (gb_below hb none) (by cases hv:v.ownBlock <;> simp),h.len,fun i p m h1 h2=>by
  obtain ⟨a,b,c,us,d⟩:=h.el i p m h1 h2
  exact ⟨a,b,World.ownsRow.kept c (gb_below hb none) (by cases hv:p.f.val.ownBlock <;> simp),us,d.below hb⟩⟩
theorem Mks.app {w1 w2:World} {base:Nat} {v v':Value} {vs:List MV} {ms:List PM} {p:MV} {m:PM} {us:List (SV×Bool)} (V1:Mks w1 base v vs ms) (hl:p.l=m.l) (hs:p.s=m.src) (F1:FVb w1 base p.f.val m.fs) (R1:Rls w1 base p.r.val us m.rs)
  (hown:w2.ownsRow base 134 4 v' (vs.length+1) (flatMk vs++p.cells)) (hg1:w1.grownBy w2 v.ownBlock):Mks w2 base v' (vs++[p]) (ms++[m]):=by
 have hfk:∀ (x:SV) f,FVb w1 base x.val f→FVb w2 base x.val f:=fun x f h=>World.ownsRow.kept h hg1 (row_apart h V1.row (by decide))
 have hrk:∀ (x:SV) us f,Rls w1 base x.val us f→Rls w2 base x.val us f:=fun x us f h=>h.apart V1.row (by decide) (by decide) hg1
 refine ⟨by rw [flatMk_app,List.length_append]; simpa [flatMk] using hown,by simp [V1.len],fun i q c h1 h2=>?_⟩
 have hl':=V1.len
 rcases Nat.lt_or_ge i vs.length with hi | hi
 ·rw [List.getElem?_append_left hi] at h1
  rw [List.getElem?_append_left (by omega)] at h2
  obtain ⟨a,b,c',us',d⟩:=V1.el i q c h1 h2
  exact ⟨a,b,hfk _ _ c',us',hrk _ _ _ d⟩
 ·rw [List.getElem?_append_right hi] at h1
  rw [List.getElem?_append_right (by omega)] at h2
  have hi0:i - vs.length=0:=by
   have:=(List.getElem?_eq_some_iff.1 h1).1; simp at this; omega
  have hj0:i - ms.length=0:=by omega
  rw [hi0] at h1; rw [hj0] at h2
  simp at h1 h2
  subst h1; subst h2
  exact ⟨hl,hs,hfk _ _ F1,us,hrk _ _ _ R1⟩
theorem cell_four (w1:World) (o:Obj) (x y z t:Value) (T:TypeId):∀ (j:Nat) (u:Value),[x,y,z,t][j]?=some u→((w1.alloc o).alloc (.cells #[x,y,z,t] T)).cell? ((⟨w1.heap.size+1,0,none⟩:Addr).add j)=some u:=by
 intro j u hj
 match j,hj with
 | 0,hj=>simp at hj; subst hj; simp [Addr.add]
 | 1,hj=>simp at hj; subst hj; simp [Addr.add]
 | 2,hj=>simp at hj; subst hj; simp [Addr.add]
 | 3,hj=>simp at hj; subst hj; simp [Addr.add]
def UpPost (ms:List PM) (w:World) (e:Ending) (w':World):Prop:=∃ (a:Option Addr) (n c:Nat) (vs:List MV),
 e=.returned (.agg #[.slice a n c])∧Mks w' w.heap.size (.slice a n c) vs ms∧Below w.heap.size w w'
theorem GCs.cellsX {w:World} {base:Nat} {a:Option Addr} {n k:Nat} {rs:List RCd} {cs:List GCd} (h:GCs w base (.slice a n k) rs cs):n=cs.length∧∀ i,i < n→∃ g,a=some ⟨g,0,none⟩∧g < w.heap.size∧CCell w g i (rs[i]?.getD zR):=by
 have hl:=h.len
 rcases h.cells with ⟨e,h0⟩ | ⟨g,cap,e,hg,_,_,hc⟩
 ·cases e
  rw [h0] at hl
  exact ⟨hl,fun i hi=>by omega⟩
 ·cases e
  exact ⟨hl,fun i hi=>⟨g,rfl,hg,hc i hi⟩⟩
set_option maxHeartbeats 2000000 in
set_option maxRecDepth 20000 in
theorem updateOf_any {a:Option Addr} {sn ks:Nat} {vs:List (Int×SV)} {os:Sch} {ob:Nat} {ca:Option Addr} {m cc base:Nat} {rs:List RCd} {cs:List GCd} {w:World} (hv:Cls w ob (.slice a sn ks) vs os) (hG:GCs w base (.slice ca m cc) rs cs) (h6:cs.length≤6) (hf6:∀ c∈cs,c.fs.length≤6∧∀ f∈c.fs,f.ts.length≤1000) :
  Calls Tryz.prog 102 #[.agg #[.slice a sn ks],.slice ca m cc] w (UpPost (cs.map (mkOf vs os)) w):=by
 obtain ⟨iM,hiM,hzM0,hzM1,hzM2⟩:=infoParts2 Tryz.infoUMaking
 obtain ⟨hmn,hcx⟩:=hG.cellsX
 have hl:=hG.len
 have HN:Hid (m=rs.length∧m=cs.length):=⟨hmn.trans hl.symm,hmn⟩
 have hm6:m≤6:=by rw [hmn]; exact h6
 have HC:Hid (∀ i,i < m→∃ g,ca=some ⟨g,0,none⟩∧g < w.heap.size∧CCell w g i (rs[i]?.getD zR)):=hcx
 have HE:Hid (∀ (i:Nat) (r:RCd) (c:GCd),rs[i]?=some r→cs[i]?=some c→CRel w 0 r c):=fun i r c h1 h2=>(hG.el i r c h1 h2).mono (Nat.zero_le _)
 have H6:Hid (∀ c∈cs,c.fs.length≤6∧∀ f∈c.fs,f.ts.length≤1000):=hf6
 have HV:Hid (Cls w ob (.slice a sn ks) vs os):=hv
 obtain ⟨pms,hpms⟩:∃ pms,pms=cs.map (mkOf vs os):=⟨_,rfl⟩
 rw [← hpms]
 have HP:Hid (pms=cs.map (mkOf vs os)):=hpms
 unfold UpPost
 obtain ⟨W,hW⟩:∃ W,W=(w.alloc (.cells #[.slice a sn ks] 45)).alloc (.cells #[.slice none 0 0] 56):=⟨_,rfl⟩
 have B0:Below w.heap.size w W:=by rw [hW]; exact ((Below.refl _ _).alloc (Nat.le_refl _) _).alloc (by simp) _
 have z0:W.heap.size=w.heap.size+1+1:=by rw [hW]; simp
 have y0:W.cell? ⟨w.heap.size,0,none⟩=some (.slice a sn ks):=by rw [hW]; go_simp
 have y1:W.cell? ⟨w.heap.size+1,0,none⟩=some (.slice none 0 0):=by rw [hW]; go_simp
 have y2:W.frozen? ⟨w.heap.size+1,0,none⟩=false:=by rw [hW]; go_simp
 have u0:w.heap.size < W.heap.size:=by omega
 have u1:w.heap.size+1 < W.heap.size:=by omega
 clear hG hmn hcx hl h6 hf6 hv hpms
 go_enter Tryz.func102,Tryz.ntmps102
 go_wp2_with fail
 rw [← hW]
 clear hW
 have e0:W.heap.size=w.heap.size+2:=by omega
 clear z0
 go_wp2
 go_loopw [11] (fun i wi=>∃ (j:Nat) (rv:Value) (us:List MV),j≤m∧i=.int .i64 j∧Mks wi (w.heap.size+3) rv us (pms.take j)∧wi.cell? ⟨w.heap.size+1+1,0,none⟩=some rv∧wi.frozen? ⟨w.heap.size+1+1,0,none⟩=false∧w.heap.size+1+1 < wi.heap.size∧Below W.heap.size W wi) (fun i _=>m - (intOf i).toNat)
 case atStart=>exact ⟨0,.slice none 0 0,[],Nat.zero_le _,rfl,by rw [List.take_zero]; exact Mks.nil _ _,by go_simp,by go_simp,by simp; omega,(Below.refl _ _).alloc (Nat.le_refl _) _⟩
 case round =>
  obtain ⟨j,rv,us,hj,rfl,V,d0,df0,hsz,hb⟩:=hrel
  have hpl:(pms.take j).length=j:=by rw [List.length_take,HP.out,List.length_map,← HN.out.2]; omega
  obtain ⟨va,vc,hvv⟩:=V.shape
  rw [hpl] at hvv
  subst hvv
  have HVK:Hid (us.length=j):=by show _=_; rw [V.len]; exact hpl
  have HVV:Hid (Mks wr (w.heap.size+3) (.slice va j vc) us (pms.take j)):=V
  have hB:Below w.heap.size w wr:=B0.trans (hb.mono B0.size)
  clear hpl V
  by_cases hjl:j < m
  ·obtain ⟨g,hga,hgs,hgc⟩:=HC.out j hjl
   obtain ⟨r,hr⟩:∃ r,r=rs[j]?.getD zR:=⟨_,rfl⟩
   have hrk:rs[j]?=some r:=by rw [hr]; exact getD_of (by rw [← HN.out.1]; exact hjl) zR
   obtain ⟨c,hck⟩:∃ c,cs[j]?=some c:=⟨_,List.getElem?_eq_getElem (by rw [← HN.out.2]; exact hjl)⟩
   have hrel:=HE.out j r c hrk hck
   obtain ⟨x0,x1,x2,x3,x4⟩:=hgc.below hB hgs
   rw [← hr] at x0 x1 x2 x3 x4
   have hc6:=H6.out c (List.mem_of_getElem? hck)
   have HST:Hid (pms.take (j+1)=pms.take j++[mkOf vs os c]):=by show _=_; rw [HP.out,take_step (mkOf vs os) hck]
   have p0:wr.cell? ⟨w.heap.size,0,none⟩=some (.slice a sn ks):=(hb.cell (p:=⟨w.heap.size,0,none⟩) u0).trans y0
   have v0:w.heap.size < wr.heap.size:=by omega
   have hgr:g < wr.heap.size:=by omega
   have hBf:Below w.heap.size w (wr.alloc (.cells #[.int .u8 r.l,.int .i64 r.p,.int .u8 r.fl,.int .i64 r.fp,.slice r.f.a r.f.n r.f.c] 148)):=hB.alloc hB.size _
   have CF:=makingOf_any a sn ks vs os ob r c _ (HV.out.below hBf) (hrel.below hBf) hc6.1 hc6.2
   unfold rcA MkPost at CF
   generalize mkOf vs os c=M at CF HST
   obtain ⟨Ml,Mf,Ms,Mr⟩:=M
   simp only [] at CF
   have BWr:Below wr.heap.size wr (wr.alloc (.cells #[.int .u8 r.l,.int .i64 r.p,.int .u8 r.fl,.int .i64 r.fp,.slice r.f.a r.f.n r.f.c] 148)):=(Below.refl _ _).alloc (Nat.le_refl _) _
   clear hr hrk hck hrel hc6 hgc
   rw [hga] at *
   go_wp2_with fail
   refine CF.mono ?_
   rintro e w4 ⟨fa,fn,fc,ra,rn,rc,rus,rfl,F4',R4',B4'⟩
   have B4:Below wr.heap.size wr w4:=BWr.trans (B4'.mono (by simp))
   have hs4:wr.heap.size < w4.heap.size:=by have:=B4'.size; simp at this; omega
   have F4:FVb w4 (w.heap.size+3) (SV.val ⟨fa,fn,fc⟩) Mf:=F4'.mono (by simp; omega)
   have R4:Rls w4 (w.heap.size+3) (SV.val ⟨ra,rn,rc⟩) rus Mr:=R4'.mono (by simp; omega)
   have V4:=HVV.out.below B4
   have V4r:=V4.row
   rw [HVK.out] at V4r
   have e1:w4.cell? ⟨w.heap.size+1+1,0,none⟩=some (.slice va j vc):=(B4.cell (p:=⟨w.heap.size+1+1,0,none⟩) hsz).trans d0
   have ef1:w4.frozen? ⟨w.heap.size+1+1,0,none⟩=false:=(B4.frozen (p:=⟨w.heap.size+1+1,0,none⟩) hsz).trans df0
   have hW4:w.heap.size+1+1 < w4.heap.size:=by omega
   have HB4:Hid (Below W.heap.size W w4):=hb.trans (B4.mono (by omega))
   clear CF F4' R4' B4' BWr hBf x0 x1 x2 x3 x4 p0 d0 df0 hb hB
   go_wp2_with (at_builtin; refine wpList_append_own _ rfl _ _ 54 rfl (w.heap.size+3) 134 iM (.agg #[.int .u8 0,.slice none 0 0,.int .u8 0,.slice none 0 0]) 4 64 Tryz.underlying54 hiM hzM0 hzM1 hzM2 rfl (by decide) _ j (flatMk us) rfl ((V4r.alloc _).alloc _) ⟨w4.heap.size+1,0,none⟩ 1 1 [.int .u8 Ml,.slice fa fn fc,.int .u8 Ms,.slice ra rn rc] rfl rfl ?c1 ?c2 ?c3 ?c4 ?c5 ?_)
   case c1=>exact cell_four _ _ _ _ _ _ _
   case c2=>intro u hu; simp at hu; rcases hu with rfl | rfl | rfl | rfl <;> rfl
   case c3=>unfold maxLen; omega
   case c4=>omega
   case c5=>simp; omega
   intro v' w5 hown hgr5 _
   rw [← HVK.out] at hown
   have hg5:w4.grownBy w5 (Value.ownBlock (.slice va j vc)):=gb_trans (gb_trans (World.grownBy_alloc _ _ _) (World.grownBy_alloc _ _ _)) hgr5
   have V5':=V4.app (p:=⟨Ml,⟨fa,fn,fc⟩,Ms,⟨ra,rn,rc⟩⟩) (m:=⟨Ml,Mf,Ms,Mr⟩) rfl rfl F4 R4 hown hg5
   rw [← HST.out] at V5'
   obtain ⟨qc,qf,ql⟩:=own_loc V4r hg5 (r:=w.heap.size+1+1) (by omega) hW4
   have g1:w5.cell? ⟨w.heap.size+1+1,0,none⟩=some (.slice va j vc):=by rw [qc]; exact e1
   have gf1:w5.frozen? ⟨w.heap.size+1+1,0,none⟩=false:=by rw [qf]; exact ef1
   have B5:Below W.heap.size W w5:=HB4.out.grown hg5 (by omega) (fun x hx=>by have:=(World.ownsRow.lt V4r x hx).1; omega)
   obtain ⟨va',vc',hv'⟩:=V5'.shape
   have hl1:(pms.take (j+1)).length=j+1:=by rw [List.length_take,HP.out,List.length_map,← HN.out.2]; omega
   rw [hl1] at hv'
   subst hv'
   have V6:=V5'.kept (gb_set w5 (w.heap.size+1+1) 0 (.slice va' (j+1) vc')) (by omega)
   have B6:Below W.heap.size W (w5.setCell ⟨w.heap.size+1+1,0,none⟩ (.slice va' (j+1) vc')):=B5.setCell (by show W.heap.size≤w.heap.size+1+1; omega) _
   clear hown hgr5 hg5 V5' V4 V4r F4 R4 qc qf hl1 e1 ef1
   go_wp2
   refine ⟨⟨j+1,_,_,by omega,rfl,V6,?_,?_,?_,B6⟩,by simp [intOf]; omega⟩
   ·go_simp
   ·go_simp
   ·simpa using ql
  ·obtain rfl:j=m:=by omega
   have hfull:pms.take j=pms:=List.take_of_length_le (by rw [HP.out,List.length_map,← HN.out.2]; omega)
   have V:=HVV.out
   rw [hfull] at V
   have a0:wr.cell? ⟨w.heap.size+1,0,none⟩=some (.slice none 0 0):=(hb.cell (p:=⟨w.heap.size+1,0,none⟩) u1).trans y1
   have b0:wr.frozen? ⟨w.heap.size+1,0,none⟩=false:=(hb.frozen (p:=⟨w.heap.size+1,0,none⟩) u1).trans y2
   have v4:w.heap.size+1 < wr.heap.size:=by omega
   clear hfull hb
   go_wp2
   refine bodyPost_ret (v:=.agg #[.slice va j vc]) (by simp [results,Tryz.results102,go_sem,a0]) rfl ⟨_,_,_,us,rfl,?_,?_⟩
   ·exact (V.kept (gb_set _ (w.heap.size+1) _ _) (by omega)).mono (by omega)
   ·exact hB.setCell (by show _≤w.heap.size+1; omega) _
end Go.Proofs.YtbgilndohccicaaGreatDoor
namespace Go.Proofs.YtbgilndohccicaaGreatDoor
open Go.RowKit
def Bd (s:ByteArray) (f:Nat→List GT→SumR):Prop:=∀ k ts,k≤s.size→(f k ts).at_≤s.size
theorem gNum_bd (s:ByteArray):∀ n k v,k≤s.size→(gNum s n k v).2≤s.size:=by
 intro n
 induction n with
 | zero=>intro k v h; exact h
 | succ n ih =>
  intro k v h
  rw [gNum]
  split
  ·rename_i hd
   have hk:k < s.size:=nextB_pos (by omega)
   split
   ·exact hk
   ·exact ih _ _ hk
  ·exact h
theorem facR_bd (s:ByteArray) (sm:Option (Nat→List GT→SumR)) (h:∀ f,sm=some f→Bd s f):Bd s (facR s sm):=by
 intro k ts hk
 unfold facR
 split
 ·exact gNum_bd s 9 k 0 hk
 ·split
  ·rename_i hl
   exact nextB_pos (by omega)
  ·split
   ·exact hk
   ·rename_i h40
    have hk':k < s.size:=nextB_pos (by omega)
    cases sm with
    | none=>exact hk
    | some f =>
     have hb:=h f rfl (k+1) ts hk'
     simp only []
     split
     ·rename_i h41
      exact nextB_pos (by rw [h41.2]; omega)
     ·exact hb
theorem opLoop_bd (s:ByteArray) (p:Int→Bool) (hp:p 0=false) (f:Nat→List GT→SumR) (h:Bd s f):∀ n r,r.at_≤s.size→(opLoop s p f n r).at_≤s.size:=by
 intro n
 induction n with
 | zero=>intro r hr; exact hr
 | succ n ih =>
  intro r hr
  rw [opLoop]
  split
  ·rename_i hs
   have hk:r.at_ < s.size:=by
    rcases Nat.lt_or_ge r.at_ s.size with h' | h'
    ·exact h'
    ·exfalso
     rw [nextB_out (by omega),hp] at hs
     exact Bool.false_ne_true hs.2
   exact ih _ (h (r.at_+1) r.ts hk)
  ·exact hr
theorem prodR_bd (s:ByteArray) (sm:Option (Nat→List GT→SumR)) (h:∀ f,sm=some f→Bd s f):Bd s (prodR s sm):=fun k ts hk=>opLoop_bd s isMul rfl _ (facR_bd s sm h) _ _ (facR_bd s sm h k ts hk)
theorem sumR0_bd (s:ByteArray) (sm:Option (Nat→List GT→SumR)) (h:∀ f,sm=some f→Bd s f):Bd s (sumR0 s sm):=fun k ts hk=>opLoop_bd s isAdd rfl _ (prodR_bd s sm h) _ _ (prodR_bd s sm h k ts hk)
theorem sumRL_bd (s:ByteArray):∀ n,Bd s (sumRL s n):=by
 intro n
 induction n with
 | zero=>exact sumR0_bd s none (fun f h=>by cases h)
 | succ n ih=>exact sumR0_bd s (some (sumRL s n)) (fun f h=>by cases h; exact ih)
end Go.Proofs.YtbgilndohccicaaGreatDoor
namespace Go.Proofs.YtbgilndohccicaaGreatDoor
open Go.RowKit
def vsO (os:Sch):List (Int×SV):=os.map fun c=>(c.1,⟨none,0,0⟩)
theorem vsO_ls (os:Sch):(vsO os).map (·.1)=os.map (·.1):=by simp [vsO,Function.comp_def]
theorem hasC_congr {vs vs':List (Int×SV)} (h:vs.map (·.1)=vs'.map (·.1)) (x:Int):hasC vs x=hasC vs' x:=by
 have e:∀ l:List (Int×SV),hasC l x=(l.map (·.1)).any (fun p=>p==x):=fun l=>by unfold hasC; rw [List.any_map]; rfl
 rw [e,e,h]
theorem srcI_congr {vs vs':List (Int×SV)} (h:vs.map (·.1)=vs'.map (·.1)) (l fl:Int):srcI vs l fl=srcI vs' l fl:=by
 unfold srcI; rw [hasC_congr h]
theorem stw_congr {vs vs':List (Int×SV)} (h:vs.map (·.1)=vs'.map (·.1)):∀ (cs:List GCd) (ls:List Int),stw vs ls cs=stw vs' ls cs:=by
 intro cs
 induction cs with
 | nil=>intro ls; rfl
 | cons c r ih=>intro ls; rw [stw,stw,srcI_congr h,ih]
theorem fTw_congr {vs vs':List (Int×SV)} (h:vs.map (·.1)=vs'.map (·.1)) (cs:List GCd):fTw vs cs=fTw vs' cs:=by unfold fTw; rw [stw_congr h]
theorem gFault_congr {vs vs':List (Int×SV)} (h:vs.map (·.1)=vs'.map (·.1)) (os:Sch):∀ cs:List GCd,gFault vs os cs=gFault vs' os cs:=by
 intro cs
 induction cs with
 | nil=>rfl
 | cons c r ih=>rw [gFault,gFault,srcI_congr h,hasC_congr h,ih]
theorem mkOf_congr {vs vs':List (Int×SV)} (h:vs.map (·.1)=vs'.map (·.1)) (os:Sch) (c:GCd):mkOf vs os c=mkOf vs' os c:=by unfold mkOf; rw [srcI_congr h]
def uR (s:ByteArray):GCSR:=gcLoop upRule upFrom s 6 [] 0
def uE (os:Sch) (s:ByteArray):Int:=if gdE (uR s) s≠0 then gdE (uR s) s else if fTw (vsO os) (uR s).cs≠-1 then 3 else (gFault (vsO os) os (uR s).cs).1
def uP (os:Sch) (s:ByteArray):Int:=if gdE (uR s) s≠0 then gdP (uR s) s else if fTw (vsO os) (uR s).cs≠-1 then fTw (vsO os) (uR s).cs else if (gFault (vsO os) os (uR s).cs).1≠0 then (gFault (vsO os) os (uR s).cs).2 else 0
def uM (os:Sch) (s:ByteArray):List PM:=if uE os s=0 then (uR s).cs.map (mkOf (vsO os) os) else []
theorem rule_bound (s:ByteArray) (k:Nat):(upRule s k).ts.length≤s.size:=by
 unfold upRule
 by_cases h:nextB s k=61
 ·rw [if_pos h]
  have hk:k < s.size:=nextB_pos (by omega)
  cases hok:(sumRL s 6 (k+1) []).ok with
  | true =>
   rw [if_pos rfl]
   have h1:=sumRL_bd s 6 (k+1) [] hk
   have h2:=(sumRL_grow s 6 (k+1) []).2
   simp only [List.length_nil] at h2 h1 ⊢
   omega
  | false=>rw [if_neg (by decide)]; exact Nat.zero_le _
 ·rw [if_neg h]; exact Nat.zero_le _
theorem field_bound (s:ByteArray) (k:Nat):(gdField upRule s k).f.ts.length≤s.size:=by
 unfold gdField
 split
 ·exact Nat.zero_le _
 ·split
  ·exact Nat.zero_le _
  ·split
   ·exact Nat.zero_le _
   ·split
    ·exact Nat.zero_le _
    ·exact rule_bound s _
theorem loop_bound (s:ByteArray):∀ n fs k,fs.length+n≤6→(∀ f∈fs,f.ts.length≤s.size)→(gdLoop upRule s n fs k).fs.length≤6∧∀ f∈(gdLoop upRule s n fs k).fs,f.ts.length≤s.size:=by
 intro n
 induction n with
 | zero=>intro fs k _ _; rw [gdLoop]; exact ⟨Nat.zero_le _,fun f hf=>by simp at hf⟩
 | succ n ih =>
  intro fs k hn hf
  have F:=field_bound s k
  have hf':∀ f∈fs++[(gdField upRule s k).f],f.ts.length≤s.size:=by
   intro f hm
   rcases List.mem_append.1 hm with h | h
   ·exact hf f h
   ·simp at h; rw [h]; exact F
  rw [gdLoop]
  split
  ·exact ⟨Nat.zero_le _,fun f hf=>by simp at hf⟩
  ·split
   ·exact ⟨by simp; omega,hf'⟩
   ·split
    ·exact ⟨Nat.zero_le _,fun f hf=>by simp at hf⟩
    ·exact ih _ _ (by simp; omega) hf'
theorem fields_bound (s:ByteArray) (k:Nat):(gdFields upRule s k).fs.length≤6∧∀ f∈(gdFields upRule s k).fs,f.ts.length≤s.size:=by
 unfold gdFields
 split
 ·exact ⟨Nat.zero_le _,fun f hf=>by simp at hf⟩
 ·exact loop_bound s 6 [] k (Nat.le_refl _) (fun f hf=>by simp at hf)
theorem class_bound (s:ByteArray) (k:Nat):(gdClass upRule upFrom s k).c.fs.length≤6∧∀ f∈(gdClass upRule upFrom s k).c.fs,f.ts.length≤s.size:=by
 have z:(zC.fs.length≤6∧∀ f∈zC.fs,f.ts.length≤s.size):=⟨Nat.zero_le _,fun f hf=>by simp [zC] at hf⟩
 unfold gdClass
 split
 ·exact z
 ·split
  ·exact z
  ·split
   ·exact z
   ·split
    ·exact z
    ·exact fields_bound s _
theorem classes_bound (s:ByteArray):∀ n cs k,cs.length+n≤6→(∀ c∈cs,c.fs.length≤6∧∀ f∈c.fs,f.ts.length≤s.size)→(gcLoop upRule upFrom s n cs k).cs.length≤6∧∀ c∈(gcLoop upRule upFrom s n cs k).cs,c.fs.length≤6∧∀ f∈c.fs,f.ts.length≤s.size:=by
 intro n
 induction n with
 | zero=>intro cs k _ _; rw [gcLoop]; exact ⟨Nat.zero_le _,fun f hf=>by simp at hf⟩
 | succ n ih =>
  intro cs k hn hc
  have F:=class_bound s k
  have hc':∀ c∈cs++[(gdClass upRule upFrom s k).c],c.fs.length≤6∧∀ f∈c.fs,f.ts.length≤s.size:=by
   intro c hm
   rcases List.mem_append.1 hm with h | h
   ·exact hc c h
   ·simp at h; rw [h]; exact F
  rw [gcLoop]
  split
  ·exact ⟨Nat.zero_le _,fun f hf=>by simp at hf⟩
  ·split
   ·exact ⟨by simp; omega,hc'⟩
   ·exact ih _ _ (by simp; omega) hc'
theorem uR_bound (s:ByteArray):(uR s).cs.length≤6∧∀ c∈(uR s).cs,c.fs.length≤6∧∀ f∈c.fs,f.ts.length≤s.size:=classes_bound s 6 [] 0 (Nat.le_refl _) (fun c hc=>by simp at hc)
def RUPost (os:Sch) (s:ByteArray) (w:World) (e:Ending) (w':World):Prop:=∃ (a:Option Addr) (n c:Nat) (mv:List MV),
 e=.returned (.tuple #[.agg #[.slice a n c],.int .i64 (uE os s),.int .i64 (uP os s)])∧Mks w' w.heap.size (.slice a n c) mv (uM os s)∧Below w.heap.size w w'
set_option maxHeartbeats 1000000 in
set_option maxRecDepth 20000 in
theorem uread_any {a:Option Addr} {sn ks:Nat} {vs:List (Int×SV)} {os:Sch} {ob:Nat} {w:World} (s:ByteArray) (hv:Cls w ob (.slice a sn ks) vs os) (hm:s.size≤9223372036854775807) :
  Calls Tryz.prog 80 #[.agg #[.slice a sn ks],.string s] w (RUPost os s w):=by
 have hls:vs.map (·.1)=(vsO os).map (·.1):=hv.ls.trans (vsO_ls os).symm
 obtain ⟨W,hW⟩:∃ W,W=(w.alloc (.cells #[.slice a sn ks] 45)).alloc (.cells #[.slice none 0 0] 56):=⟨_,rfl⟩
 have B0:Below w.heap.size w W:=by rw [hW]; exact ((Below.refl _ _).alloc (Nat.le_refl _) _).alloc (by simp) _
 have z0:W.heap.size=w.heap.size+1+1:=by rw [hW]; simp
 have y0:W.cell? ⟨w.heap.size,0,none⟩=some (.slice a sn ks):=by rw [hW]; go_simp
 have y1:W.cell? ⟨w.heap.size+1,0,none⟩=some (.slice none 0 0):=by rw [hW]; go_simp
 have y2:W.frozen? ⟨w.heap.size+1,0,none⟩=false:=by rw [hW]; go_simp
 have u0:w.heap.size < W.heap.size:=by omega
 have u1:w.heap.size+1 < W.heap.size:=by omega
 have C1:=readUpdate_any s W hm
 unfold GReadPost at C1
 have hb:=uR_bound s
 have hE0:gdE (uR s) s=0→s.size≤200∧gdC (uR s) s=(uR s).cs∧gdP (uR s) s=0:=by
  intro h
  unfold gdE at h
  unfold gdC gdP
  by_cases h1:200 < s.size
  ·rw [if_pos h1] at h; omega
  ·rw [if_neg h1] at h
   by_cases h2:(uR s).ok=false
   ·rw [if_pos h2] at h; omega
   ·rw [if_neg h1,if_neg h2,if_neg h1,if_neg h2]; exact ⟨by omega,rfl,rfl⟩
 obtain ⟨E,hE⟩:∃ E,uE os s=E:=⟨_,rfl⟩
 obtain ⟨P,hP⟩:∃ P,uP os s=P:=⟨_,rfl⟩
 obtain ⟨M,hM⟩:∃ M,uM os s=M:=⟨_,rfl⟩
 unfold RUPost
 rw [hE,hP,hM]
 unfold uM at hM
 rw [hE] at hM
 unfold uE at hE
 unfold uP at hP
 rw [← fTw_congr hls,← gFault_congr hls] at hE hP
 have hmk:(uR s).cs.map (mkOf (vsO os) os)=(uR s).cs.map (mkOf vs os):=List.map_congr_left fun c _=>(mkOf_congr hls os c).symm
 rw [hmk] at hM
 change ∀ _,_ at hE0
 have C1':Calls Tryz.prog 99 #[.string s] W fun e w'=>∃ (a:Option Addr) (n c:Nat) (rs:List RCd),
   e=.returned (.tuple #[.slice a n c,.int .i64 (gdE (uR s) s),.int .i64 (gdP (uR s) s)])∧GCs w' W.heap.size (.slice a n c) rs (gdC (uR s) s)∧Below W.heap.size W w':=C1
 clear C1 hmk hls
 generalize gdE (uR s) s=e1 at C1' hE0 hE hP
 generalize gdP (uR s) s=p1 at C1' hE0 hP
 generalize gdC (uR s) s=cs1 at C1' hE0
 generalize (uR s).cs=cs at hE0 hE hP hM hb
 have HV:Hid (Cls w ob (.slice a sn ks) vs os):=hv
 by_cases h1:e1=0
 ·obtain ⟨hs,rfl,rfl⟩:=hE0 h1
  rw [if_neg (by simpa using h1)] at hE hP
  have q1:(e1 != 0)=false:=by simp [h1]
  have C2:=fun W2 (hW2:Below w.heap.size w W2) va vn vc rs (V:GCs W2 W.heap.size (.slice va vn vc) rs cs1)=>findTwice_any (HV.out.below hW2).cv V
  have C3:=fun W2 (hW2:Below w.heap.size w W2) va vn vc rs (V:GCs W2 W.heap.size (.slice va vn vc) rs cs1)=>findFault_any (HV.out.below hW2) V
  have C4:=fun W2 (hW2:Below w.heap.size w W2) va vn vc rs (V:GCs W2 W.heap.size (.slice va vn vc) rs cs1)=>updateOf_any (HV.out.below hW2) V hb.1 (fun c hc=>⟨(hb.2 c hc).1,fun f hf=>Nat.le_trans ((hb.2 c hc).2 f hf) (by omega)⟩)
  unfold FN2 at C3
  unfold UpPost at C4
  generalize fTw vs cs1=tw at C2 hE hP
  generalize gFault vs os cs1=gf at C3 hE hP
  obtain ⟨g1,g2⟩:=gf
  simp only [] at C3 hE hP
  generalize cs1.map (mkOf vs os)=ms at C4 hM
  have HE:Hid ((if tw≠-1 then 3 else g1)=E):=hE
  have HP:Hid ((if tw≠-1 then tw else if g1≠0 then g2 else 0)=P):=hP
  have HM:Hid ((if E=0 then ms else [])=M):=hM
  have HC4:=C4
  clear h1 hE0 hE hP hM hv C4 hb hs
  go_enter Tryz.func80,Tryz.ntmps80
  go_wp2_with fail
  rw [← hW]
  clear hW
  refine C1'.mono ?_
  rintro e w1 ⟨va,vn,vc,rs,rfl,V1,B1⟩
  have BW1:Below w.heap.size w w1:=B0.trans (B1.mono B0.size)
  have x0:w1.cell? ⟨w.heap.size,0,none⟩=some (.slice a sn ks):=(B1.cell (p:=⟨w.heap.size,0,none⟩) u0).trans y0
  have x1:w1.cell? ⟨w.heap.size+1,0,none⟩=some (.slice none 0 0):=(B1.cell (p:=⟨w.heap.size+1,0,none⟩) u1).trans y1
  have x2:w1.frozen? ⟨w.heap.size+1,0,none⟩=false:=(B1.frozen (p:=⟨w.heap.size+1,0,none⟩) u1).trans y2
  have z1:w.heap.size+1 < w1.heap.size:=by have:=B1.size; omega
  have z1':w.heap.size < w1.heap.size:=by omega
  have D2:=C2 w1 BW1 va vn vc rs V1
  clear C1' C2 B1
  go_wp2_with fail
  refine D2.mono ?_
  rintro e w2 ⟨rfl,B2⟩
  have BW2:Below w.heap.size w w2:=BW1.trans (B2.mono BW1.size)
  have V2:=V1.below B2
  have x0a:w2.cell? ⟨w.heap.size,0,none⟩=some (.slice a sn ks):=(B2.cell (p:=⟨w.heap.size,0,none⟩) z1').trans x0
  have x1a:w2.cell? ⟨w.heap.size+1,0,none⟩=some (.slice none 0 0):=(B2.cell (p:=⟨w.heap.size+1,0,none⟩) z1).trans x1
  have x2a:w2.frozen? ⟨w.heap.size+1,0,none⟩=false:=(B2.frozen (p:=⟨w.heap.size+1,0,none⟩) z1).trans x2
  have z2:w.heap.size+1 < w2.heap.size:=by have:=B2.size; omega
  have z2':w.heap.size < w2.heap.size:=by omega
  have D3:=C3 w2 BW2 va vn vc rs V2
  clear D2 C3 B2 V1
  by_cases h2:tw=-1
  ·have q2:(tw != -1)=false:=by simp [h2]
   have HE2:Hid (g1=E):=by have:=HE.out; rw [if_neg (by simpa using h2)] at this; exact this
   have HP2:Hid ((if g1≠0 then g2 else 0)=P):=by have:=HP.out; rw [if_neg (by simpa using h2)] at this; exact this
   clear h2
   go_wp2_with fail
   refine D3.mono ?_
   rintro e w3 ⟨rfl,B3⟩
   have BW3:Below w.heap.size w w3:=BW2.trans (B3.mono BW2.size)
   have V3:=V2.below B3
   have x0b:w3.cell? ⟨w.heap.size,0,none⟩=some (.slice a sn ks):=(B3.cell (p:=⟨w.heap.size,0,none⟩) z2').trans x0a
   have x1b:w3.cell? ⟨w.heap.size+1,0,none⟩=some (.slice none 0 0):=(B3.cell (p:=⟨w.heap.size+1,0,none⟩) z2).trans x1a
   have x2b:w3.frozen? ⟨w.heap.size+1,0,none⟩=false:=(B3.frozen (p:=⟨w.heap.size+1,0,none⟩) z2).trans x2a
   have z3:w.heap.size+1 < w3.heap.size:=by have:=B3.size; omega
   have z3':w.heap.size < w3.heap.size:=by omega
   have D4:=HC4 w3 BW3 va vn vc rs V3
   clear D3 HC4 B3 V2
   by_cases h3:g1=0
   ·have q3:(g1 != 0)=false:=by simp [h3]
    have HE3:Hid (E=0):=by show E=0; rw [← HE2.out]; exact h3
    have HP3:Hid (P=0):=by have:=HP2.out; rw [if_neg (by simpa using h3)] at this; exact this.symm
    have HM3:Hid (M=ms):=by have:=HM.out; rw [if_pos HE3.out] at this; exact this.symm
    clear h3
    go_wp2_with fail
    refine D4.mono ?_
    rintro e w4 ⟨ua,un,uc,mv,rfl,K4,B4⟩
    have BW4:Below w.heap.size w w4:=BW3.trans (B4.mono BW3.size)
    have x1c:w4.cell? ⟨w.heap.size+1,0,none⟩=some (.slice none 0 0):=(B4.cell (p:=⟨w.heap.size+1,0,none⟩) z3).trans x1b
    have x2c:w4.frozen? ⟨w.heap.size+1,0,none⟩=false:=(B4.frozen (p:=⟨w.heap.size+1,0,none⟩) z3).trans x2b
    have z4:w.heap.size+1 < w4.heap.size:=by have:=B4.size; omega
    clear D4 B4
    go_wp2
    refine bodyPost_ret (v:=.tuple #[.agg #[.slice ua un uc],.int .i64 0,.int .i64 0]) (by simp [results,Tryz.results80,go_sem,x1c]) rfl ⟨_,_,_,mv,by rw [HE3.out,HP3.out],?_,?_⟩
    ·rw [HM3.out]; exact (K4.kept (gb_set _ (w.heap.size+1) _ _) (by omega)).mono (by omega)
    ·exact BW4.setCell (by show _≤w.heap.size+1; omega) _
   ·have q3:(g1 != 0)=true:=by simp [h3]
    have HP3:Hid (P=g2):=by have:=HP2.out; rw [if_pos h3] at this; exact this.symm
    have HM3:Hid (M=[]):=by have:=HM.out; rw [if_neg (by rw [← HE2.out]; exact h3)] at this; exact this.symm
    clear h3 D4
    go_wp2
    refine bodyPost_ret (v:=.tuple #[.agg #[.slice none 0 0],.int .i64 g1,.int .i64 g2]) (by simp [results,Tryz.results80,go_sem,x1b]) rfl ⟨_,_,_,[],by rw [HE2.out,HP3.out],?_,?_⟩
    ·rw [HM3.out]; exact Mks.nil _ _
    ·exact BW3.setCell (by show _≤w.heap.size+1; omega) _
  ·have q2:(tw != -1)=true:=by simp [h2]
   have HE2:Hid (E=3):=by have:=HE.out; rw [if_pos h2] at this; exact this.symm
   have HP2:Hid (P=tw):=by have:=HP.out; rw [if_pos h2] at this; exact this.symm
   have HM3:Hid (M=[]):=by have:=HM.out; rw [if_neg (by rw [HE2.out]; decide)] at this; exact this.symm
   clear h2 D3 HC4
   go_wp2
   refine bodyPost_ret (v:=.tuple #[.agg #[.slice none 0 0],.int .i64 3,.int .i64 tw]) (by simp [results,Tryz.results80,go_sem,x1a]) rfl ⟨_,_,_,[],by rw [HE2.out,HP2.out],?_,?_⟩
   ·rw [HM3.out]; exact Mks.nil _ _
   ·exact BW2.setCell (by show _≤w.heap.size+1; omega) _
 ·rw [if_pos h1] at hE hP
  have q1:(e1 != 0)=true:=by simp [h1]
  have HE:Hid (e1=E∧p1=P):=⟨hE,hP⟩
  have HM:Hid (M=[]):=by show M=[]; rw [← hM,if_neg (by rw [← hE]; exact h1)]
  clear h1 hE0 hE hP hM hv hb
  go_enter Tryz.func80,Tryz.ntmps80
  go_wp2_with fail
  rw [← hW]
  clear hW
  refine C1'.mono ?_
  rintro e w1 ⟨va,vn,vc,rs,rfl,V1,B1⟩
  have BW1:Below w.heap.size w w1:=B0.trans (B1.mono B0.size)
  have x1:w1.cell? ⟨w.heap.size+1,0,none⟩=some (.slice none 0 0):=(B1.cell (p:=⟨w.heap.size+1,0,none⟩) u1).trans y1
  have x2:w1.frozen? ⟨w.heap.size+1,0,none⟩=false:=(B1.frozen (p:=⟨w.heap.size+1,0,none⟩) u1).trans y2
  have z1:w.heap.size+1 < w1.heap.size:=by have:=B1.size; omega
  clear C1' B1 V1
  go_wp2
  refine bodyPost_ret (v:=.tuple #[.agg #[.slice none 0 0],.int .i64 e1,.int .i64 p1]) (by simp [results,Tryz.results80,go_sem,x1]) rfl ⟨_,_,_,[],by rw [HE.out.1,HE.out.2],?_,?_⟩
  ·rw [HM.out]; exact Mks.nil _ _
  ·exact BW1.setCell (by show _≤w.heap.size+1; omega) _
end Go.Proofs.YtbgilndohccicaaGreatDoor
namespace Go.Proofs.YtbgilndohccicaaGreatDoor
open Go.RowKit
def fitE (sc s:ByteArray):Int:=if readE sc≠0 then readE sc else uE (readC sc) s
def fitP (sc s:ByteArray):Int:=if readE sc≠0 then readP sc else uP (readC sc) s
set_option maxHeartbeats 400000 in
theorem fitsU_any (sc s:ByteArray) (w:World) (hm:sc.size≤9223372036854775807) (hm2:s.size≤9223372036854775807) :
  Calls Tryz.prog 59 #[.string sc,.string s] w fun e w'=>e=.returned (.tuple #[.int .i64 (fitE sc s),.int .i64 (fitP sc s)])∧Below w.heap.size w w':=by
 have C:=read_any sc w hm
 unfold RPost at C
 obtain ⟨F1,hF1⟩:∃ F1,fitE sc s=F1:=⟨_,rfl⟩
 obtain ⟨F2,hF2⟩:∃ F2,fitP sc s=F2:=⟨_,rfl⟩
 rw [hF1,hF2]
 unfold fitE at hF1
 unfold fitP at hF2
 generalize readE sc=e1 at C hF1 hF2
 generalize readP sc=p1 at C hF2
 generalize readC sc=os at C hF1 hF2
 have HF:Hid ((if e1≠0 then e1 else uE os s)=F1∧(if e1≠0 then p1 else uP os s)=F2):=⟨hF1,hF2⟩
 clear hF1 hF2
 by_cases h1:e1=0
 ·have q1:(e1 != 0)=false:=by simp [h1]
  have H1:Hid (uE os s=F1):=by have:=HF.out.1; rw [if_neg (by simpa using h1)] at this; exact this
  have H2:Hid (uP os s=F2):=by have:=HF.out.2; rw [if_neg (by simpa using h1)] at this; exact this
  clear h1
  go_enter Tryz.func59,Tryz.ntmps59
  go_wp2_with fail
  refine C.mono ?_
  rintro e w1 ⟨a,n,c,vs,rfl,V1,B1⟩
  have V2:=V1.below ((Below.refl _ w1).alloc (Nat.le_refl _) (.cells #[.slice a n c] 45))
  have D:=uread_any s V2 hm2
  unfold RUPost at D
  rw [H1.out,H2.out] at D
  clear C
  go_wp2_with fail
  refine D.mono ?_
  rintro e w2 ⟨ua,un,uc,mv,rfl,_,B2⟩
  clear D
  go_wp2
  go_ret2
  exact ⟨rfl,(B1.alloc B1.size _).trans (B2.mono (by have:=B1.size; simp; omega))⟩
 ·have q1:(e1 != 0)=true:=by simp [h1]
  have H1:Hid (e1=F1):=by have:=HF.out.1; rw [if_pos h1] at this; exact this
  have H2:Hid (p1=F2):=by have:=HF.out.2; rw [if_pos h1] at this; exact this
  clear h1
  go_enter Tryz.func59,Tryz.ntmps59
  go_wp2_with fail
  refine C.mono ?_
  rintro e w1 ⟨a,n,c,vs,rfl,V1,B1⟩
  clear C V1
  go_wp2
  go_ret2
  exact ⟨by rw [H1.out,H2.out]; rfl,B1.alloc B1.size _⟩
end Go.Proofs.YtbgilndohccicaaGreatDoor
