import Derived.Test.YtbgilndohccicaaGreatDoorBz42
import Derived.Test.YtbgilndohccicaaGreatDoorBz11
import Derived.Test.YtbgilndohccicaaGreatDoorBz19
namespace Go.Proofs.YtbgilndohccicaaGreatDoor
open Go.RowKit
theorem gFlds_zero {fs:List (Int×Int)}:∀ {l:List GFd},(gFlds fs l).1=0→∀ f∈l,(fFld fs f).1=0:=by
 intro l
 induction l with
 | nil=>intro _ f hf; simp at hf
 | cons f r ih =>
  intro h g hg
  rw [gFlds] at h
  by_cases h0:(fFld fs f).1≠0
  ·rw [if_pos h0] at h; exact absurd h h0
  ·rw [if_neg h0] at h
   rcases List.mem_cons.1 hg with rfl | hg
   ·exact Classical.not_not.1 h0
   ·exact ih h g hg
theorem gFault_zero {vs:List (Int×SV)} {os:Sch}:∀ {l:List GCd},(gFault vs os l).1=0→∀ c∈l,(gFlds (fof os (srcI vs c.l c.fl)) c.fs).1=0:=by
 intro l
 induction l with
 | nil=>intro _ f hf; simp at hf
 | cons c r ih =>
  intro h g hg
  rw [gFault] at h
  by_cases h1:c.fl≠0∧hasC vs (srcI vs c.l c.fl)=false
  ·rw [if_pos h1] at h; simp at h
  ·rw [if_neg h1] at h
   by_cases h0:(gFlds (fof os (srcI vs c.l c.fl)) c.fs).1≠0
   ·rw [if_pos h0] at h; exact absurd h h0
   ·rw [if_neg h0] at h
    rcases List.mem_cons.1 hg with rfl | hg
    ·exact Classical.not_not.1 h0
    ·exact ih h g hg
theorem num_agree {cs:Sch} {p:PH} {r:DH} {M:Nat→Nat→Prop} (B:Bis cs p r M) (h6:∀ c∈cs,c.2.length≤6) {a o:Nat} (hM:M a (o+1)) {c:Int} (h1:(kdF (fof cs (p.K a)) c).2=true) (h2:(kdF (fof cs (p.K a)) c).1≠114) :
  numAt (p.N a) (idxF (fof cs (p.K a)) c)=ltR cs r o c:=by
 have hl:=fof_le h6 (p.K a)
 have hK:=B.cls a (o+1) hM
 unfold ltR
 rw [← hK]
 obtain ⟨fs,hfs⟩:∃ fs,fs=fof cs (p.K a):=⟨_,rfl⟩
 have Bn:=B.num a (o+1) hM
 rw [← hfs] at h1 h2 hl Bn ⊢
 have hlt:=idxF_ltU fs c
 unfold kdF at h1 h2
 by_cases h0:idxF fs c < 0
 ·rw [if_pos h0] at h1; cases h1
 ·rw [if_neg h0] at h2 ⊢
  obtain ⟨i,hi⟩:=Int.eq_ofNat_of_zero_le (by omega:0≤idxF fs c)
  rw [hi] at hlt h2 ⊢
  have hil:i < fs.length:=by omega
  have hf:fs[i]?=some (fs[i]'hil):=List.getElem?_eq_getElem hil
  simp only [Int.toNat_natCast] at h2 ⊢
  rw [hf] at h2
  unfold numAt
  rw [if_pos (by omega),Int.toNat_natCast]
  exact Bn i _ hf h2
theorem ltR_bd {cs:Sch} {r:DH} (hW:Wf cs r) {o:Nat} (ho:o < r.n) (c:Int):-9223372036854775808≤ltR cs r o c∧ltR cs r o c≤9223372036854775807:=by
 unfold ltR
 split
 ·omega
 ·exact hW.rng _ _ (by omega) (by omega)
theorem lf_known {fs:List (Int×Int)} {c:Int} (h:lf fs c=0) (h1:97≤c) (h2:c≤122):(kdF fs c).2=true∧(kdF fs c).1≠114:=by
 unfold lf at h
 rw [if_pos (isLw_yes ⟨h1,h2⟩)] at h
 by_cases h3:(kdF fs c).2=false
 ·rw [if_pos h3] at h; omega
 ·rw [if_neg h3] at h
  by_cases h4:(kdF fs c).1=114
  ·rw [if_pos h4] at h; omega
  ·exact ⟨by simpa using h3,h4⟩
def ansP (k:Int) (ex:Bool) (v:Int):Int×Int:=if ex=true∧wrK k v≠v then (0,15) else (wrK k v,0)
theorem ansP_eq (k v:Int) (ex:Bool):ansP k ex v=if (!ex || (wrK k v==v))=false then (0,15) else (wrK k v,0):=by
 unfold ansP
 cases ex with
 | false=>simp
 | true =>
  by_cases h:wrK k v=v
  ·rw [if_neg (by simp [h]),if_neg (by simp [h])]
  ·rw [if_pos ⟨rfl,h⟩,if_pos (by simp [h])]
theorem wrK_zero (k:Int):wrK k 0=0:=by unfold wrK; split; rfl; split; rfl; split; rfl; rfl
theorem isLw_bd {x:Int} (h:isLw x=true):97≤x∧x≤122:=by unfold isLw at h; simpa using h
theorem letter_sg {x:Int} (h:97≤x∧x≤122):isOpB x=false∧x≠48:=by
 refine ⟨?_,by omega⟩
 unfold isOpB
 have a1:(x==43)=false:=by simp; omega
 have a2:(x==45)=false:=by simp; omega
 have a3:(x==42)=false:=by simp; omega
 rw [a1,a2,a3]; rfl
theorem fld_agree {s:ByteArray} {cs:Sch} {p:PH} {r:DH} {M:Nat→Nat→Prop} (B:Bis cs p r M) (hW:Wf cs r) (h6:∀ c∈cs,c.2.length≤6) {a o:Nat} (K:KP (fof cs (p.K a))) (hM:M a (o+1)) (ho:o < r.n) {k e:Nat} {f:GFd} {g:GU} (F:FM s k e f g) (hs:s.size≤200) (hk:f.k≠114) (hF:(fFld (fof cs (p.K a)) f).1=0) :
  ∃ sv,(-9223372036854775808≤sv∧sv≤9223372036854775807)∧(g.sm=true→SuN (ltR cs r o) 7 (bl g.su) sv∧g.su.size≤1000)∧ansP f.k (prOf (fof cs (p.K a)) f).ex (top (evP (p.N a) (prOf (fof cs (p.K a)) f).ts []))=if (bcI cs r o sv g).2=false then (0,15) else ((bcI cs r o sv g).1,0):=by
 have hKc:=B.cls a (o+1) hM
 rcases F.sum with ⟨f1,f2⟩ | ⟨f1,f2,f3,f4,f5,f6,f7,f8⟩
 ·refine ⟨0,by omega,fun h=>(by rw [f1] at h; exact absurd h (by decide)),?_⟩
  have e1:prOf (fof cs (p.K a)) f=prNo (fof cs (p.K a)) f:=by unfold prOf; rw [f2]; rfl
  have bc:bcI cs r o 0 g=if (kdF (fof cs (p.K a)) f.l).1=0∨(kdF (fof cs (p.K a)) f.l).1=114 then (0,true) else (wrK f.k (ltR cs r o f.l),true):=by
   unfold bcI; rw [f1,if_neg (by simp),F.n,F.k_,← hKc]
  have q114:(f.k==114)=false:=by simp [hk]
  have pn:prNo (fof cs (p.K a)) f=if (kdF (fof cs (p.K a)) f.l).2=false∨((kdF (fof cs (p.K a)) f.l).1==114)≠false then ⟨[],false⟩ else ⟨[⟨f.l,0,idxF (fof cs (p.K a)) f.l⟩],false⟩:=by
   unfold prNo; rw [q114]
  rw [e1]
  by_cases h1:(kdF (fof cs (p.K a)) f.l).2=false
  ·rw [if_pos (.inl h1)] at pn
   rw [if_pos (.inl (kdF_no h1))] at bc
   rw [pn,bc,if_neg (by simp)]
   have:top (evP (p.N a) [] [])=0:=rfl
   simp only []
   rw [this]
   unfold ansP
   rw [if_neg (by simp),wrK_zero]
  ·have h1':(kdF (fof cs (p.K a)) f.l).2=true:=by simpa using h1
   by_cases h2:(kdF (fof cs (p.K a)) f.l).1=114
   ·rw [if_pos (.inr (by simp [h2]))] at pn
    rw [if_pos (.inr h2)] at bc
    rw [pn,bc,if_neg (by simp)]
    have:top (evP (p.N a) [] [])=0:=rfl
    simp only []
    rw [this]
    unfold ansP
    rw [if_neg (by simp),wrK_zero]
   ·have hp:=K.pos f.l h1'
    have hl:=letter_sg (isLw_bd (K.ltr_ f.l h1'))
    rw [if_neg (by simp [h1',h2])] at pn
    rw [if_neg (by omega)] at bc
    rw [pn,bc,if_neg (by simp)]
    have e2:top (evP (p.N a) [⟨f.l,0,idxF (fof cs (p.K a)) f.l⟩] [])=ltR cs r o f.l:=by
     rw [← num_agree B h6 hM h1' h2]
     show top (evP1 (p.N a) ⟨f.l,0,idxF (fof cs (p.K a)) f.l⟩ [])=_
     unfold evP1
     simp only []
     rw [hl.1,if_neg (by decide),if_neg hl.2]; rfl
    simp only []
    rw [e2]
    unfold ansP
    rw [if_neg (by simp)]
 ·obtain ⟨ps,n,p1,p2,p3,p4,p5⟩:=sumRL_good s (fun c=>numAt (p.N a) (idxF (fof cs (p.K a)) c)) 6 (k+4) [] f5
  rw [List.nil_append] at p1
  have hfn:(fNum (fof cs (p.K a)) f.ts).1=0:=by
   have:=hF; unfold fFld at this; rw [if_neg hk] at this; exact this
  rw [fNum_fL,f6,sum_let f5] at hfn
  have hall:=(fL_first (fof cs (p.K a)) s ((sumRL s 6 (k+4) []).at_ - (k+4)) (k+4)).1 hfn
  have hsn:SuN (ltR cs r o) 7 (bl g.su) n:=by
   rw [f7]
   refine su_congr 7 _ _ p3 fun c hc h1 h2=>?_
   obtain ⟨j,hj,rfl⟩:=List.getElem_of_mem hc
   rw [bl_len] at hj
   have hsz:(s.extract (k+4) (sumRL s 6 (k+4) []).at_).size=(sumRL s 6 (k+4) []).at_ - (k+4):=ext_size p5
   have e3:(bl (s.extract (k+4) (sumRL s 6 (k+4) []).at_))[j]'(by rw [bl_len]; exact hj)=nextB s (k+4+j):=by
    have:=bl_at hj
    rw [List.getElem?_eq_getElem (by rw [bl_len]; exact hj)] at this
    rw [Option.some.inj this,nextB_extract s (k+4) _ j p5,if_pos (by omega)]
   rw [e3] at h1 h2 ⊢
   have:=lf_known (hall (k+4+j) (by omega) (by omega)) h1 h2
   exact num_agree B h6 hM this.1 this.2
  have hb:=su_bd (ltR_bd hW ho) 7 _ _ hsn
  have hz:g.su.size≤1000:=by rw [f7,ext_size p5]; omega
  refine ⟨n,hb,fun _=>⟨hsn,hz⟩,?_⟩
  have hne:¬ f.ts.length=0:=by
   intro h0
   have h1:f.ts=[]:=List.length_eq_zero_iff.1 h0
   have h2:=p2 []
   rw [← p1,← f6,h1] at h2
   cases h2
  have e1:prOf (fof cs (p.K a)) f=⟨f.ts.map (ptOf (fof cs (p.K a))),f.ex⟩:=by unfold prOf; rw [if_neg hne]
  have e2:top (evP (p.N a) (f.ts.map (ptOf (fof cs (p.K a)))) [])=n:=by
   rw [evP_ev,f6,p1,p2]; rfl
  rw [e1]
  simp only []
  rw [e2,ansP_eq]
  unfold bcI
  rw [f1,if_pos rfl,F.k_,f4]
theorem uE_parts {cs:Sch} {s:ByteArray} (h:uE cs s=0):s.size≤200∧(gFault (vsO cs) cs (uR s).cs).1=0∧(uR s).ok=true:=by
 unfold uE at h
 by_cases h1:gdE (uR s) s≠0
 ·rw [if_pos h1] at h; exact absurd h h1
 ·rw [if_neg h1] at h
  have h1':gdE (uR s) s=0:=Classical.not_not.1 h1
  unfold gdE at h1'
  by_cases h2:fTw (vsO cs) (uR s).cs≠-1
  ·rw [if_pos h2] at h; omega
  ·rw [if_neg h2] at h
   by_cases h3:200 < s.size
   ·rw [if_pos h3] at h1'; omega
   ·rw [if_neg h3] at h1'
    by_cases h4:(uR s).ok=false
    ·rw [if_pos h4] at h1'; omega
    ·exact ⟨by omega,h,by simpa using h4⟩
theorem uM_ok {cs:Sch} {s:ByteArray} (h:uE cs s=0):MOK (uM cs s):=by
 obtain ⟨hs,_,_⟩:=uE_parts h
 have hb:=uR_bound s
 unfold uM
 rw [if_pos h]
 refine ⟨fun m hm=>?_,fun m hm q hq=>?_⟩
 ·obtain ⟨c,hc,rfl⟩:=List.mem_map.1 hm
  unfold mkOf; simp
 ·obtain ⟨c,hc,rfl⟩:=List.mem_map.1 hm
  unfold mkOf at hq
  obtain ⟨f,hf,rfl⟩:=List.mem_map.1 hq
  have:=(hb.2 c hc).2 f hf
  unfold prOf
  split
  ·unfold prNo
   split <;> simp
  ·simp; omega
theorem peek_agree {cs:Sch} {p:PH} {r:DH} {x:RX} (hU:Uq cs) (h6:∀ c∈cs,c.2.length≤6) (hlc:∀ c∈cs,c.1≠0) (hW:Wf cs r) (hS:Sim cs p r) {s:ByteArray} {hs:List HC} (hpd:x.pd=pdP p) (hE:pdP p=true→uE cs s=0∧haAll s=some hs) (root name:Int) :
  ∃ sv:Int,(-9223372036854775808≤sv∧sv≤9223372036854775807)∧(x.pd=true→∀ o,rtB root=true→r.R root.toNat=o+1→∀ t:Nat,tgI cs hs (r.K (o+1))=t→∀ g,fdG (hs[t]?.getD noHC).l name=some g→g.k≠114→g.sm=true→SuN (ltR cs r o) 7 (bl g.su) sv∧g.su.size≤1000)∧pkI p (uM cs s) root name=rpkI x cs r hs sv root name:=by
 obtain ⟨M,B⟩:=hS
 unfold pkI
 cases hp:pdP p with
 | false =>
  have h0:p.N 201 0=0:=by unfold pdP at hp; simpa using hp
  refine ⟨0,by omega,fun h=>?_,?_⟩
  ·rw [hpd,hp] at h; cases h
  ·unfold rpkI; rw [hpd,hp,if_pos h0,if_pos rfl]
 | true =>
  have h0:¬ p.N 201 0=0:=by unfold pdP at hp; simpa using hp
  obtain ⟨hE1,hha⟩:=hE hp
  obtain ⟨hs2,hG,hok⟩:=uE_parts hE1
  have hR:∀ sv,rpkI x cs r hs sv root name=(if rtB root=false then (0,8) else if r.R root.toNat=0 then (0,9) else rpk1 cs r hs sv (r.R root.toNat - 1) name):=fun sv=>by
   unfold rpkI; rw [hpd,hp,if_neg (by simp)]
  rw [if_neg h0]
  cases hr:rtB root with
  | false =>
   have hh:heldI p.R root=(0,8):=by unfold heldI; rw [if_pos hr]
   rw [hh,if_pos (by decide)]
   exact ⟨0,by omega,fun _ o h=>absurd h (by decide),by rw [hR,if_pos hr]⟩
  | true =>
   obtain ⟨q,rfl,hq8⟩:=rtB_nat hr
   have hR2:∀ sv,rpkI x cs r hs sv (q:Int) name=(if r.R q=0 then (0,9) else rpk1 cs r hs sv (r.R q - 1) name):=fun sv=>by
    rw [hR,if_neg (by rw [hr]; decide),Int.toNat_natCast]
   rw [Int.toNat_natCast]
   rcases B.root q hq8 with ⟨z1,z2⟩ | hM
   ·have hh:heldI p.R q=(0,9):=by unfold heldI; rw [if_neg (by rw [hr]; decide),Int.toNat_natCast,if_pos z1]
    rw [hh,if_pos (by decide)]
    exact ⟨0,by omega,fun _ o _ h=>by rw [z2] at h; omega,by rw [hR2,if_pos z2]⟩
   ·obtain ⟨a1,a2,b1,b2⟩:=B.pos _ _ hM
    have hh:heldI p.R q=(p.R q,0):=by unfold heldI; rw [if_neg (by rw [hr]; decide),Int.toNat_natCast,if_neg (by omega)]
    obtain ⟨o,ho⟩:∃ o,r.R q=o+1:=⟨r.R q - 1,by omega⟩
    have hR3:∀ sv,rpkI x cs r hs sv (q:Int) name=rpk1 cs r hs sv o name:=fun sv=>by
     rw [hR2,if_neg (by omega),ho,Nat.add_sub_cancel]
    rw [hh,if_neg (by simp)]
    simp only []
    rw [ho] at hM b2
    generalize p.R q=a at hM a1 a2 ⊢
    have hKc:=B.cls a (o+1) hM
    have hK0:p.K a≠0:=by
     have:=B.has a (o+1) hM
     rw [List.any_eq_true] at this
     obtain ⟨c,hc,he⟩:=this
     have:c.1=p.K a:=by simpa using he
     rw [← this]; exact hlc c hc
    have hms:uM cs s=(uR s).cs.map (mkOf (vsO cs) cs):=by unfold uM; rw [if_pos hE1]
    obtain ⟨hs',_,hha',hCM⟩:∃ hs',(uR s).ok=true∧haAll s=some hs'∧CMs s 0 s.size (uR s).cs hs':=by
     rcases uread_meet s with ⟨h1,_⟩ | h
     ·rw [hok] at h1; cases h1
     ·exact h
    obtain rfl:hs'=hs:=by rw [hha] at hha'; exact (Option.some.inj hha').symm
    have hR4:∀ sv,rpkI x cs r hs' sv (q:Int) name=if tgI cs hs' (p.K a) < 0 then ((0,4):Int×Int) else match fdG (hs'[(tgI cs hs' (p.K a)).toNat]?.getD noHC).l name with | none=>((0,5):Int×Int) | some g=>if g.k=114 then (0,6) else if (bcI cs r o sv g).2=false then (0,15) else ((bcI cs r o sv g).1,0):=fun sv=>by
     rw [hR3]; unfold rpk1; rw [← hKc]; rfl
    rw [hms]
    rcases cms_find cs (p.K a) hK0 _ _ _ _ hCM with ⟨c1,c2⟩ | ⟨i,lo',hi',c,h,c1,c2,c3,c4,c5,c6,c7⟩
    ·rw [c1]
     refine ⟨0,by omega,fun _ o' _ h1 t h2=>?_,by rw [hR4,c2,if_pos (by decide)]⟩
     obtain rfl:o=o':=by omega
     rw [← hKc,c2] at h2
     omega
    ·rw [c1]
     have hR5:∀ sv,rpkI x cs r hs' sv (q:Int) name=match fdG h.l name with | none=>((0,5):Int×Int) | some g=>if g.k=114 then (0,6) else if (bcI cs r o sv g).2=false then (0,15) else ((bcI cs r o sv g).1,0):=fun sv=>by
      rw [hR4,c3,if_neg (by omega),Int.toNat_natCast,c4]; rfl
     simp only []
     have hFl:=gFlds_zero (gFault_zero hG c c2)
     rw [c7] at hFl
     have hfs:(mkOf (vsO cs) cs c).fs=c.fs.map schF:=rfl
     have hrs:(mkOf (vsO cs) cs c).rs=c.fs.map (prOf (fof cs (p.K a))):=by unfold mkOf; rw [c7]
     unfold numOf
     rw [hfs]
     rcases fms_find name _ _ _ _ c5.fs with ⟨d1,d2⟩ | ⟨j,k,e,f,g,d1,d2,d3,d4,d5⟩
     ·rw [if_pos d1]
      refine ⟨0,by omega,fun _ o' _ h1 t h2 g hg=>?_,by rw [hR5,d2]⟩
      obtain rfl:o=o':=by omega
      rw [← hKc,c3] at h2
      obtain rfl:i=t:=by omega
      rw [c4] at hg
      simp only [Option.getD_some] at hg
      rw [d2] at hg; cases hg
     ·rw [d1,if_neg (by omega)]
      have hR6:∀ sv,rpkI x cs r hs' sv (q:Int) name=if g.k=114 then (0,6) else if (bcI cs r o sv g).2=false then (0,15) else ((bcI cs r o sv g).1,0):=fun sv=>by
       rw [hR5,d3]
      have hkd:kdM (mkOf (vsO cs) cs c) name=f.k:=by
       unfold kdM; rw [hfs,d1,Int.toNat_natCast,List.getElem?_map,d2]; rfl
      have hrl:rlM (mkOf (vsO cs) cs c) name=prOf (fof cs (p.K a)) f:=by
       unfold rlM; rw [hfs,hrs,d1,Int.toNat_natCast,List.getElem?_map,d2]; rfl
      have same:∀ t:Nat,tgI cs hs' (p.K a)=t→∀ g',fdG (hs'[t]?.getD noHC).l name=some g'→g'=g:=by
       intro t h2 g' hg'
       rw [c3] at h2
       obtain rfl:i=t:=by omega
       rw [c4] at hg'
       simp only [Option.getD_some] at hg'
       rw [d3] at hg'; exact (Option.some.inj hg').symm
      by_cases hk:f.k=114
      ·rw [hkd,if_pos hk]
       refine ⟨0,by omega,fun _ o' _ h1 t h2 g' hg' hk'=>?_,by rw [hR6,d4.k_,if_pos hk]⟩
       obtain rfl:o=o':=by omega
       rw [← hKc] at h2
       rw [same t h2 g' hg',d4.k_] at hk'
       exact absurd hk hk'
      ·have hmem:f∈c.fs:=List.mem_of_getElem? d2
       obtain ⟨sv,v1,v2,v3⟩:=fld_agree B hW h6 (hU.kp _) hM (by omega) d4 hs2 hk (hFl f hmem)
       rw [hkd,if_neg hk,hrl]
       have e5:vlM (mkOf (vsO cs) cs c) (p.N a) name=top (evP (p.N a) (prOf (fof cs (p.K a)) f).ts []):=by unfold vlM; rw [hrl]
       rw [e5]
       refine ⟨sv,v1,fun _ o' _ h1 t h2 g' hg' hk' hsm=>?_,by rw [hR6,d4.k_,if_neg hk]; exact v3⟩
       obtain rfl:o=o':=by omega
       rw [← hKc] at h2
       rw [same t h2 g' hg'] at hsm ⊢
       exact v2 hsm
end Go.Proofs.YtbgilndohccicaaGreatDoor
namespace Go.Proofs.YtbgilndohccicaaGreatDoor
open Go.RowKit
def MksIn (w:World) (lo hi:Nat) (v:Value) (vs:List MV) (ms:List PM):Prop:=∀ w':World,(∀ b,lo≤b→b < hi→w'.heap[b]?=w.heap[b]?)→Mks w' lo v vs ms
def UClsIn (w:World) (lo hi:Nat) (v:Value) (vs:List HV) (cs:List HC):Prop:=∀ w':World,(∀ b,lo≤b→b < hi→w'.heap[b]?=w.heap[b]?)→UCls w' lo v vs cs
theorem Mks.keepR {w w':World} {lo:Nat} {v:Value} {vs:List MV} {ms:List PM} (h:Mks w lo v vs ms) (e:∀ b,lo≤b→b < w.heap.size→w'.heap[b]?=w.heap[b]?):Mks w' lo v vs ms:=by
 refine ⟨row_keepH h.row fun g hg=>e g (World.ownsRow.lt h.row g hg).1 (World.ownsRow.lt h.row g hg).2,h.len,fun i p m h1 h2=>?_⟩
 obtain ⟨a,b,c,us,d⟩:=h.el i p m h1 h2
 refine ⟨a,b,row_keepH c fun g hg=>e g (World.ownsRow.lt c g hg).1 (World.ownsRow.lt c g hg).2,us,row_keepH d.row fun g hg=>e g (World.ownsRow.lt d.row g hg).1 (World.ownsRow.lt d.row g hg).2,d.len,fun i q r h1 h2=>?_⟩
 obtain ⟨x,y⟩:=d.el i q r h1 h2
 exact ⟨x,row_keepH y fun g hg=>e g (World.ownsRow.lt y g hg).1 (World.ownsRow.lt y g hg).2⟩
theorem MksIn.of {w:World} {lo:Nat} {v:Value} {vs:List MV} {ms:List PM} (h:Mks w lo v vs ms):MksIn w lo w.heap.size v vs ms:=fun _ e=>h.keepR e
theorem UClsIn.of {w:World} {lo:Nat} {v:Value} {vs:List HV} {cs:List HC} (h:UCls w lo v vs cs):UClsIn w lo w.heap.size v vs cs:=fun _ e=>h.keep e
theorem MksIn.keep {w w':World} {lo hi:Nat} {v:Value} {vs:List MV} {ms:List PM} (h:MksIn w lo hi v vs ms) (e:∀ b,lo≤b→b < hi→w'.heap[b]?=w.heap[b]?):MksIn w' lo hi v vs ms:=fun w2 e2=>h w2 fun b h1 h2=>(e2 b h1 h2).trans (e b h1 h2)
theorem UClsIn.keep {w w':World} {lo hi:Nat} {v:Value} {vs:List HV} {cs:List HC} (h:UClsIn w lo hi v vs cs) (e:∀ b,lo≤b→b < hi→w'.heap[b]?=w.heap[b]?):UClsIn w' lo hi v vs cs:=fun w2 e2=>h w2 fun b h1 h2=>(e2 b h1 h2).trans (e b h1 h2)
structure UD where
 lo:Nat
 hi:Nat
 s:ByteArray
 mv:List MV
 hv:List HV
 hs:List HC
structure PD where
 lo:Nat
 hi:Nat
 sv:SV
 vs:List (Int×SV)
 cs:Sch
 sz:Int
 p:PH
 x:RX
 r:DH
 u:UD
def PD.fp (d:PD) (hb rb b:Nat):Prop:=((d.lo≤b∧b≤hb)∨d.x.has d.cs d.r.n rb b)∨(d.u.lo≤b∧b < d.u.hi)
structure UpOK (w:World) (hb rb:Nat) (d:PD):Prop where
 pd:d.x.pd=pdP d.p
 on:pdP d.p=true→uE d.cs d.u.s=0∧haAll d.u.s=some d.u.hs∧MksIn w d.u.lo d.u.hi (updV d.p.N) d.u.mv (uM d.cs d.u.s)∧UClsIn w d.u.lo d.u.hi (.slice d.x.nx.a d.x.nx.n d.x.nx.c) d.u.hv d.u.hs
 sp:d.x.pd=true→0≤d.x.sp∧d.x.sp≤200
 lt:d.u.hi≤w.heap.size
 nb:¬ (d.u.lo≤hb∧hb < d.u.hi)
 nx:∀ b,d.x.has d.cs d.r.n rb b→¬ (d.u.lo≤b∧b < d.u.hi)
structure PairOK (w:World) (hb rb:Nat) (d:PD) (mx:Nat):Prop where
 hp:HP w hb d.sv d.sz d.p.R d.p.K d.p.N d.p.F
 cl:ClsIn w d.lo d.hi (.slice d.sv.a d.sv.n d.sv.c) d.vs d.cs
 lh:d.hi≤hb
 rp:RP w rb d.x d.cs d.sz d.r
 pw:Pw d.p
 wf:Wf d.cs d.r
 sim:Sim d.cs d.p d.r
 n6:d.cs.length≤6
 okc:∀ c∈d.cs,okC c
 s1:1≤d.sz
 s2:d.sz≤200
 mx:d.r.n≤mx
 dj:∀ b,d.x.has d.cs d.r.n rb b→¬ (d.lo≤b∧b≤hb)
 uq:Uq d.cs
 lc:∀ c∈d.cs,c.1≠0
 up:UpOK w hb rb d
theorem PairOK.h6 {w:World} {hb rb:Nat} {d:PD} {mx:Nat} (h:PairOK w hb rb d mx):∀ c∈d.cs,c.2.length≤6:=fun c hc=>(h.okc c hc).1
theorem PairOK.hz {w:World} {hb rb:Nat} {d:PD} {mx:Nat} (h:PairOK w hb rb d mx):∀ c∈d.cs,∀ f∈c.2,f.1≠0:=fun c hc f hf=>by have:=((h.okc c hc).2 f hf).1; omega
theorem PairOK.loh {w:World} {hb rb:Nat} {d:PD} {mx:Nat} (h:PairOK w hb rb d mx) (h0:d.lo≤hb):¬ d.x.has d.cs d.r.n rb hb:=fun hh=>h.dj hb hh ⟨h0,Nat.le_refl _⟩
theorem PairOK.fp_lt {w:World} {hb rb:Nat} {d:PD} {mx b:Nat} (h:PairOK w hb rb d mx) (hb':d.fp hb rb b):b < w.heap.size:=by
 rcases hb' with (⟨_,h2⟩ | h2) | ⟨_,h2⟩
 ·exact Nat.lt_of_le_of_lt h2 h.hp.lt
 ·exact h.rp.has_lt h2
 ·exact Nat.lt_of_lt_of_le h2 h.up.lt
theorem PairOK.keep {w w':World} {hb rb:Nat} {d:PD} {mx mx':Nat} (h:PairOK w hb rb d mx) (hlo:d.lo≤hb) (hs:w.heap.size≤w'.heap.size) (e:∀ b,d.fp hb rb b→w'.heap[b]?=w.heap[b]?) (hm:mx≤mx'):PairOK w' hb rb d mx' :=
 ⟨h.hp.kept (e hb (.inl (.inl ⟨hlo,Nat.le_refl _⟩))),h.cl.keep fun b h1 h2=>e b (.inl (.inl ⟨h1,by have:=h.lh; omega⟩)),h.lh,h.rp.keep hs fun b hx=>e b (.inl (.inr hx)),h.pw,h.wf,h.sim,h.n6,h.okc,h.s1,h.s2,Nat.le_trans h.mx hm,h.dj,h.uq,h.lc,
  h.up.pd,fun hp=>⟨(h.up.on hp).1,(h.up.on hp).2.1,(h.up.on hp).2.2.1.keep fun b h1 h2=>e b (.inr ⟨h1,h2⟩),(h.up.on hp).2.2.2.keep fun b h1 h2=>e b (.inr ⟨h1,h2⟩)⟩,h.up.sp,Nat.le_trans h.up.lt hs,h.up.nb,h.up.nx⟩
theorem PairOK.afterP {w w1:World} {hb rb:Nat} {d:PD} {mx:Nat} (h:PairOK w hb rb d mx) (hlo:d.lo≤hb) (g:w.grownBy w1 (some hb)):RP w1 rb d.x d.cs d.sz d.r∧ClsIn w1 d.lo d.hi (.slice d.sv.a d.sv.n d.sv.c) d.vs d.cs:=by
 have hbl:=h.hp.lt
 refine ⟨h.rp.keep g.size fun b hx=>g.block b (h.rp.has_lt hx) (fun e=>?_),h.cl.keep fun b h1 h2=>g.block b (by have:=h.lh; omega) (fun e=>?_)⟩
 ·injection e with e; subst e; exact h.loh hlo hx
 ·injection e with e; have:=h.lh; omega
theorem updV_congr {N N':Nat→Nat→Int} (h:∀ j,N' 201 j=N 201 j):updV N'=updV N:=by unfold updV; rw [h,h,h,h]
theorem pdP_congr {p p':PH} (h:∀ j,p'.N 201 j=p.N 201 j):pdP p'=pdP p:=by unfold pdP; rw [h]
theorem PairOK.done {w w1 w2:World} {hb rb:Nat} {d:PD} {mx:Nat} (h:PairOK w hb rb d mx) (hlo:d.lo≤hb) (p':PH) (x':RX) (r':DH) (hp:HP w1 hb d.sv d.sz p'.R p'.K p'.N p'.F) (g:w.grownBy w1 (some hb)) (rp:RP w2 rb x' d.cs d.sz r') (gs:GS w1 w2 (d.x.has d.cs d.r.n rb))
  (hx:∀ b,x'.has d.cs r'.n rb b→d.x.has d.cs d.r.n rb b∨w1.heap.size≤b) (pw:Pw p') (wf:Wf d.cs r') (sim:Sim d.cs p' r') (hn:r'.n≤mx+1) (hN:∀ j,p'.N 201 j=d.p.N 201 j) (hX:x'.nx=d.x.nx∧x'.pd=d.x.pd∧x'.sp=d.x.sp) :
  PairOK w2 hb rb { d with p:=p',x:=x',r:=r' } (mx+1)∧GS w w2 (d.fp hb rb)∧(∀ b,PD.fp { d with p:=p',x:=x',r:=r' } hb rb b→d.fp hb rb b∨w.heap.size≤b):=by
 have hbl:=h.hp.lt
 have hbl1:=hp.lt
 obtain ⟨rp1,cl1⟩:=h.afterP hlo g
 have hu:∀ b,d.u.lo≤b→b < d.u.hi→w2.heap[b]?=w.heap[b]?:=fun b h1 h2=>by
  have hl:=h.up.lt
  have:=g.size
  exact (gs.block b (by omega) (fun hh=>h.up.nx b hh ⟨h1,h2⟩)).trans (g.block b (by omega) (fun e=>by injection e with e; subst e; exact h.up.nb ⟨h1,h2⟩))
 have hpp:pdP p'=pdP d.p:=pdP_congr hN
 have hup:UpOK w2 hb rb { d with p:=p',x:=x',r:=r' }:=by
  refine ⟨?_,fun hpd=>?_,fun hpd=>?_,?_,h.up.nb,fun b hb' hc=>?_⟩
  ·show x'.pd=pdP p'; rw [hX.2.1,hpp]; exact h.up.pd
  ·have hpd':pdP d.p=true:=by rw [← hpp]; exact hpd
   obtain ⟨a1,a2,a3,a4⟩:=h.up.on hpd'
   refine ⟨a1,a2,?_,?_⟩
   ·show MksIn w2 d.u.lo d.u.hi (updV p'.N) d.u.mv (uM d.cs d.u.s)
    rw [updV_congr hN]; exact a3.keep hu
   ·show UClsIn w2 d.u.lo d.u.hi (.slice x'.nx.a x'.nx.n x'.nx.c) d.u.hv d.u.hs
    rw [hX.1]; exact a4.keep hu
  ·show 0≤x'.sp∧x'.sp≤200
   rw [hX.2.2]; exact h.up.sp (by rw [← hX.2.1]; exact hpd)
  ·exact Nat.le_trans h.up.lt (Nat.le_trans g.size gs.size)
  ·have hc':d.u.lo≤b∧b < d.u.hi:=hc
   rcases hx b hb' with hh | hh
   ·exact h.up.nx b hh hc'
   ·have:=h.up.lt; have:=g.size; omega
 refine ⟨⟨?_,?_,h.lh,rp,pw,wf,sim,h.n6,h.okc,h.s1,h.s2,hn,fun b hb'=>?_,h.uq,h.lc,hup⟩,?_,fun b hb'=>?_⟩
 ·exact hp.kept (gs.block hb hbl1 (h.loh hlo))
 ·refine cl1.keep fun b h1 h2=>gs.block b (by have:=h.lh; omega) (fun hh=>h.dj b hh ⟨h1,by have:=h.lh; omega⟩)
 ·rcases hx b hb' with hh | hh
  ·exact h.dj b hh
  ·intro hc; have:=hc.2; omega
 ·exact (GS.of_gb g (.inl (.inl ⟨hlo,Nat.le_refl _⟩))).trans (gs.mono fun k hk=>.inl (.inr hk))
 ·rcases hb' with (hh | hh) | hh
  ·exact .inl (.inl (.inl hh))
  ·rcases hx b hh with hh | hh
   ·exact .inl (.inl (.inr hh))
   ·exact .inr (Nat.le_trans g.size hh)
  ·exact .inl (.inr hh)
theorem GS.below {w w1 w2:World} {S:Nat→Prop} (h:Below w.heap.size w w1) (g:GS w1 w2 S):GS w w2 S:=(GS.of_below h).trans g
structure OpV where
 k:Int
 m:Int
 a:Int
 b:Int
 c:Int
 v:Int
 s:ByteArray
 t:ByteArray
def OpV.val (o:OpV):Value:=.agg #[.int .i64 o.k,.int .i64 o.m,.int .i64 o.a,.int .i64 o.b,.int .u8 o.c,.int .i64 o.v,.string o.s,.string o.t]
def OpV.cells (o:OpV):Array Value:=#[.int .i64 o.k,.int .i64 o.m,.int .i64 o.a,.int .i64 o.b,.int .u8 o.c,.int .i64 o.v,.string o.s,.string o.t]
structure OpV.ok (o:OpV):Prop where
 v1:-9223372036854775808≤o.v
 v2:o.v≤9223372036854775807
 s:o.s.size≤9223372036854775807
 t:o.t.size≤9223372036854775807
 m1:-9223372036854775808≤o.m
 m2:o.m≤9223372036854775807
def LPost (hb rb:Nat) (d:PD) (mx:Nat) (w:World) (e:Ending) (w':World):Prop:=e=.returned (.bool true)∧∃ d',d'.lo≤hb∧PairOK w' hb rb d' (mx+1)∧GS w w' (d.fp hb rb)∧(∀ b,d'.fp hb rb b→d.fp hb rb b∨w.heap.size≤b)
theorem class_pair {cs:Sch} {p:PH} {r:DH} (h:Sim cs p r) (a:Int):pclsI p a=rclsI r a:=by
 unfold pclsI rclsI
 split
 ·rfl
 ·rename_i h1
  obtain ⟨i,rfl,hi⟩:=rtB_nat (x:=a) (by simpa using h1)
  rw [Int.toNat_natCast]
  obtain ⟨h2,h3⟩:=class_meet' h i hi
  by_cases e:p.R i=0
  ·rw [if_pos e,if_pos (h2.1 e)]
  ·rw [if_neg e,if_neg (fun hh=>e (h2.2 hh)),h3 e]
theorem same_pair {cs:Sch} {p:PH} {r:DH} (h:Sim cs p r) (a b:Int):psameI p a b=rsameI r a b:=by
 unfold psameI rsameI
 split
 ·rename_i h1
  obtain ⟨i,rfl,hi⟩:=rtB_nat h1.1
  obtain ⟨j,rfl,hj⟩:=rtB_nat h1.2
  rw [Int.toNat_natCast,Int.toNat_natCast]
  have:=same_meet h i j hi hj
  by_cases e:p.R i=p.R j
  ·rw [decide_eq_true e,decide_eq_true (this.1 e)]
  ·rw [decide_eq_false e,decide_eq_false (fun hh=>e (this.2 hh))]
 ·rfl
theorem wlist_wsum {cs:Sch} {p:PH} {r:DH} (h:Sim cs p r) (h6:∀ c∈cs,c.2.length≤6) (hw:Wf cs r) (L:List Nat) (T:Nat→Bool) (hd:L.Nodup) (hm:∀ a,a∈L↔p.in a) (hT:∀ o,o < r.n→(T o=true↔r.in cs (o+1))):wlist cs p.K L=wsum cs r.K T r.n:=by
 obtain ⟨M,hB⟩:=h
 exact hB.words h6 L (lst T r.n) hd (lst_nodup T r.n) hm (lst_mem hw hT)
end Go.Proofs.YtbgilndohccicaaGreatDoor
namespace Go.Proofs.YtbgilndohccicaaGreatDoor
open Go.RowKit
def boxed (w:World) (hb rb:Nat) (o:OpV):World:=(w.alloc (.cells #[.pointer (some ⟨hb,0,none⟩),.pointer (some ⟨rb,0,none⟩)] 41)).alloc (.cells o.cells 31)
theorem boxed_below (w:World) (hb rb:Nat) (o:OpV):Below w.heap.size w (boxed w hb rb o):=((Below.refl _ _).alloc (Nat.le_refl _) _).alloc (by simp) _
structure Bx (W:World) (n hb rb:Nat) (o:OpV):Prop where
 lt:n+1 < W.heap.size
 p:W.cell? ⟨n,0,none⟩=some (.pointer (some ⟨hb,0,none⟩))
 r:W.cell? ⟨n,1,none⟩=some (.pointer (some ⟨rb,0,none⟩))
 k:W.cell? ⟨n+1,0,none⟩=some (.int .i64 o.k)
 a:W.cell? ⟨n+1,2,none⟩=some (.int .i64 o.a)
 b:W.cell? ⟨n+1,3,none⟩=some (.int .i64 o.b)
 c:W.cell? ⟨n+1,4,none⟩=some (.int .u8 o.c)
 v:W.cell? ⟨n+1,5,none⟩=some (.int .i64 o.v)
 s:W.cell? ⟨n+1,6,none⟩=some (.string o.s)
theorem Bx.new (w:World) (hb rb:Nat) (o:OpV):Bx (boxed w hb rb o) w.heap.size hb rb o:=by
 have e1:=heap_alloc2_new w (.cells #[.pointer (some ⟨hb,0,none⟩),.pointer (some ⟨rb,0,none⟩)] 41) (.cells o.cells 31)
 have e0:=heap_alloc2_old w (.cells #[.pointer (some ⟨hb,0,none⟩),.pointer (some ⟨rb,0,none⟩)] 41) (.cells o.cells 31)
 unfold boxed
 exact ⟨by simp,cell_of_row _ _ 0 _ _ _ e0,cell_of_row _ _ 1 _ _ _ e0,cell_of_row _ _ 0 _ _ _ e1,cell_of_row _ _ 2 _ _ _ e1,cell_of_row _ _ 3 _ _ _ e1,cell_of_row _ _ 4 _ _ _ e1,cell_of_row _ _ 5 _ _ _ e1,cell_of_row _ _ 6 _ _ _ e1⟩
theorem Bx.keep {W W':World} {n hb rb:Nat} {o:OpV} (h:Bx W n hb rb o) (hs:W.heap.size≤W'.heap.size) (e0:W'.heap[n]?=W.heap[n]?) (e1:W'.heap[n+1]?=W.heap[n+1]?):Bx W' n hb rb o:=by
 have c0:=fun x=>World.cell?_of_block (a:=⟨n,x,none⟩) e0
 have c1:=fun x=>World.cell?_of_block (a:=⟨n+1,x,none⟩) e1
 exact ⟨Nat.lt_of_lt_of_le h.lt hs,(c0 _).trans h.p,(c0 _).trans h.r,(c1 _).trans h.k,(c1 _).trans h.a,(c1 _).trans h.b,(c1 _).trans h.c,(c1 _).trans h.v,(c1 _).trans h.s⟩
theorem Bx.gb {W W':World} {n hb rb:Nat} {o:OpV} (h:Bx W n hb rb o) (g:W.grownBy W' (some hb)) (hn:hb < n):Bx W' n hb rb o:=by
 have:=h.lt
 exact h.keep g.size (g.block n (by omega) (fun e=>by injection e with e; omega)) (g.block (n+1) (by omega) (fun e=>by injection e with e; omega))
theorem PairOK.box {w:World} {hb rb:Nat} {d:PD} {mx:Nat} (h:PairOK w hb rb d mx) (hlo:d.lo≤hb) (o:OpV):PairOK (boxed w hb rb o) hb rb d mx :=
 h.keep hlo (boxed_below w hb rb o).size (fun b hb'=>(boxed_below w hb rb o).block b (h.fp_lt hb')) (Nat.le_refl _)
theorem lpost_of {w w2:World} {hb rb:Nat} {d d':PD} {mx:Nat} {o:OpV} (h1:PairOK w2 hb rb d' (mx+1)) (hlo:d'.lo≤hb) (h2:GS (boxed w hb rb o) w2 (d.fp hb rb)) (h3:∀ b,d'.fp hb rb b→d.fp hb rb b∨(boxed w hb rb o).heap.size≤b):LPost hb rb d mx w (.returned (.bool true)) w2 :=
 ⟨rfl,d',hlo,h1,GS.below (boxed_below w hb rb o) h2,fun b hb'=>(h3 b hb').imp id (fun h=>Nat.le_trans (boxed_below w hb rb o).size h)⟩
theorem mkE_pm (cs:Sch) (sz root c:Int) (W:Nat):pmE cs sz root c W=mkE cs sz root c W:=rfl
theorem make_pair {cs:Sch} {p:PH} {r:DH} (h:Sim cs p r) (h6:∀ c∈cs,c.2.length≤6) (a:Nat) (h0:0 < a) (h1:a < 201) (hna:¬ p.in a) (c:Int) (hc:(cs.any fun x=>x.1==c)=true) (i:Nat):Sim cs (mkP p a c i) { mkD r c with R:=set1 r.R i (r.n+1) }:=by
 obtain ⟨M,hB⟩:=h
 refine hB.make h6 a i c hna h0 h1 hc _ _ rfl rfl (fun x j hx=>by simp [mkP,hx]) (fun j _=>by simp [mkP]) (fun x j hx=>by simp [mkP,hx]) (fun j _=>by simp [mkP]) rfl (fun y _ hy=>?_) ?_ (fun y j _ hy=>?_) (fun j=>?_) rfl
 ·show set1 r.K (r.n+1) c y=r.K y; rw [set1_ne _ _ (by omega)]
 ·show set1 r.K (r.n+1) c (r.n+1)=c; rw [set1_self]
 ·show (if y=r.n+1 then 0 else r.C y j)=r.C y j; rw [if_neg (by omega)]
 ·show (if r.n+1=r.n+1 then 0 else r.C (r.n+1) j)=0; rw [if_pos rfl]
theorem mkP_pw {p:PH} (h:Pw p) (a:Nat) (h1:a < 201) (c:Int) (i:Nat):Pw (mkP p a c i):=by
 refine ⟨fun k hk=>?_,fun x j hx hj=>?_⟩
 ·show set1 p.R i a k < 201
  by_cases e:k=i
  ·subst e; rw [set1_self]; exact h1
  ·rw [set1_ne _ _ e]; exact h.root k hk
 ·show (if x=a then 0 else p.F x j) < 201
  split
  ·omega
  ·exact h.ref x j hx hj
set_option maxRecDepth 20000 in
set_option maxHeartbeats 1000000 in
theorem numbers_make (hb rb:Nat) (d:PD) (mx:Nat) (o:OpV) (w:World) (h:PairOK w hb rb d mx) (hlo:d.lo≤hb) (hmx:mx < 4398046511104) (hk:o.k=2) :
  Calls Tryz.prog 13 #[.agg #[.pointer (some ⟨hb,0,none⟩),.pointer (some ⟨rb,0,none⟩)],o.val] w (LPost hb rb d mx w):=by
 have hB:=h.box hlo o
 have bx:=Bx.new w hb rb o
 have hbl:=h.hp.lt
 have PM:=pmake_any hb d.sv d.sz d.p d.lo d.vs d.cs _ hB.hp hB.cl.cls hB.pw hB.h6 (by have:=h.s1; omega) h.s2 o.a o.c
 have RM:∀ W,RP W rb d.x d.cs d.sz d.r→Calls Tryz.prog 23 #[.pointer (some ⟨rb,0,none⟩),.int .i64 o.a,.int .u8 o.c] W (RMPost rb d.x d.cs d.sz d.r o.a o.c W):=fun W hW=>rmake_any rb d.x d.cs d.sz d.r W hW h.wf (by have:=h.n6; omega) h.h6 (by have:=h.mx; omega) (by have:=h.s1; omega) (by have:=h.s2; omega) o.a o.c
 have HB:Hid (PairOK (boxed w hb rb o) hb rb d mx):=hB
 have HX:Hid (Bx (boxed w hb rb o) w.heap.size hb rb o):=bx
 have H0:Hid (Wf d.cs d.r∧Pw d.p∧Sim d.cs d.p d.r∧(∀ c∈d.cs,c.2.length≤6)∧d.r.n≤mx):=⟨h.wf,h.pw,h.sim,h.h6,h.mx⟩
 obtain ⟨ok,om,oa,ob,oc,ov,os,ot⟩:=o
 simp only [OpV.val] at *
 subst hk
 clear h hB bx
 go_enter Tryz.func13,Tryz.ntmps13
 go_wp2_with fail
 refine PM.mono ?_
 rintro e w1 ⟨L,hLd,hLm,rfl,g1,hne,heq⟩
 obtain ⟨rp1,cl1⟩:=HB.out.afterP hlo g1
 obtain ⟨x0,x1,x2,x3,x4,x5,x6,x7,x8⟩:=HX.out.gb g1 hbl
 have HP1:Hid (L.Nodup∧(∀ a,a∈L↔d.p.in a)∧(boxed w hb rb ⟨2,om,oa,ob,oc,ov,os,ot⟩).grownBy w1 (some hb)):=⟨hLd,hLm,g1⟩
 obtain ⟨y,hy⟩:∃ y,y=pmE d.cs d.sz oa oc (wlist d.cs d.p.K L):=⟨_,rfl⟩
 have HY:Hid (y=pmE d.cs d.sz oa oc (wlist d.cs d.p.K L)):=hy
 rw [← hy] at hne heq ⊢
 have HNE:Hid (y≠0→HP w1 hb d.sv d.sz d.p.R d.p.K d.p.N d.p.F):=hne
 have HEQ:Hid (y=0→∃ a,0 < a∧a < 201∧¬ d.p.in a∧HP w1 hb d.sv d.sz (mkP d.p a oc oa.toNat).R (mkP d.p a oc oa.toNat).K (mkP d.p a oc oa.toNat).N (mkP d.p a oc oa.toNat).F):=heq
 have RM1:=RM w1 rp1
 clear PM RM hLd hLm g1 hy hne heq cl1 rp1
 go_wp2_with fail
 refine RM1.mono ?_
 rintro e w2 ⟨T,hT,rfl,gs,hne2,heq2⟩
 have hw:wlist d.cs d.p.K L=wsum d.cs d.r.K T d.r.n:=wlist_wsum H0.out.2.2.1 H0.out.2.2.2.1 H0.out.1 L T HP1.out.1 HP1.out.2.1 hT
 have ey:mkE d.cs d.sz oa oc (wsum d.cs d.r.K T d.r.n)=y:=by rw [HY.out,mkE_pm,hw]
 rw [ey] at hne2 heq2 ⊢
 have HL:Hid (LPost hb rb d mx w (.returned (.bool true)) w2):=by
  show LPost hb rb d mx w (.returned (.bool true)) w2
  by_cases h0:y=0
  ·obtain ⟨a,ha0,ha1,hna,hpa⟩:=HEQ.out h0
   obtain ⟨x',rpx,hxe,hxx⟩:=heq2 h0
   have hany:(d.cs.any fun x=>x.1==oc)=true:=by
    cases hc:(d.cs.any fun x=>x.1==oc) with
    | true=>rfl
    | false =>
     have:=HY.out
     unfold pmE at this
     rw [h0] at this
     split at this
     ·simp at this
     ·simp at this
   have wf':Wf d.cs { mkD d.r oc with R:=set1 d.r.R oa.toNat (d.r.n+1) }:=by
    refine H0.out.1.make oa.toNat rfl (fun y _ hy=>?_) (fun y j _ hy=>?_) (fun j=>?_) rfl
    ·show set1 d.r.K (d.r.n+1) oc y=d.r.K y; rw [set1_ne _ _ (by omega)]
    ·show (if y=d.r.n+1 then 0 else d.r.C y j)=d.r.C y j; rw [if_neg (by omega)]
    ·show (if d.r.n+1=d.r.n+1 then 0 else d.r.C (d.r.n+1) j)=0; rw [if_pos rfl]
   obtain ⟨q1,q2,q3⟩:=HB.out.done hlo (mkP d.p a oc oa.toNat) x' { mkD d.r oc with R:=set1 d.r.R oa.toNat (d.r.n+1) } hpa HP1.out.2.2 rpx gs (fun b hb'=>(hxx b hb')) (mkP_pw H0.out.2.1 a ha1 oc _) wf' (make_pair H0.out.2.2.1 H0.out.2.2.2.1 a ha0 ha1 hna oc hany _) (by show d.r.n+1≤mx+1; have:=H0.out.2.2.2.2; omega) (fun j=>by show (if 201=a then 0 else d.p.N 201 j)=_; rw [if_neg (by omega)]) ⟨hxe.2.1,hxe.2.2.1,hxe.2.2.2.2⟩
   exact lpost_of q1 hlo q2 q3
  ·obtain ⟨q1,q2,q3⟩:=HB.out.done hlo d.p d.x d.r (HNE.out h0) HP1.out.2.2 (hne2 h0) gs (fun b hb'=>.inl hb') H0.out.2.1 H0.out.1 H0.out.2.2.1 (by have:=H0.out.2.2.2.2; omega) (fun _=>rfl) ⟨rfl,rfl,rfl⟩
   exact lpost_of q1 hlo q2 q3
 clear hw ey hne2 heq2 gs hT
 go_wp2
 go_ret
 exact HL.out
end Go.Proofs.YtbgilndohccicaaGreatDoor
