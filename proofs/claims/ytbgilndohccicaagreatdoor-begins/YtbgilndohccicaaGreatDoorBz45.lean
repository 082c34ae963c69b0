import Derived.Test.YtbgilndohccicaaGreatDoorBz39
import Derived.Test.YtbgilndohccicaaGreatDoorBz10
import Derived.Test.YtbgilndohccicaaGreatDoorBz44
namespace Go.Proofs.YtbgilndohccicaaGreatDoor
open Go.RowKit
theorem schema_is {s:ByteArray} (h:readE s=0) {cs:List GC} (hg:gaAll s=some cs):readC s=cs.map gcl∧∀ p,¬ Rep cs p:=by
 rcases read_meet s with ⟨_,h2⟩ | ⟨cs',h1,h2,h3,h4⟩
 ·rw [hg] at h2; cases h2
 ·rw [hg] at h2
  injection h2 with h2
  subst h2
  unfold readE at h
  unfold readC
  by_cases hs:200 < s.size
  ·rw [if_pos hs] at h; omega
  ·have ho:¬ (readR s).ok=false:=by rw [h1]; decide
   rw [if_neg hs,if_neg ho] at h
   by_cases ht:(readR s).tw=-1
   ·rw [if_neg hs,if_neg ho,if_pos ht,h3]
    refine ⟨rfl,?_⟩
    rw [ht] at h4
    rcases h4 with ⟨_,h4⟩ | ⟨h4,_⟩
    ·exact h4
    ·omega
   ·rw [if_neg ht] at h; omega
theorem schema_uq {s:ByteArray} (h:readE s=0) {cs:List GC} (hg:gaAll s=some cs):Uq (cs.map gcl):=by
 obtain ⟨hc,hr⟩:=schema_is h hg
 have hf:=readC_fine s
 rw [hc] at hf
 have hl:(cs.map gcl).length=cs.length:=List.length_map ..
 have hcat:∀ i,i < cs.length→cat (cs.map gcl) i=gcl (cs[i]?.getD noGC):=fun i hi=>cat_gcl cs i hi
 have hmem:∀ i,i < (cs.map gcl).length→cat (cs.map gcl) i∈cs.map gcl:=by
  intro i hi
  unfold cat; rw [List.getElem?_eq_getElem hi]; exact List.getElem_mem hi
 have hN:∀ i j,i < cs.length→j < i→(cs[i]?.getD noGC).n≠(cs[j]?.getD noGC).n:=by
  intro i j hi hj he
  exact hr _ ⟨i,hi,.inl ⟨j,hj,he,rfl⟩⟩
 have hFN:∀ i j k,i < cs.length→j < (cs[i]?.getD noGC).l.length→k < j→((cs[i]?.getD noGC).l[j]?.getD noGF).n≠((cs[i]?.getD noGC).l[k]?.getD noGF).n:=by
  intro i j k hi hj hk he
  exact hr _ ⟨i,hi,.inr ⟨j,hj,k,hk,he,rfl⟩⟩
 have hfl:∀ i j,i < cs.length→j < (cat (cs.map gcl) i).2.length→j < (cs[i]?.getD noGC).l.length∧(cat (cs.map gcl) i).2[j]?.getD (0,0)=(((cs[i]?.getD noGC).l[j]?.getD noGF).n,((cs[i]?.getD noGC).l[j]?.getD noGF).k):=by
  intro i j hi hj
  rw [hcat i hi] at hj ⊢
  have hj':j < (cs[i]?.getD noGC).l.length:=by simpa [gcl] using hj
  exact ⟨hj',gk_get _ j hj'⟩
 have hok:∀ i j,i < (cs.map gcl).length→j < (cat (cs.map gcl) i).2.length→okF ((cat (cs.map gcl) i).2[j]?.getD (0,0)):=by
  intro i j hi hj
  rw [List.getElem?_eq_getElem hj]
  exact (hf.2 _ (hmem i hi)).2 _ (List.getElem_mem hj)
 refine ⟨fun i j hi hj he=>?_,fun i j k hi hj hk he=>?_,fun i j hi hj=>?_,fun i j hi hj=>?_,hf.1,fun i=>?_⟩
 ·rw [hl] at hi hj
  rw [hcat i hi,hcat j hj] at he
  have he':(cs[i]?.getD noGC).n=(cs[j]?.getD noGC).n:=he
  rcases Nat.lt_trichotomy i j with h' | h' | h'
  ·exact absurd he'.symm (hN j i hj h')
  ·exact h'
  ·exact absurd he' (hN i j hi h')
 ·rw [hl] at hi
  obtain ⟨j1,j2⟩:=hfl i j hi hj
  obtain ⟨k1,k2⟩:=hfl i k hi hk
  rw [j2,k2] at he
  have he':((cs[i]?.getD noGC).l[j]?.getD noGF).n=((cs[i]?.getD noGC).l[k]?.getD noGF).n:=he
  rcases Nat.lt_trichotomy j k with h' | h' | h'
  ·exact absurd he'.symm (hFN i k j hi k1 h')
  ·exact h'
  ·exact absurd he' (hFN i j k hi j1 h')
 ·exact isKindB_pos (hok i j hi hj).2.2
 ·exact isLw_yes ⟨(hok i j hi hj).1,(hok i j hi hj).2.1⟩
 ·rcases Nat.lt_or_ge i (cs.map gcl).length with hi | hi
  ·exact (hf.2 _ (hmem i hi)).1
  ·unfold cat; rw [List.getElem?_eq_none hi]; exact Nat.zero_le _
set_option maxHeartbeats 400000 in
theorem rfits_any (sc s:ByteArray) (w:World) (hm:sc.size≤9223372036854775807) (hm2:s.size≤9223372036854775807) (hE:Ends w) :
  Calls Tryz.prog 60 #[.string sc,.string s] w fun e w'=>e=.returned (.tuple #[.int .i64 (fitE sc s),.int .i64 (fitP sc s)])∧Below w.heap.size w w':=by
 have C:=schema_any sc w hm hE
 unfold SPost at C
 have HE:Hid (Ends w):=hE
 obtain ⟨F1,hF1⟩:∃ F1,fitE sc s=F1:=⟨_,rfl⟩
 obtain ⟨F2,hF2⟩:∃ F2,fitP sc s=F2:=⟨_,rfl⟩
 rw [hF1,hF2]
 have HF:Hid (fitE sc s=F1∧fitP sc s=F2):=⟨hF1,hF2⟩
 clear hF1 hF2 hE
 go_enter Tryz.func60,Tryz.ntmps60
 go_wp2_with fail
 refine C.mono ?_
 rintro e w1 ⟨a,n,c,E,P,rfl,hS,hV,B1⟩
 obtain ⟨e1,e2⟩:=agree sc E P hS
 have HEE:Hid (E=readE sc∧P=readP sc):=⟨e1,e2⟩
 clear C hS e1 e2
 by_cases h1:E=0
 ·have q1:(E != 0)=false:=by simp [h1]
  have hr0:readE sc=0:=by rw [← HEE.out.1]; exact h1
  obtain ⟨cs,vs,hga,V⟩:=hV h1
  have hne:=(gaAll_ok sc cs hga).2
  obtain ⟨g,cap,ev,K,_⟩:=V.kc hne
  have hU:=schema_uq hr0 hga
  have hrc:=(schema_is hr0 hga).1
  have D:=update_any s K hU (HE.out.below B1) hm2
  rw [List.length_map] at D
  have ekx:(kxOf vs g cap).g=g∧(kxOf vs g cap).cap=cap:=⟨rfl,rfl⟩
  rw [ekx.1,ekx.2,← ev] at D
  have HR:Hid (∀ E2 P2,UpRef (cs.map gcl) s E2 P2→E2=F1∧P2=F2):=by
   intro E2 P2 hu
   obtain ⟨a1,a2⟩:=uagree hU hu
   rw [← hrc] at a1 a2
   have n0:¬ readE sc≠0:=by rw [hr0]; decide
   rw [a1,a2,← HF.out.1,← HF.out.2]
   unfold fitE fitP
   rw [if_neg n0,if_neg n0]
   exact ⟨rfl,rfl⟩
  unfold UUPost at D
  clear h1 hr0 hga V hne ev K hU hrc hV ekx
  go_wp2_with fail
  refine D.mono ?_
  rintro e w2 ⟨a2,n2,c2,E2,P2,rfl,hu,_,B2⟩
  obtain ⟨rfl,rfl⟩:=HR.out E2 P2 hu
  clear D hu
  go_wp2
  go_ret2
  exact ⟨rfl,B1.trans (B2.mono B1.size)⟩
 ·have q1:(E != 0)=true:=by simp [h1]
  have H2:Hid (E=F1∧P=F2):=by
   have n0:readE sc≠0:=by rw [← HEE.out.1]; exact h1
   refine ⟨?_,?_⟩
   ·rw [← HF.out.1]; unfold fitE; rw [if_pos n0]; exact HEE.out.1
   ·rw [← HF.out.2]; unfold fitP; rw [if_pos n0]; exact HEE.out.2
  clear h1 hV
  go_wp2
  go_ret2
  exact ⟨by rw [H2.out.1,H2.out.2]; rfl,B1⟩
set_option maxHeartbeats 400000 in
theorem fitted_walk (sc s:ByteArray) (w:World) (hm:sc.size≤9223372036854775807) (hm2:s.size≤9223372036854775807) (hE:Ends w) :
  Calls Tryz.prog 19 #[.string sc,.string s] w fun e w'=>e=.returned (.bool true)∧Below w.heap.size w w':=by
 have HE:Hid (Ends w):=hE
 have C1:=fitsU_any sc s w hm hm2
 have C2:=fun W (hW:Below w.heap.size w W)=>rfits_any sc s W hm hm2 (HE.out.below hW)
 generalize fitE sc s=x at C1 C2
 generalize fitP sc s=y at C1 C2
 have q1:(x==x)=true:=by simp
 have q2:(y==y)=true:=by simp
 clear hE
 go_enter Tryz.func19,Tryz.ntmps19
 go_wp2_with fail
 refine C1.mono ?_
 rintro e w1 ⟨rfl,B1⟩
 have D:=C2 w1 B1
 clear C1 C2
 go_wp2_with fail
 refine D.mono ?_
 rintro e w2 ⟨rfl,B2⟩
 clear D
 go_wp2
 go_ret
 exact ⟨rfl,B1.trans (B2.mono B1.size)⟩
end Go.Proofs.YtbgilndohccicaaGreatDoor
namespace Go.Proofs.YtbgilndohccicaaGreatDoor
open Go.RowKit
theorem Tryz.infoPair:(Tryz.prog.info? 41).map (fun i=>(i.zero,i.size,i.bytes))=some (some (.agg #[.pointer none,.pointer none]),2,16):=by kernel_rfl
theorem newE_r (s:ByteArray) (size:Int):newEr (readE s) size=newE s size:=rfl
theorem readE_ga {s:ByteArray} (h:readE s=0):∃ cs,gaAll s=some cs:=by
 rcases read_meet s with ⟨a,_⟩ | ⟨cs',_,b,_⟩
 ·unfold readE at h
  split at h
  ·omega
  ·omega
 ·exact ⟨cs',b⟩
theorem readC_uq {s:ByteArray} (h:readE s=0):Uq (readC s):=by
 obtain ⟨cs,hg⟩:=readE_ga h
 rw [(schema_is h hg).1]
 exact schema_uq h hg
theorem rdClass_l (s:ByteArray) (ls:List Int) (k:Nat) (tw:Int) (h:¬ (rdClass s ls k tw).ok=false):(rdClass s ls k tw).l≠0:=by
 unfold rdClass at h ⊢
 by_cases h1:nextB s k < 65∨90 < nextB s k
 ·rw [if_pos h1] at h; exact absurd rfl h
 ·rw [if_neg h1] at h ⊢
  by_cases h2:nextB s (k+1)=123
  ·rw [if_pos h2] at h ⊢
   generalize (if (ls.any fun p=>p==nextB s k)=true then noteI tw k else tw)=t at h ⊢
   by_cases h3:(rdFields s (k+2) t).ok=true
   ·rw [if_pos h3]; show nextB s k≠0; omega
   ·rw [if_neg h3] at h; exact absurd rfl h
  ·rw [if_neg h2] at h; exact absurd rfl h
theorem rcLoop_l (s:ByteArray):∀ n cs k tw,(∀ c∈cs,c.1≠0)→∀ c∈(rcLoop s n cs k tw).cs,c.1≠0:=by
 intro n
 induction n with
 | zero=>intro cs k tw _ c hc; simp [rcLoop] at hc
 | succ n ih =>
  intro cs k tw hf
  rw [rcLoop]
  by_cases h:(rdClass s (cs.map (·.1)) k tw).ok=false
  ·rw [if_pos h]; intro c hc; simp at hc
  ·rw [if_neg h]
   have hl:=rdClass_l s (cs.map (·.1)) k tw h
   have hall:∀ c∈cs++[((rdClass s (cs.map (·.1)) k tw).l,(rdClass s (cs.map (·.1)) k tw).fs)],c.1≠0:=by
    intro f hm
    rcases List.mem_append.1 hm with hm | hm
    ·exact hf f hm
    ·simp only [List.mem_singleton] at hm; rw [hm]; exact hl
   split
   ·exact hall
   ·exact ih _ _ _ hall
theorem readC_l (s:ByteArray):∀ c∈readC s,c.1≠0:=by
 have h:∀ c∈(readR s).cs,c.1≠0:=rcLoop_l s 6 [] 0 (-1) (by simp)
 unfold readC
 split
 ·simp
 ·split
  ·simp
  ·split
   ·exact h
   ·simp
def noU:UD:=⟨0,0,⟨#[]⟩,[],[],[]⟩
theorem PairOK.new {w w1 w2:World} {hb rb hi:Nat} {sv:SV} {vs:List (Int×SV)} {x:RX} {s:ByteArray} {size:Int} {mx:Nat} (_h1:w.heap.size≤hi) (h2:hi≤hb) (hp:HP w1 hb sv size (fun _=>0) (fun _=>0) (fun _ _=>0) (fun _ _=>0)) (cl:ClsIn w1 w.heap.size hi (.slice sv.a sv.n sv.c) vs (readC s)) (B2:Below w1.heap.size w1 w2)
  (rp:RP w2 rb x (readC s) size newD) (hx:∀ b,x.has (readC s) 0 rb b→w1.heap.size≤b) (hs1:1≤size) (hs2:size≤200) (hU:Uq (readC s)) (hxp:x.pd=false):PairOK w2 hb rb ⟨w.heap.size,hi,sv,vs,readC s,size,⟨fun _=>0,fun _=>0,fun _ _=>0,fun _ _=>0⟩,x,newD,noU⟩ mx:=by
 have hbl:=hp.lt
 have hF:=readC_fine s
 refine ⟨hp.below B2,cl.keep fun b _ hb'=>B2.block b (by omega),h2,rp,⟨fun i _=>by simp,fun a j _ _=>by simp⟩,⟨fun i _=>Nat.zero_le _,fun b hb0 hbn=>absurd hbn (by simp [newD]; omega),fun b j hb0 hbn=>absurd hbn (by simp [newD]; omega)⟩,sim_new _ _ _ (fun _ _=>rfl) (fun _ _=>rfl),hF.1,hF.2,hs1,hs2,Nat.zero_le _,fun b hb' hc=>?_,hU,readC_l s,hxp,fun h=>absurd h (by simp [pdP]),fun h=>absurd (hxp.symm.trans h) (by decide),Nat.zero_le _,fun h=>absurd h.2 (Nat.not_lt_zero _),fun b _ h=>absurd h.2 (Nat.not_lt_zero _)⟩
 have:=hx b hb'
 have h3:b≤hb:=hc.2
 omega
theorem wpList_append_run {P:Program} {ops:Array Oper} {rest:List Oper} {o:Oper} {a:Act} {w:World} {Q:Exit→Act→World→Prop} (hgd:o.guard=none) (s x:Operand) (t:TypeId) (ho:o.op=Op.call { callee:=Callee.builtin Builtin.append,args:=#[s,x],argTypes:=#[t,t] })
  (v u v':Value) (w':World) (hs:a.eval s=v) (hx:a.eval x=u) (hrun:(Builtin.append_ #[t,t] o.type #[v,u]).run P w=.ok v' w') (h:wpList P ops Q rest (a.put o.dst v') w'):wpList P ops Q (o :: rest) a w:=by
 refine wpList_plain hgd fun K hK=>?_
 unfold Oper.wp
 simp [execOp,ho,resolve,invoke,builtin,hs,hx,hrun,Result.andThen]
 exact hK _ _ h
theorem row_base {w:World} {base:Nat} {e:TypeId} {size:Nat} {v:Value} {n:Nat} {xs:List Value} (h:w.ownsRow 0 e size v n xs) (hb:∀ g,v.ownBlock=some g→base≤g):w.ownsRow base e size v n xs:=by
 obtain ⟨h1,h2⟩:=h
 refine ⟨h1,h2.imp id ?_⟩
 rintro ⟨g,cap,cur,rfl,_,r⟩
 exact ⟨g,cap,cur,rfl,hb g rfl,r⟩
theorem WS.more {B:Nat} {w w3:World} {wb:Nat} {v v':Value} {ps:List PQ} {mx:Nat} (h:WS B w wb v ps mx) (q:PQ) (lo:Nat) (hlo:q.2.2.lo≤q.1) (hq:PairOK w q.1 q.2.1 q.2.2 mx) (hfp:∀ b,q.fp b→lo≤b) (hlB:wb < lo) (hlv:∀ g,v.ownBlock=some g→g < lo) (hlp:∀ (i:Nat) (q':PQ),ps[i]?=some q'→∀ b,q'.fp b→b < lo)
  (own:w3.ownsRow 0 41 2 v' (ps.length+1) (flatQ ps++[.pointer (some ⟨q.1,0,none⟩),.pointer (some ⟨q.2.1,0,none⟩)])) (g:w.grownBy w3 v.ownBlock) (hn:∀ g,v'.ownBlock=some g→v.ownBlock=some g∨w.heap.size≤g) :
  WS B (w3.setCell ⟨wb,0,none⟩ v') wb v' (ps++[q]) mx∧Below B w (w3.setCell ⟨wb,0,none⟩ v')∧GS w (w3.setCell ⟨wb,0,none⟩ v') (wsS wb v ps):=by
 have hl:=h.lt
 have hkb:∀ b,b < w.heap.size→v.ownBlock≠some b→w3.heap[b]?=w.heap[b]?:=fun b hb hne=>g.block b hb (Ne.symm hne)
 have ewb:w3.heap[wb]?=w.heap[wb]?:=hkb wb hl h.wv
 have hvB:∀ g,v'.ownBlock=some g→B≤g∧g≠wb:=fun g hg=>by
  rcases hn g hg with hh | hh
  ·exact ⟨(World.ownsRow.lt h.own g hh).1,fun e=>h.wv (by rw [← e]; exact hh)⟩
  ·have:=h.wbB; exact ⟨by omega,by omega⟩
 have hqlt:∀ b,q.fp b→b < w.heap.size:=fun b hb=>hq.fp_lt hb
 have hqv:∀ b,q.fp b→v.ownBlock≠some b:=fun b hb hv=>by have:=hfp b hb; have:=hlv b hv; omega
 have hqw:∀ b,q.fp b→b≠wb:=fun b hb e=>by have:=hfp b hb; omega
 have hget:∀ (i:Nat) (q':PQ),(ps++[q])[i]?=some q'→ps[i]?=some q'∨q'=q:=fun i q' hi=>by
  rcases Nat.lt_or_ge i ps.length with hlt | hge
  ·rw [List.getElem?_append_left hlt] at hi; exact .inl hi
  ·rw [List.getElem?_append_right hge] at hi
   obtain ⟨h1,h2⟩:=List.getElem?_eq_some_iff.1 hi
   right
   rw [List.getElem_singleton] at h2
   exact h2.symm
 have hallv:∀ (i:Nat) (q':PQ),(ps++[q])[i]?=some q'→∀ b,q'.fp b→b < w.heap.size∧v.ownBlock≠some b∧b≠wb∧B≤b:=fun i q' hi b hb=>by
  rcases hget i q' hi with hi | rfl
  ·exact ⟨(h.ok i q' hi).2.fp_lt hb,(h.ge i q' hi b hb).2.2,(h.ge i q' hi b hb).2.1,(h.ge i q' hi b hb).1⟩
  ·exact ⟨hqlt b hb,hqv b hb,hqw b hb,by have:=h.wbB; have:=hfp b hb; omega⟩
 have hkeep:∀ (i:Nat) (q':PQ),(ps++[q])[i]?=some q'→∀ b,q'.fp b→(w3.setCell ⟨wb,0,none⟩ v').heap[b]?=w.heap[b]?:=fun i q' hi b hb=>by
  obtain ⟨a1,a2,a3,_⟩:=hallv i q' hi b hb
  exact (sc_blk w3 _ a3).trans (hkb b a1 a2)
 have hsz:(w3.setCell ⟨wb,0,none⟩ v').heap.size=w3.heap.size:=by simp [World.setCell]
 have c3:w3.cell? ⟨wb,0,none⟩=some v:=(World.cell?_of_block (a:=⟨wb,0,none⟩) ewb).trans h.c
 refine ⟨⟨World.cell?_setCell_same _ _ _ (by rw [c3]),?_,?_,fun i q' hi=>?_,fun i q' hi b hb=>?_,fun i j q' q'' hne hi hj b hb hb2=>?_,h.wbB,fun hv=>(hvB wb hv).2 rfl⟩,?_,?_⟩
 ·rw [sc_frz]; exact (World.frozen?_of_block (a:=⟨wb,0,none⟩) ewb).trans h.f
 ·rw [List.length_append]
  have e:flatQ (ps++[q])=flatQ ps++[.pointer (some ⟨q.1,0,none⟩),.pointer (some ⟨q.2.1,0,none⟩)]:=by simp [flatQ]
  rw [e]
  exact row_base (row_keepH own fun g hg=>sc_blk w3 _ (hvB g hg).2) (fun g hg=>(hvB g hg).1)
 ·have hp:q'.2.2.lo≤q'.1∧PairOK w q'.1 q'.2.1 q'.2.2 mx:=by
   rcases hget i q' hi with hi | rfl
   ·exact h.ok i q' hi
   ·exact ⟨hlo,hq⟩
  exact ⟨hp.1,hp.2.keep hp.1 (by rw [hsz]; exact g.size) (hkeep i q' hi) (Nat.le_refl _)⟩
 ·obtain ⟨a1,a2,a3,a4⟩:=hallv i q' hi b hb
  refine ⟨a4,a3,fun hv=>?_⟩
  rcases hn b hv with hh | hh
  ·exact a2 hh
  ·omega
 ·rcases Nat.lt_or_ge i ps.length with hl1 | hg1
  ·rw [List.getElem?_append_left hl1] at hi
   rcases Nat.lt_or_ge j ps.length with hl2 | hg2
   ·rw [List.getElem?_append_left hl2] at hj
    exact h.dj i j q' q'' hne hi hj b hb hb2
   ·rcases hget j q'' hj with hj' | rfl
    ·exact h.dj i j q' q'' hne hi hj' b hb hb2
    ·have:=hlp i q' hi b hb; have:=hfp b hb2; omega
  ·rcases hget i q' hi with hi' | rfl
   ·obtain ⟨h1,_⟩:=List.getElem?_eq_some_iff.1 hi'; omega
   ·rcases Nat.lt_or_ge j ps.length with hl2 | hg2
    ·rw [List.getElem?_append_left hl2] at hj
     have:=hlp j q'' hj b hb2; have:=hfp b hb; omega
    ·obtain ⟨h1,_⟩:=List.getElem?_eq_some_iff.1 hi
     obtain ⟨h2,_⟩:=List.getElem?_eq_some_iff.1 hj
     simp at h1 h2
     omega
 ·exact ⟨g.os,g.tape,g.output,by rw [hsz]; exact g.size,fun k hk=>(sc_blk w3 _ (by have:=h.wbB; omega)).trans (hkb k (by have:=h.wbB; omega) (fun hv=>by have:=(World.ownsRow.lt h.own k hv).1; omega))⟩
 ·exact ⟨g.os,g.tape,g.output,by rw [hsz]; exact g.size,fun k hk hn'=>(sc_blk w3 _ (fun e=>hn' (.inl e))).trans (hkb k hk (fun hv=>hn' (.inr (.inl hv))))⟩
def BPost (E:Int) (B wb:Nat) (v:Value) (ps:List PQ) (mx:Nat) (w:World) (e:Ending) (w':World):Prop:=e=.returned (.bool true)∧(Below B w w'∧GS w w' (wsS wb v ps))∧∃ v' ps',WS B w' wb v' ps' mx∧ps.length≤ps'.length∧ps'.length≤ps.length+1∧(E=0→ps'.length=ps.length+1)
set_option maxRecDepth 20000 in
set_option maxHeartbeats 1000000 in
theorem begin_any (B wb:Nat) (v:Value) (ps:List PQ) (mx:Nat) (s:ByteArray) (size:Int) (w:World) (h:WS B w wb v ps mx) (hs:s.size≤9223372036854775807) (hE:Ends w) (_hE0:0 < B) (hl:ps.length≤4398046511104) :
  Calls Tryz.prog 8 #[.pointer (some ⟨wb,0,none⟩),.string s,.int .i64 size] w (BPost (newE s size) B wb v ps mx w):=by
 have PM:=pnew_any s size w hs
 have HE:Hid (Ends w):=hE
 have HW:Hid (WS B w wb v ps mx):=h
 have hwl:=h.lt
 have hBw:B≤w.heap.size:=by have:=h.wbB; omega
 obtain ⟨iP,hiP,hzP0,hzP1,hzP2⟩:=infoParts3 Tryz.infoPair
 unfold PNPost at PM
 unfold BPost
 by_cases h0:newE s size=0
 ·have H0:Hid (newE s size=0):=h0
  have HRE:Hid (Uq (readC s)):=by
   refine readC_uq ?_
   unfold newE at h0
   split at h0
   ·rename_i hh; exact absurd h0 hh
   ·rename_i hh; exact Classical.not_not.1 hh
  have hsz:1≤size∧size≤200:=by
   unfold newE at h0
   split at h0
   ·exact absurd h0 (by assumption)
   ·split at h0
    ·simp at h0
    ·rename_i hh; omega
  clear h hE h0
  go_enter Tryz.func8,Tryz.ntmps8
  go_wp2_with fail
  refine PM.mono ?_
  rintro e w1 ⟨B1,hcase⟩
  obtain ⟨hi,hb,sv,vs,rfl,q1,q2,hp,cl⟩:∃ hi hb sv vs,e=.returned (.tuple #[.pointer (some ⟨hb,0,none⟩),.int .i64 0])∧w.heap.size≤hi∧hi≤hb∧HP w1 hb sv size (fun _=>0) (fun _=>0) (fun _ _=>0) (fun _ _=>0)∧ClsIn w1 w.heap.size hi (.slice sv.a sv.n sv.c) vs (readC s):=by
   rcases hcase with ⟨hne,_⟩ | ⟨_,hi,hb,sv,vs,a1,a2,a3,a4,a5⟩
   ·exact absurd H0.out hne
   ·exact ⟨hi,hb,sv,vs,a1,a2,a3,a4,a5⟩
  have RM:=rnew_any s size w1 hs (HE.out.below B1)
  have HP1:Hid (Below w.heap.size w w1∧w.heap.size≤hi∧hi≤hb∧HP w1 hb sv size (fun _=>0) (fun _=>0) (fun _ _=>0) (fun _ _=>0)∧ClsIn w1 w.heap.size hi (.slice sv.a sv.n sv.c) vs (readC s)):=⟨B1,q1,q2,hp,cl⟩
  clear PM hcase hp cl B1
  go_wp2_with fail
  refine RM.mono ?_
  rintro e w2 ⟨B2,hcase⟩
  obtain ⟨rb,x,rfl,rp,hx,hxp⟩:∃ rb x,e=.returned (.tuple #[.pointer (some ⟨rb,0,none⟩),.int .i64 0])∧RP w2 rb x (readC s) size newD∧(∀ b,x.has (readC s) 0 rb b→w1.heap.size≤b)∧x.pd=false:=by
   rcases hcase with ⟨hne,_⟩ | ⟨_,rb,x,a1,a2,a3,a4⟩
   ·exact absurd ((newE_r s size).trans H0.out) hne
   ·exact ⟨rb,x,a1,a2,a3,a4⟩
  have HB2:Hid (Below w.heap.size w w2):=HP1.out.1.trans (B2.mono HP1.out.1.size)
  have HPR:Hid (PairOK w2 hb rb ⟨w.heap.size,hi,sv,vs,readC s,size,⟨fun _=>0,fun _=>0,fun _ _=>0,fun _ _=>0⟩,x,newD,noU⟩ mx):=PairOK.new HP1.out.2.1 HP1.out.2.2.1 HP1.out.2.2.2.1 HP1.out.2.2.2.2 B2 rp hx hsz.1 hsz.2 HRE.out hxp
  have HFP:Hid (∀ b,PQ.fp (hb,rb,⟨w.heap.size,hi,sv,vs,readC s,size,⟨fun _=>0,fun _=>0,fun _ _=>0,fun _ _=>0⟩,x,newD,noU⟩) b→w.heap.size≤b):=by
   rintro b ((⟨hh,_⟩ | hh) | hh)
   ·exact hh
   ·exact Nat.le_trans HP1.out.1.size (hx b hh)
   ·exact absurd hh.2 (Nat.not_lt_zero _)
  have HW2:Hid (WS B w2 wb v ps mx):=HW.out.below HB2.out (Nat.le_refl _)
  have c2:=HW2.out.c
  have f2:=HW2.out.f
  have hwl2:=HW2.out.lt
  have hnn:ps.length+1≤4398046511105:=by omega
  clear RM hcase rp hx B2
  have hBw2:B≤w2.heap.size:=Nat.le_trans hBw HB2.out.size
  have own2:(w2.alloc (.cells #[.pointer (some ⟨hb,0,none⟩),.pointer (some ⟨rb,0,none⟩)] 41)).ownsRow 0 41 2 v ps.length (flatQ ps):=row_mono (HW2.out.own.alloc _) (Nat.zero_le _)
  obtain ⟨v',w3,hrun,own3,gr3,hb3⟩:=app_run (P:=Tryz.prog) (w2.alloc (.cells #[.pointer (some ⟨hb,0,none⟩),.pointer (some ⟨rb,0,none⟩)] 41)) 26 26 41 iP (.agg #[.pointer none,.pointer none]) 2 16 Tryz.underlying26 hiP hzP0 hzP1 hzP2 rfl (by decide) v ps.length (flatQ ps) own2
   ⟨w2.heap.size,0,none⟩ 1 1 [.pointer (some ⟨hb,0,none⟩),.pointer (some ⟨rb,0,none⟩)] rfl (cell_pair3 _ _ _ _) (by intro u hu; simp at hu; rcases hu with rfl | rfl <;> rfl) (by unfold maxLen; omega) (by omega)
  obtain ⟨va',vc',hv'⟩:∃ a c,v'=.slice a (ps.length+1) c:=by
   rcases own3.2 with ⟨_,e⟩ | ⟨g,cap,cur,e,_⟩
   ·omega
   ·exact ⟨_,_,e⟩
  subst hv'
  have hM:=HW2.out.more (w3:=w3) (hb,rb,⟨w.heap.size,hi,sv,vs,readC s,size,⟨fun _=>0,fun _=>0,fun _ _=>0,fun _ _=>0⟩,x,newD,noU⟩) w.heap.size (Nat.le_trans HP1.out.2.1 HP1.out.2.2.1) HPR.out HFP.out hwl (fun g hg=>(World.ownsRow.lt HW.out.own g hg).2) (fun i q' hi' b hb'=>(HW.out.ok i q' hi').2.fp_lt hb') own3 (gb_trans (World.grownBy_alloc _ _ _) gr3) (fun g hg=>(hb3 g hg).imp id (fun hh=>by simp at hh; omega))
  have HM:Hid (WS B (w3.setCell ⟨wb,0,none⟩ (.slice va' (ps.length+1) vc')) wb (.slice va' (ps.length+1) vc') (ps++[(hb,rb,⟨w.heap.size,hi,sv,vs,readC s,size,⟨fun _=>0,fun _=>0,fun _ _=>0,fun _ _=>0⟩,x,newD,noU⟩)]) mx∧Below B w2 (w3.setCell ⟨wb,0,none⟩ (.slice va' (ps.length+1) vc'))∧GS w2 (w3.setCell ⟨wb,0,none⟩ (.slice va' (ps.length+1) vc')) (wsS wb v ps)):=hM
  have gA:w2.grownBy w3 v.ownBlock:=gb_trans (World.grownBy_alloc _ _ _) gr3
  have ewb:w3.heap[wb]?=w2.heap[wb]?:=gA.block wb hwl2 (Ne.symm HW2.out.wv)
  have k1:w3.cell? ⟨wb,0,none⟩=some v:=(World.cell?_of_block (a:=⟨wb,0,none⟩) ewb).trans c2
  have k2:w3.frozen? ⟨wb,0,none⟩=false:=(World.frozen?_of_block (a:=⟨wb,0,none⟩) ewb).trans f2
  have hw3:wb < w3.heap.size:=Nat.lt_of_lt_of_le hwl2 gA.size
  clear own2 own3 gr3 hb3 hM gA ewb
  go_wp2_with (at_builtin; refine wpList_append_run rfl _ _ 26 rfl _ _ _ _ rfl rfl hrun ?_)
  go_ret
  exact ⟨rfl,⟨(HB2.out.mono hBw).trans HM.out.2.1,GS.below HB2.out HM.out.2.2⟩,_,_,HM.out.1,by simp,by simp,fun _=>by simp⟩
 ·obtain ⟨y,hy⟩:∃ y,y=newE s size:=⟨_,rfl⟩
  have HY:Hid (y=newE s size):=hy
  have HY0:Hid (y≠0):=by show y≠0; rw [hy]; exact h0
  rw [← hy] at PM
  have yb:(y != y)=false:=by simp
  clear h hE hy h0
  go_enter Tryz.func8,Tryz.ntmps8
  go_wp2_with fail
  refine PM.mono ?_
  rintro e w1 ⟨B1,hcase⟩
  obtain rfl:e=.returned (.tuple #[.pointer none,.int .i64 y]):=by
   rcases hcase with ⟨_,a1⟩ | ⟨a1,_⟩
   ·exact a1
   ·exact absurd a1 HY0.out
  have RM:=rnew_any s size w1 hs (HE.out.below B1)
  have HB1:Hid (Below w.heap.size w w1):=B1
  clear PM hcase B1
  go_wp2_with fail
  refine RM.mono ?_
  rintro e w2 ⟨B2,hcase⟩
  obtain rfl:e=.returned (.tuple #[.pointer none,.int .i64 y]):=by
   rcases hcase with ⟨_,a1⟩ | ⟨a1,_⟩
   ·rw [a1,newE_r,← HY.out]
   ·exact absurd (HY.out.trans a1) HY0.out
  have HB2:Hid (Below w.heap.size w w2):=HB1.out.trans (B2.mono HB1.out.size)
  clear RM hcase B2
  go_wp2
  go_ret
  exact ⟨rfl,⟨HB2.out.mono hBw,GS.of_below HB2.out⟩,v,ps,HW.out.below HB2.out (Nat.le_refl _),Nat.le_refl _,by omega,fun hh=>absurd (HY.out.trans hh) HY0.out⟩
end Go.Proofs.YtbgilndohccicaaGreatDoor
namespace Go.Proofs.YtbgilndohccicaaGreatDoor
open Go.RowKit
theorem Sim.congrN {cs:Sch} {p:PH} {r:DH} (h:Sim cs p r) {N':Nat→Nat→Int} (hN:∀ i j,i≠201→N' i j=p.N i j):Sim cs { p with N:=N' } r:=by
 obtain ⟨M,B⟩:=h
 exact ⟨M,B.fn,B.inj,B.pos,B.root,B.cls,B.has,fun a b hM j f hf hk=>(hN a j (by have:=(B.pos a b hM).2.1; omega)).trans (B.num a b hM j f hf hk),B.ref,B.nor⟩
theorem UCls.mono {w:World} {lo lo':Nat} {v:Value} {vs:List HV} {cs:List HC} (h:UCls w lo v vs cs) (hl:lo'≤lo):UCls w lo' v vs cs :=
 ⟨row_mono h.row hl,h.len,fun i p c h1 h2=>⟨(h.fld i p c h1 h2).1,(h.fld i p c h1 h2).2.1,row_mono (h.fld i p c h1 h2).2.2 hl⟩⟩
theorem Ends.gb {w w':World} (h:Ends w) {b:Nat} (g:w.grownBy w' (some b)) (hb:0 < b):Ends w' :=
 ⟨Nat.lt_of_lt_of_le h.1 g.size,fun k hk=>(World.cell?_of_block (a:=⟨0,k,none⟩) (g.block 0 h.1 (fun e=>by injection e with e; omega))).trans (h.2 k hk)⟩
theorem PairOK.upd {w w1 w2:World} {hb rb:Nat} {d:PD} {mx:Nat} {o:OpV} (h:PairOK (boxed w hb rb o) hb rb d mx) (hlo:d.lo≤hb) (N':Nat→Nat→Int) (x':RX) (u':UD) (hN:∀ i j,i≠201→N' i j=d.p.N i j) (hX:∀ b,x'.has d.cs d.r.n rb b→d.x.has d.cs d.r.n rb b)
  (hp:HP w1 hb d.sv d.sz d.p.R d.p.K N' d.p.F) (g1:(boxed w hb rb o).grownBy w1 (some hb)) (rp:RP w2 rb x' d.cs d.sz d.r) (g2:w1.grownBy w2 (some rb)) (pd:x'.pd=pdP { d.p with N:=N' })
  (on:pdP { d.p with N:=N' }=true→uE d.cs u'.s=0∧haAll u'.s=some u'.hs∧MksIn w2 u'.lo u'.hi (updV N') u'.mv (uM d.cs u'.s)∧UClsIn w2 u'.lo u'.hi (.slice x'.nx.a x'.nx.n x'.nx.c) u'.hv u'.hs) (sp:x'.pd=true→0≤x'.sp∧x'.sp≤200) (hu:u'=d.u∨((boxed w hb rb o).heap.size≤u'.lo∧u'.hi≤w2.heap.size)) :
  LPost hb rb d mx w (.returned (.bool true)) w2:=by
 have hbl:=h.hp.lt
 have hrl:rb < (boxed w hb rb o).heap.size:=h.rp.lt
 have hrb:d.x.has d.cs d.r.n rb rb:=.inl rfl
 obtain ⟨rp1,cl1⟩:=h.afterP hlo g1
 have hne:hb≠rb:=fun e=>h.loh hlo (by rw [e]; exact hrb)
 have gs1:GS (boxed w hb rb o) w1 (d.fp hb rb):=GS.of_gb g1 (.inl (.inl ⟨hlo,Nat.le_refl _⟩))
 have gs2:GS w1 w2 (d.fp hb rb):=GS.of_gb g2 (.inl (.inr hrb))
 refine lpost_of (d':={ d with p:={ d.p with N:=N' },x:=x',u:=u' }) ⟨?_,?_,h.lh,rp,⟨h.pw.root,h.pw.ref⟩,h.wf,h.sim.congrN hN,h.n6,h.okc,h.s1,h.s2,by have:=h.mx; exact Nat.le_succ_of_le this,fun b hb'=>h.dj b (hX b hb'),h.uq,h.lc,pd,on,sp,?_,?_,?_⟩ hlo (gs1.trans gs2) ?_
 ·exact hp.kept (g2.block hb (Nat.lt_of_lt_of_le hbl g1.size) (fun e=>by injection e with e; exact hne e.symm.symm))
 ·refine cl1.keep fun b h1 h2=>g2.block b (by have:=h.lh; have:=g1.size; omega) (fun e=>?_)
  injection e with e
  subst e
  exact h.dj _ hrb ⟨h1,by have:=h.lh; omega⟩
 ·rcases hu with rfl | hu
  ·exact Nat.le_trans h.up.lt (Nat.le_trans g1.size g2.size)
  ·exact hu.2
 ·rcases hu with rfl | hu
  ·exact h.up.nb
  ·rintro ⟨a1,a2⟩
   have:=hu.1
   have a1':u'.lo≤hb:=a1
   omega
 ·intro b hb'
  have hb2:=hX b hb'
  rcases hu with rfl | hu
  ·exact h.up.nx b hb2
  ·rintro ⟨a1,a2⟩
   have:=hu.1
   have a1':u'.lo≤b:=a1
   have:=h.rp.has_lt hb2
   omega
 ·rintro b ((hh | hh) | hh)
  ·exact .inl (.inl (.inl hh))
  ·exact .inl (.inl (.inr (hX b hh)))
  ·rcases hu with rfl | hu
   ·exact .inl (.inr hh)
   ·have a1:u'.lo≤b:=hh.1
    exact .inr (by omega)
theorem bg_pair {cs:Sch} {p:PH} {x:RX} (h:x.pd=pdP p) (s:ByteArray):bgR x cs s=bgE p cs s:=by
 unfold bgR bgE
 rw [h]
 unfold pdP
 by_cases h0:p.N 201 0≠0
 ·rw [if_pos h0,if_pos (by simpa using h0)]
 ·rw [if_neg h0,if_neg (by simpa using h0)]
set_option maxRecDepth 20000 in
set_option maxHeartbeats 1000000 in
theorem changes_begin (hb rb:Nat) (d:PD) (mx:Nat) (o:OpV) (w:World) (h:PairOK w hb rb d mx) (hlo:d.lo≤hb) (ho:o.ok) (hk:o.k=16) (hE:Ends w) (hb0:0 < hb) :
  Calls Tryz.prog 15 #[.agg #[.pointer (some ⟨hb,0,none⟩),.pointer (some ⟨rb,0,none⟩)],o.val] w (LPost hb rb d mx w):=by
 have hB:=h.box hlo o
 have bx:=Bx.new w hb rb o
 have hbl:=h.hp.lt
 have hrl:=h.rp.lt
 have PM:=pbegin_any hb d.sv d.sz d.p _ hB.hp hB.cl.cls o.s ho.s
 have RM:=fun W (hW:RP W rb d.x d.cs d.sz d.r) (hEW:Ends W)=>begin_r rb d.x d.cs d.sz d.r W hW h.uq hEW o.s ho.s
 have HB:Hid (PairOK (boxed w hb rb o) hb rb d mx):=hB
 have HX:Hid (Bx (boxed w hb rb o) w.heap.size hb rb o):=bx
 have HE:Hid (Ends (boxed w hb rb o)):=hE.below (boxed_below w hb rb o)
 have HQ:Hid (bgR d.x d.cs o.s=bgE d.p d.cs o.s):=bg_pair h.up.pd o.s
 unfold BgPost at PM
 unfold BrPost at RM
 rw [HQ.out] at RM
 have hz:(bgE d.p d.cs o.s).1=0→uE d.cs o.s=0:=by
  unfold bgE
  split
  ·intro h; simp at h
  ·exact id
 have HZ:Hid ((bgE d.p d.cs o.s).1=0→uE d.cs o.s=0):=hz
 clear hz HQ
 generalize bgE d.p d.cs o.s=yz at PM RM HZ
 obtain ⟨y,z⟩:=yz
 simp only [] at PM RM HZ
 obtain ⟨ok,om,oa,ob,oc,ov,os,ot⟩:=o
 simp only [OpV.val] at *
 subst hk
 clear h hB bx ho hE
 go_enter Tryz.func15,Tryz.ntmps15
 go_wp2_with fail
 refine PM.mono ?_
 rintro e w1 ⟨rfl,g1,hne,heq⟩
 obtain ⟨rp1,_⟩:=HB.out.afterP hlo g1
 have RM1:=RM w1 rp1 (HE.out.gb g1 hb0)
 obtain ⟨x0,x1,x2,x3,x4,x5,x6,x7,x8⟩:=HX.out.gb g1 hbl
 have HG1:Hid ((boxed w hb rb ⟨16,om,oa,ob,oc,ov,os,ot⟩).grownBy w1 (some hb)):=g1
 have HNE:Hid (y≠0→HP w1 hb d.sv d.sz d.p.R d.p.K d.p.N d.p.F):=hne
 have HEQ:Hid (y=0→∃ N' mv,HP w1 hb d.sv d.sz d.p.R d.p.K N' d.p.F∧N' 201 0=1∧(∀ i j,i≠201→N' i j=d.p.N i j)∧Mks w1 (boxed w hb rb ⟨16,om,oa,ob,oc,ov,os,ot⟩).heap.size (updV N') mv (uM d.cs os)):=heq
 clear PM RM g1 rp1 hne heq
 go_wp2_with fail
 refine RM1.mono ?_
 rintro e w2 ⟨rfl,g2,hne2,heq2⟩
 have HL:Hid (LPost hb rb d mx w (.returned (.bool true)) w2):=by
  show LPost hb rb d mx w (.returned (.bool true)) w2
  have hB':=HB.out
  by_cases hy:y=0
  ·obtain ⟨N',mv,hp,hN1,hN2,hM⟩:=HEQ.out hy
   obtain ⟨nx,hv,hs,rp,hha,hU⟩:=heq2 hy
   have hrl':rb < (boxed w hb rb ⟨16,om,oa,ob,oc,ov,os,ot⟩).heap.size:=hB'.rp.lt
   have hM2:Mks w2 (boxed w hb rb ⟨16,om,oa,ob,oc,ov,os,ot⟩).heap.size (updV N') mv (uM d.cs os):=hM.keepR fun b h1 h2=>g2.block b h2 (fun e=>by injection e with e; omega)
   have hp1:pdP { d.p with N:=N' }=true:=by unfold pdP; simp [hN1]
   exact hB'.upd hlo N' { d.x with nx:=nx,pd:=true,rd:=false,sp:=0 } ⟨(boxed w hb rb ⟨16,om,oa,ob,oc,ov,os,ot⟩).heap.size,w2.heap.size,os,mv,hv,hs⟩ hN2 (fun b hb'=>hb') hp HG1.out rp g2 hp1.symm
    (fun _=>⟨HZ.out hy,hha,MksIn.of hM2,UClsIn.of (hU.mono HG1.out.size)⟩) (fun _=>by simp) (.inr ⟨Nat.le_refl _,Nat.le_refl _⟩)
  ·have hl2:w1.heap.size≤w2.heap.size:=g2.size
   have hub:∀ b,d.u.lo≤b→b < d.u.hi→w2.heap[b]?=(boxed w hb rb ⟨16,om,oa,ob,oc,ov,os,ot⟩).heap[b]?:=fun b h1 h2=>by
    have hl:=hB'.up.lt
    have:=HG1.out.size
    exact (g2.block b (by omega) (fun e=>by injection e with e; subst e; exact hB'.up.nx _ (.inl rfl) ⟨h1,h2⟩)).trans (HG1.out.block b (by omega) (fun e=>by injection e with e; subst e; exact hB'.up.nb ⟨h1,h2⟩))
   exact hB'.upd hlo d.p.N d.x d.u (fun _ _ _=>rfl) (fun b hb'=>hb') (HNE.out hy) HG1.out (hne2 hy) g2 hB'.up.pd
    (fun hpd=>⟨(hB'.up.on hpd).1,(hB'.up.on hpd).2.1,(hB'.up.on hpd).2.2.1.keep hub,(hB'.up.on hpd).2.2.2.keep hub⟩) hB'.up.sp (.inl rfl)
 clear RM1 hne2 heq2 g2
 go_wp2
 go_ret
 exact HL.out
end Go.Proofs.YtbgilndohccicaaGreatDoor
