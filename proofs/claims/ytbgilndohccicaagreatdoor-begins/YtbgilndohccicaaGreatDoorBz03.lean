import Derived.Test.YtbgilndohccicaaGreatDoorBz02
namespace Go.Proofs.YtbgilndohccicaaGreatDoor
open Go.RowKit
theorem RP.ovlt {w:World} {rb:Nat} {x:RX} {cs:Sch} {sz:Int} {r:DH} (h:RP w rb x cs sz r):∀ g,Value.ownBlock (.slice x.ov.a r.n x.ov.c)=some g→x.ov.a=some ⟨g,0,none⟩:=by
 intro g hg
 rcases h.own.2 with ⟨e,hn⟩ | ⟨g',cap,cur,e,_,hg',_⟩
 ·rw [e] at hg; cases hg
 ·have ea:x.ov.a=some ⟨g',0,none⟩:=by injection e
  rw [ea] at hg ⊢
  have:g'=g:=by simpa [Value.ownBlock] using hg
  rw [this]
theorem sc_other (w:World) {b b' o o':Nat} (v:Value) (h:b'≠b):(w.setCell ⟨b,o,none⟩ v).cell? ⟨b',o',none⟩=w.cell? ⟨b',o',none⟩:=World.cell?_setCell_other _ _ _ _ (by intro e; injection e with e1 _ _; exact h e1.symm)
theorem sc_off (w:World) {b o o':Nat} (v:Value) (h:o'≠o):(w.setCell ⟨b,o,none⟩ v).cell? ⟨b,o',none⟩=w.cell? ⟨b,o',none⟩:=World.cell?_setCell_other _ _ _ _ (by intro e; injection e with _ e2 _; exact h e2.symm)
theorem sc_blk (w:World) {b b' o:Nat} (v:Value) (h:b'≠b):(w.setCell ⟨b,o,none⟩ v).heap[b']?=w.heap[b']?:=Below.heap_setCell _ _ _ _ h
theorem sc_frz (w:World) {b o b' o':Nat} (v:Value):(w.setCell ⟨b,o,none⟩ v).frozen? ⟨b',o',none⟩=w.frozen? ⟨b',o',none⟩:=by simp
theorem gb_bdN (w:World) (n:Nat):Below w.heap.size w (w.drewN n):=⟨rfl,rfl,rfl,Nat.le_refl _,fun _ _=>rfl⟩
theorem RP.setC {w:World} {rb:Nat} {x:RX} {cs:Sch} {sz:Int} {r:DH} (h:RP w rb x cs sz r) {o k:Nat} (ho:o < r.n) (hk:k < (fof cs (r.K (o+1))).length) (v:Int) :
  RP (w.setCell ⟨x.G o,k,none⟩ (.int .i64 v)) rb x cs sz { r with C:=set2 r.C (o+1) k v }:=by
 have nb:=h.nrb o ho
 have hsz:(w.setCell ⟨x.G o,k,none⟩ (.int .i64 v)).heap.size=w.heap.size:=by simp [World.setCell]
 have ec:∀ i,(w.setCell ⟨x.G o,k,none⟩ (.int .i64 v)).cell? ⟨rb,i,none⟩=w.cell? ⟨rb,i,none⟩:=fun i=>sc_other w _ (Ne.symm nb)
 refine ⟨by rw [ec]; exact h.c0,by rw [ec]; exact h.c1,by rw [ec]; exact h.c2,fun i hi=>by rw [ec]; exact h.root i hi,by rw [ec]; exact h.c11,by rw [ec]; exact h.c12,by rw [ec]; exact h.c13,by rw [ec]; exact h.c14,fun i=>by rw [sc_frz]; exact h.frz i,
  h.kc.keep (by rw [hsz]; exact Nat.le_refl _) fun b hb=>sc_blk w _ (fun e=>h.nkx o ho (e ▸ hb)),row_keep h.own fun g hg=>sc_blk w _ (fun e=>h.nov o ho g (h.ovlt g hg) e.symm),fun o' ho'=>?_,h.apart,h.nrb,h.nov,h.nkx,h.rkx,h.rov⟩
 have hb:=h.ob o' ho'
 refine ⟨by rw [hsz]; exact hb.lt,fun k' hk'=>?_,fun k'=>by rw [sc_frz]; exact hb.frz k'⟩
 by_cases e:o'=o
 ·subst e
  by_cases e2:k'=k
  ·subst e2
   have:=hb.cell k' hk'
   show _=some (Value.int .i64 (set2 r.C (o'+1) k' v (o'+1) k'))
   rw [set2_self]
   go_simp
  ·show _=some (Value.int .i64 (set2 r.C (o'+1) k v (o'+1) k'))
   rw [set2_ne _ _ (by omega),sc_off w _ e2]; exact hb.cell k' hk'
 ·show _=some (Value.int .i64 (set2 r.C (o+1) k v (o'+1) k'))
  rw [set2_ne _ _ (by omega),sc_other w _ (fun e'=>e (h.apart o' o ho' ho e'))]; exact hb.cell k' hk'
theorem RP.setR {w:World} {rb:Nat} {x:RX} {cs:Sch} {sz:Int} {r:DH} (h:RP w rb x cs sz r) {i y:Nat} (hi:i < 8) :
  RP (w.setCell ⟨rb,3+i,none⟩ (.int .i64 y)) rb x cs sz { r with R:=set1 r.R i y }:=by
 have hsz:(w.setCell ⟨rb,3+i,none⟩ (.int .i64 y)).heap.size=w.heap.size:=by simp [World.setCell]
 have ec:∀ j,j≠3+i→(w.setCell ⟨rb,3+i,none⟩ (.int .i64 y)).cell? ⟨rb,j,none⟩=w.cell? ⟨rb,j,none⟩:=fun j hj=>sc_off w _ hj
 refine ⟨by rw [ec _ (by omega)]; exact h.c0,by rw [ec _ (by omega)]; exact h.c1,by rw [ec _ (by omega)]; exact h.c2,fun j hj=>?_,by rw [ec _ (by omega)]; exact h.c11,by rw [ec _ (by omega)]; exact h.c12,by rw [ec _ (by omega)]; exact h.c13,by rw [ec _ (by omega)]; exact h.c14,fun i=>by rw [sc_frz]; exact h.frz i,
  h.kc.keep (by rw [hsz]; exact Nat.le_refl _) fun b hb=>sc_blk w _ (fun e=>h.rkx (e ▸ hb)),row_keep h.own fun g hg=>sc_blk w _ (fun e=>(h.rov g (h.ovlt g hg)).1 e.symm),fun o' ho'=>?_,h.apart,h.nrb,h.nov,h.nkx,h.rkx,h.rov⟩
 ·show _=some (Value.int .i64 (set1 r.R i y j:Nat))
  by_cases e:j=i
  ·subst e
   have:=h.root j hj
   rw [set1_self]
   go_simp
  ·rw [set1_ne _ _ e,ec _ (by omega)]; exact h.root j hj
 ·have hb:=h.ob o' ho'
  refine ⟨by rw [hsz]; exact hb.lt,fun k' hk'=>?_,fun k'=>by rw [sc_frz]; exact hb.frz k'⟩
  rw [sc_other w _ (h.nrb o' ho')]; exact hb.cell k' hk'
end Go.Proofs.YtbgilndohccicaaGreatDoor
namespace Go.Proofs.YtbgilndohccicaaGreatDoor
open Go.RowKit
theorem fsel_at {cs:Sch} {r:DH} {root name:Int} {ref:Bool} (hR:∀ i,i < 8→r.R i≤r.n) (h:(fsel ref (ffind cs r.R r.K root name)).e=0) :
  ∃ o k kd,ffind cs r.R r.K root name=⟨o+1,k,kd,0⟩∧fsel ref (ffind cs r.R r.K root name)=⟨o+1,k,kd,0⟩∧o < r.n∧k < (fof cs (r.K (o+1))).length∧(fof cs (r.K (o+1)))[k]?.getD (0,0)=(name,kd)∧decide (kd=114)=ref:=by
 have h1:(ffind cs r.R r.K root name).e=0∧fsel ref (ffind cs r.R r.K root name)=ffind cs r.R r.K root name∧decide ((ffind cs r.R r.K root name).k=114)=ref:=by
  unfold fsel at h ⊢
  cases ref with
  | true=>rw [if_pos rfl] at h ⊢; obtain ⟨a,b,c⟩:=fref_e0 h; exact ⟨a,c,by simp [b]⟩
  | false=>rw [if_neg (by decide)] at h ⊢; obtain ⟨a,b,c⟩:=fnum_e0 h; exact ⟨a,c,by simp [b]⟩
 obtain ⟨n,hn,h8,h0,i,hi,hil,e⟩:=ffind_at h1.1
 have hle:=hR n h8
 obtain ⟨o,ho⟩:∃ o,r.R n=o+1:=⟨r.R n - 1,by omega⟩
 rw [ho] at e hi hil
 have e2:=idxF_at hi
 refine ⟨o,i,_,e,h1.2.1.trans e,by omega,hil,?_,by rw [← h1.2.2,e]⟩
 exact Prod.ext e2.2 rfl
theorem fsel_no {f:FF} {ref:Bool} (h:(fsel ref f).e≠0):fsel ref f=⟨0,0,0,(fsel ref f).e⟩:=by
 unfold fsel fref fnum at h ⊢
 split at h
 ·split at h
  ·split at h
   ·exact absurd (by assumption) h
   ·rename_i h1 h2 h3; rw [if_pos h1,if_pos h2,if_neg h3]
  ·rename_i h1 h2; rw [if_pos h1,if_neg h2]
 ·split at h
  ·split at h
   ·rename_i h1 h2 h3; rw [if_neg h1,if_pos h2,if_pos h3]
   ·exact absurd (by assumption) h
  ·rename_i h1 h2; rw [if_neg h1,if_neg h2]
def RGetPost (cs:Sch) (r:DH) (root name:Int) (w:World) (e:Ending) (w':World):Prop :=
 e=.returned (.tuple #[.int .i64 (if (fnum (ffind cs r.R r.K root name)).e=0 then r.C (ffind cs r.R r.K root name).n (ffind cs r.R r.K root name).i else 0),.int .i64 (fnum (ffind cs r.R r.K root name)).e])∧Below w.heap.size w w'
set_option maxRecDepth 20000 in
set_option maxHeartbeats 1000000 in
theorem rget_any (rb:Nat) (x:RX) (cs:Sch) (sz:Int) (r:DH) (w:World) (h:RP w rb x cs sz r) (hR:∀ i,i < 8→r.R i≤r.n) (hcs:cs.length≤1000) (h6:∀ c∈cs,c.2.length≤6) (hn:r.n≤4398046511104) (root name:Int) :
  Calls Tryz.prog 27 #[.pointer (some ⟨rb,0,none⟩),.int .i64 root,.int .u8 name] w (RGetPost cs r root name w):=by
 have hrb:=h.lt
 have C:=spot_any rb x cs sz r w h hR hcs h6 hn root name false
 have efs:fsel false (ffind cs r.R r.K root name)=fnum (ffind cs r.R r.K root name):=rfl
 unfold RGetPost
 by_cases h0:(fsel false (ffind cs r.R r.K root name)).e=0
 ·obtain ⟨o,k,kd,e1,e2,ho,hk,_,_⟩:=fsel_at hR h0
  rw [← efs,e2,e1]
  rw [e2] at C
  simp only [if_pos]
  clear h0 e1 e2 efs
  obtain ⟨g,hga,hg,hrow⟩:=h.row (by omega)
  obtain ⟨o0,o1⟩:=hrow o ho
  have ck:=(h.ob o ho).cell k hk
  have hG:=(h.ob o ho).lt
  have c2:=h.c2
  rw [hga] at c2
  obtain ⟨m,hm⟩:∃ m,m=(fof cs (r.K (o+1))).length:=⟨_,rfl⟩
  rw [← hm] at o1 hk
  have hob:(0:Int)≤(o:Int)∧(o:Int) < (r.n:Int):=by omega
  have hkb:(0:Int)≤(k:Int)∧(k:Int) < (m:Int):=by omega
  have hm6:m≤6:=by rw [hm]; exact fof_le h6 _
  clear hrow hm
  go_enter Tryz.func27,Tryz.ntmps27
  go_wp2_with fail
  refine C.mono ?_
  rintro e w1 ⟨rfl,nd,rfl⟩
  clear C
  simp only [Nat.add_sub_cancel]
  go_wp2
  go_ret2
  exact ⟨rfl,gb_bdN _ _⟩
 ·rw [← efs]
  have e2:=fsel_no h0
  rw [if_neg h0]
  obtain ⟨y,hy⟩:∃ y,y=(fsel false (ffind cs r.R r.K root name)).e:=⟨_,rfl⟩
  rw [← hy] at e2 h0 ⊢
  rw [e2] at C
  have hy':(y==0)=false:=by simpa using h0
  have hy'':(y != 0)=true:=by simpa using h0
  clear e2 hy efs
  go_enter Tryz.func27,Tryz.ntmps27
  go_wp2_with fail
  refine C.mono ?_
  rintro e w1 ⟨rfl,nd,rfl⟩
  clear C
  simp only []
  go_wp2
  go_ret2
  exact ⟨rfl,gb_bdN _ _⟩
end Go.Proofs.YtbgilndohccicaaGreatDoor
namespace Go.Proofs.YtbgilndohccicaaGreatDoor
structure Wf (cs:Sch) (r:DH):Prop where
 root:∀ i,i < 8→r.R i≤r.n
 ref:∀ b,0 < b→b≤r.n→∀ j f,(fof cs (r.K b))[j]?=some f→f.2=114→0≤r.C b j∧r.C b j≤r.n
 rng:∀ b j,0 < b→b≤r.n→-9223372036854775808≤r.C b j∧r.C b j≤9223372036854775807
theorem Wf.in_le {cs:Sch} {r:DH} (h:Wf cs r) {b:Nat} (hb:r.in cs b):0 < b∧b≤r.n:=by
 refine Rch.least (P:=fun b=>0 < b∧b≤r.n) ?_ ?_ hb
 ·rintro x ⟨i,hi,rfl,hx⟩; exact ⟨by omega,h.root i hi⟩
 ·rintro x y ⟨h1,h2⟩ ⟨j,f,hf,hk,hc,hy⟩
  have:=h.ref x h1 h2 j f hf hk
  omega
theorem Wf.setRoot {cs:Sch} {r:DH} (h:Wf cs r) (i y:Nat) (hy:y≤r.n):Wf cs { r with R:=set1 r.R i y } :=
 ⟨fun k hk=>by
  by_cases e:k=i
  ·subst e; simpa [set1_self] using hy
  ·simpa [set1_ne _ _ e] using h.root k hk,h.ref,h.rng⟩
theorem Wf.setNum {cs:Sch} {r:DH} (h:Wf cs r) (b i:Nat) (v:Int) (f:Int×Int) (hf:(fof cs (r.K b))[i]?=some f) (hk:f.2≠114) (h1:-9223372036854775808≤v) (h2:v≤9223372036854775807):Wf cs { r with C:=set2 r.C b i v }:=by
 refine ⟨h.root,fun x hx hn j g hg hgk=>?_,fun x j hx hn=>?_⟩
 ·have e:¬ (x=b∧j=i):=by
   rintro ⟨rfl,rfl⟩
   simp only [] at hg
   rw [hf] at hg
   exact hk (by have:=Option.some.inj hg; rw [this]; exact hgk)
  simp only [set2_ne _ _ e]
  exact h.ref x hx hn j g hg hgk
 ·by_cases e:x=b∧j=i
  ·obtain ⟨rfl,rfl⟩:=e; simpa [set2_self] using ⟨h1,h2⟩
  ·simp only [set2_ne _ _ e]; exact h.rng x j hx hn
theorem Wf.setRef {cs:Sch} {r:DH} (h:Wf cs r) (b i y:Nat) (hy:y≤r.n) (hn:r.n≤9223372036854775807):Wf cs { r with C:=set2 r.C b i (y:Int) }:=by
 refine ⟨h.root,fun x hx hn' j g hg hgk=>?_,fun x j hx hn'=>?_⟩
 ·by_cases e:x=b∧j=i
  ·obtain ⟨rfl,rfl⟩:=e; simp only [set2_self]; omega
  ·simp only [set2_ne _ _ e]; exact h.ref x hx hn' j g hg hgk
 ·by_cases e:x=b∧j=i
  ·obtain ⟨rfl,rfl⟩:=e; simp only [set2_self]; omega
  ·simp only [set2_ne _ _ e]; exact h.rng x j hx hn'
theorem Wf.make {cs:Sch} {r r':DH} (h:Wf cs r) (i:Nat) (dR:r'.R=set1 r.R i (r.n+1)) (dK:∀ y,0 < y→y≤r.n→r'.K y=r.K y) (dC:∀ y j,0 < y→y≤r.n→r'.C y j=r.C y j) (dC1:∀ j,r'.C (r.n+1) j=0) (dn:r'.n=r.n+1):Wf cs r':=by
 refine ⟨fun k hk=>?_,fun x hx hn j g hg hgk=>?_,fun x j hx hn=>?_⟩
 ·rw [dR,dn]
  by_cases e:k=i
  ·subst e; rw [set1_self]; omega
  ·rw [set1_ne _ _ e]; have:=h.root k hk; omega
 ·by_cases e:x≤r.n
  ·rw [dC x j hx e,dn]; rw [dK x hx e] at hg; have:=h.ref x hx e j g hg hgk; omega
  ·have:x=r.n+1:=by omega
   subst this; rw [dC1]; omega
 ·by_cases e:x≤r.n
  ·rw [dC x j hx e]; exact h.rng x j hx e
  ·have:x=r.n+1:=by omega
   subst this; rw [dC1]; omega
/-! Which are there: again and again. T: those that are marked,from 0 on. -/
def cloJ (cs:Sch) (r:DH) (T:Nat→Bool) (o j:Nat):Prop:=∀ f,(fof cs (r.K (o+1)))[j]?=some f→f.2=114→∀ y:Nat,r.C (o+1) j=y→y≠0→T (y - 1)=true
def clo (cs:Sch) (r:DH) (T:Nat→Bool) (o:Nat):Prop:=T o=true→∀ j,cloJ cs r T o j
def cloA (cs:Sch) (r:DH) (T:Nat→Bool):Prop:=∀ o,o < r.n→clo cs r T o
structure OI (cs:Sch) (r:DH) (T:Nat→Bool) (k:Nat):Prop where
 snd:∀ i,i < r.n→T i=true→r.in cs (i+1)
 rts:∀ i,i < 8→r.R i≠0→T (r.R i - 1)=true
 cl:cloA cs r T∨k≤cnt T r.n
structure TI (cs:Sch) (r:DH) (T0 T:Nat→Bool) (o k:Nat):Prop where
 snd:∀ i,i < r.n→T i=true→r.in cs (i+1)
 rts:∀ i,i < 8→r.R i≠0→T (r.R i - 1)=true
 mono:∀ i,i < r.n→T0 i=true→T i=true
 st:cloA cs r T0→T=T0
 ds:(T=T0∧(∀ o',o' < o→clo cs r T o')∧(T o=true→∀ j,j < k→cloJ cs r T o j))∨cnt T0 r.n < cnt T r.n
structure RI (cs:Sch) (r:DH) (T:Nat→Bool) (m:Nat):Prop where
 snd:∀ i,i < r.n→T i=true→r.in cs (i+1)
 rts:∀ i,i < m→r.R i≠0→T (r.R i - 1)=true
theorem set1_true {T:Nat→Bool} {i j:Nat} (h:T j=true):set1 T i true j=true:=by
 by_cases e:j=i
 ·subst e; exact set1_self _ _ _
 ·rw [set1_ne _ _ e]; exact h
theorem set1_id {T:Nat→Bool} {i:Nat} (h:T i=true):set1 T i true=T:=by
 funext j
 by_cases e:j=i
 ·subst e; rw [set1_self,h]
 ·rw [set1_ne _ _ e]
theorem RI.start (cs:Sch) (r:DH):RI cs r (fun _=>false) 0:=⟨fun i _ h=>by simp at h,fun i h=>by omega⟩
theorem RI.skip {cs:Sch} {r:DH} {T:Nat→Bool} {m:Nat} (h:RI cs r T m) (h0:r.R m=0):RI cs r T (m+1) :=
 ⟨h.snd,fun i hi hne=>by
  rcases Nat.lt_succ_iff_lt_or_eq.1 hi with hi | rfl
  ·exact h.rts i hi hne
  ·exact absurd h0 hne⟩
theorem RI.mark {cs:Sch} {r:DH} {T:Nat→Bool} {m:Nat} (h:RI cs r T m) (hm:m < 8) (h0:r.R m≠0):RI cs r (set1 T (r.R m - 1) true) (m+1) :=
 ⟨fun i hi ht=>by
  by_cases e:i=r.R m - 1
  ·have:i+1=r.R m:=by omega
   rw [this]; exact .root ⟨m,hm,rfl,h0⟩
  ·rw [set1_ne _ _ e] at ht; exact h.snd i hi ht,
  fun i hi hne=>by
  rcases Nat.lt_succ_iff_lt_or_eq.1 hi with hi | rfl
  ·exact set1_true (h.rts i hi hne)
  ·exact set1_self _ _ _⟩
theorem RI.oi {cs:Sch} {r:DH} {T:Nat→Bool} (h:RI cs r T 8):OI cs r T 0:=⟨h.snd,h.rts,.inr (Nat.zero_le _)⟩
theorem OI.ti {cs:Sch} {r:DH} {T:Nat→Bool} {k:Nat} (h:OI cs r T k):TI cs r T T 0 0 :=
 ⟨h.snd,h.rts,fun _ _ h=>h,fun _=>rfl,.inl ⟨rfl,fun o' h=>by omega,fun _ j h=>by omega⟩⟩
theorem TI.skip {cs:Sch} {r:DH} {T0 T:Nat→Bool} {o k:Nat} (h:TI cs r T0 T o k) (hk:cloJ cs r T o k):TI cs r T0 T o (k+1):=by
 refine ⟨h.snd,h.rts,h.mono,h.st,?_⟩
 rcases h.ds with ⟨h1,h2,h3⟩ | h1
 ·exact .inl ⟨h1,h2,fun ht j hj=>by
   rcases Nat.lt_succ_iff_lt_or_eq.1 hj with hj | rfl
   ·exact h3 ht j hj
   ·exact hk⟩
 ·exact .inr h1
theorem TI.mark {cs:Sch} {r:DH} {T0 T:Nat→Bool} {o k:Nat} (h:TI cs r T0 T o k) (ho:o < r.n) (ht:T o=true) (f:Int×Int) (hf:(fof cs (r.K (o+1)))[k]?=some f) (hk:f.2=114) (y:Nat) (hy:r.C (o+1) k=y) (h0:y≠0) (hn:y≤r.n):TI cs r T0 (set1 T (y - 1) true) o (k+1):=by
 by_cases e:T (y - 1)=true
 ·rw [set1_id e]
  refine h.skip ?_
  intro f' hf' hk' y' hy' _
  have:y'=y:=by omega
  subst this; exact e
 ·have e':T (y - 1)=false:=by simpa using e
  refine ⟨fun i hi hti=>?_,fun i hi hne=>set1_true (h.rts i hi hne),fun i hi h2=>set1_true (h.mono i hi h2),fun hc=>?_,.inr ?_⟩
  ·by_cases e2:i=y - 1
   ·have:i+1=y:=by omega
    rw [this]; exact .step (h.snd o ho ht) ⟨k,f,hf,hk,hy,h0⟩
   ·rw [set1_ne _ _ e2] at hti; exact h.snd i hi hti
  ·have:=h.st hc
   subst this
   exact absurd (hc o ho ht k f hf hk y hy h0) e
  ·have c1:=cnt_mono T0 T r.n h.mono
   have c2:=cnt_more T (set1 T (y - 1) true) r.n (y - 1) (fun i hi h2=>set1_true h2) (by omega) e' (set1_self _ _ _)
   omega
theorem TI.next {cs:Sch} {r:DH} {T0 T:Nat→Bool} {o k:Nat} (h:TI cs r T0 T o k) (hk:T o=true→(fof cs (r.K (o+1))).length≤k):TI cs r T0 T (o+1) 0:=by
 refine ⟨h.snd,h.rts,h.mono,h.st,?_⟩
 rcases h.ds with ⟨h1,h2,h3⟩ | h1
 ·refine .inl ⟨h1,fun o' ho' ht j=>?_,fun _ j hj=>by omega⟩
  rcases Nat.lt_succ_iff_lt_or_eq.1 ho' with ho' | rfl
  ·exact h2 o' ho' ht j
  ·by_cases hj:j < k
   ·exact h3 ht j hj
   ·intro f hf
    have:=hk ht
    obtain ⟨h',_⟩:=List.getElem?_eq_some_iff.1 hf
    omega
 ·exact .inr h1
theorem TI.done {cs:Sch} {r:DH} {T0 T:Nat→Bool} {m:Nat} (h:TI cs r T0 T r.n 0) (h0:OI cs r T0 m):OI cs r T (m+1):=by
 refine ⟨h.snd,h.rts,?_⟩
 rcases h0.cl with hc | hc
 ·have:=h.st hc; subst this; exact .inl hc
 ·rcases h.ds with ⟨h1,h2,_⟩ | h1
  ·exact .inl h2
  ·exact .inr (by omega)
theorem OI.fin {cs:Sch} {r:DH} (hw:Wf cs r) {T:Nat→Bool} (h:OI cs r T r.n):∀ o,o < r.n→(T o=true↔r.in cs (o+1)):=by
 have hc:cloA cs r T:=by
  rcases h.cl with hc | hc
  ·exact hc
  ·have:=cnt_full T r.n hc
   intro o ho _ j f hf hk y hy h0
   have:=hw.ref (o+1) (by omega) (by omega) j f hf hk
   exact cnt_full T r.n hc (y - 1) (by omega)
 intro o ho
 refine ⟨h.snd o ho,fun hin=>?_⟩
 have:∀ b,r.in cs b→0 < b∧b≤r.n∧T (b - 1)=true:=fun b hb=>by
  refine Rch.least (P:=fun b=>0 < b∧b≤r.n∧T (b - 1)=true) ?_ ?_ hb
  ·rintro x ⟨i,hi,rfl,hx⟩; exact ⟨by omega,hw.root i hi,h.rts i hi hx⟩
  ·rintro x y ⟨h1,h2,h3⟩ ⟨j,f,hf,hk,hcc,hy⟩
   have hr:=hw.ref x h1 h2 j f hf hk
   have hx:x - 1+1=x:=by omega
   exact ⟨by omega,by omega,hc (x - 1) (by omega) h3 j f (by rw [hx]; exact hf) hk y (by rw [hx]; exact hcc) hy⟩
 exact (this _ hin).2.2
def lst (T:Nat→Bool) (n:Nat):List Nat:=((List.range n).filter T).map (·+1)
theorem lst_mem {cs:Sch} {r:DH} (hw:Wf cs r) {T:Nat→Bool} (h:∀ o,o < r.n→(T o=true↔r.in cs (o+1))) (b:Nat):b∈lst T r.n↔r.in cs b:=by
 unfold lst
 rw [List.mem_map]
 constructor
 ·rintro ⟨o,ho,rfl⟩
  obtain ⟨h1,h2⟩:=List.mem_filter.1 ho
  exact (h o (List.mem_range.1 h1)).1 h2
 ·intro hb
  obtain ⟨h1,h2⟩:=hw.in_le hb
  refine ⟨b - 1,List.mem_filter.2 ⟨List.mem_range.2 (by omega),(h (b - 1) (by omega)).2 (by rwa [Nat.sub_add_cancel h1])⟩,by omega⟩
theorem lst_nodup (T:Nat→Bool) (n:Nat):(lst T n).Nodup:=by
 unfold lst
 have h:∀ l:List Nat,l.Nodup→(l.map (·+1)).Nodup:=by
  intro l hl
  induction l with
  | nil=>simp
  | cons x l ih =>
   rw [List.map_cons,List.nodup_cons]
   rw [List.nodup_cons] at hl
   refine ⟨fun hm=>?_,ih hl.2⟩
   obtain ⟨y,hy,e⟩:=List.mem_map.1 hm
   have:y=x:=by omega
   subst this; exact hl.1 hy
 exact h _ (List.Pairwise.filter _ List.nodup_range)
theorem lst_succ (T:Nat→Bool) (n:Nat):lst T (n+1)=lst T n++(if T n=true then [n+1] else []):=by
 unfold lst; rw [List.range_succ,List.filter_append,List.map_append]
 cases h:T n <;> simp [h]
def wsum (cs:Sch) (K:Nat→Int) (T:Nat→Bool) (n:Nat):Nat:=((lst T n).map fun b=>wof cs (K b)).sum
theorem wsum_succ (cs:Sch) (K:Nat→Int) (T:Nat→Bool) (n:Nat):wsum cs K T (n+1)=wsum cs K T n+(if T n=true then wof cs (K (n+1)) else 0):=by
 unfold wsum; rw [lst_succ,List.map_append,List.sum_append]
 split <;> simp
theorem wof_le {cs:Sch} (h6:∀ c∈cs,c.2.length≤6) (x:Int):wof cs x≤7:=by have:=fof_le h6 x; unfold wof; omega
theorem wsum_le {cs:Sch} (h6:∀ c∈cs,c.2.length≤6) (K:Nat→Int) (T:Nat→Bool) (n:Nat):wsum cs K T n≤7 * n:=by
 induction n with
 | zero=>simp [wsum,lst]
 | succ n ih=>rw [wsum_succ]; have:=wof_le h6 (K (n+1)); split <;> omega
end Go.Proofs.YtbgilndohccicaaGreatDoor
namespace Go.Proofs.YtbgilndohccicaaGreatDoor
structure Pw (p:PH):Prop where
 root:∀ i,i < 8→p.R i < 201
 ref:∀ a j,a < 201→j < 6→p.F a j < 201
theorem Pw.in_lt {p:PH} (h:Pw p) {a:Nat} (ha:p.in a):0 < a∧a < 201:=by
 refine Rch.least (P:=fun a=>0 < a∧a < 201) ?_ ?_ ha
 ·rintro x ⟨i,hi,rfl,hx⟩; exact ⟨by omega,h.root i hi⟩
 ·rintro x y ⟨_,hx⟩ ⟨j,hj,rfl,hy⟩; exact ⟨by omega,h.ref x j hx hj⟩
theorem Pw.setRoot {p:PH} (h:Pw p) (i x:Nat) (hx:x < 201):Pw { p with R:=set1 p.R i x } :=
 ⟨fun k hk=>by
  by_cases e:k=i
  ·subst e; simpa [set1_self] using hx
  ·simpa [set1_ne _ _ e] using h.root k hk,h.ref⟩
theorem Pw.setRef {p:PH} (h:Pw p) (a i x:Nat) (hx:x < 201):Pw { p with F:=set2 p.F a i x } :=
 ⟨h.root,fun k j hk hj=>by
  by_cases e:k=a∧j=i
  ·obtain ⟨rfl,rfl⟩:=e; simpa [set2_self] using hx
  ·simp only [set2_ne _ _ e]; exact h.ref k j hk hj⟩
structure PI (p:PH) (L:List Nat) (S:Nat→Bool):Prop where
 nd:L.Nodup
 sm:∀ x,x < 201→(S x=true↔x∈L)
 snd:∀ x,x∈L→p.in x
 bd:∀ x,x∈L→0 < x∧x < 201
def addL (L:List Nat) (S:Nat→Bool) (x:Nat):List Nat:=if x=0∨S x=true then L else L++[x]
def addS (S:Nat→Bool) (x:Nat):Nat→Bool:=if x=0∨S x=true then S else set1 S x true
theorem PI.nil (p:PH):PI p [] (fun _=>false):=⟨by simp,fun x _=>by simp,fun x h=>by simp at h,fun x h=>by simp at h⟩
theorem PI.len {p:PH} {L:List Nat} {S:Nat→Bool} (h:PI p L S):L.length≤200:=by
 have:=nodup_le 200 (L.map (· - 1)) ?_ ?_
 ·simpa using this
 ·have hp:∀ l:List Nat,l.Nodup→(∀ x∈l,0 < x)→(l.map (· - 1)).Nodup:=by
   intro l hl
   induction l with
   | nil=>intro _; simp
   | cons x l ih =>
    intro h0
    rw [List.map_cons,List.nodup_cons]
    rw [List.nodup_cons] at hl
    refine ⟨fun hm=>?_,ih hl.2 (fun y hy=>h0 y (by simp [hy]))⟩
    obtain ⟨y,hy,e⟩:=List.mem_map.1 hm
    have h1:=h0 y (by simp [hy])
    have h2:=h0 x (by simp)
    have:y=x:=by omega
    subst this; exact hl.1 hy
  exact hp L h.nd (fun x hx=>(h.bd x hx).1)
 ·intro y hy
  obtain ⟨x,hx,rfl⟩:=List.mem_map.1 hy
  have:=h.bd x hx
  omega
theorem PI.add {p:PH} {L:List Nat} {S:Nat→Bool} (h:PI p L S) (x:Nat) (hx:x≠0→p.in x) (hb:x < 201):PI p (addL L S x) (addS S x)∧(x≠0→x∈addL L S x)∧(∀ y,y∈L→y∈addL L S x)∧(∀ i,i < L.length→(addL L S x)[i]?=L[i]?)∧L.length≤(addL L S x).length:=by
 unfold addL addS
 by_cases h0:x=0∨S x=true
 ·rw [if_pos h0,if_pos h0]
  refine ⟨h,fun hne=>?_,fun _ h=>h,fun _ _=>rfl,Nat.le_refl _⟩
  rcases h0 with h0 | h0
  ·exact absurd h0 hne
  ·exact (h.sm x hb).1 h0
 ·rw [if_neg h0,if_neg h0]
  have hne:x≠0:=fun e=>h0 (.inl e)
  have hno:x ∉ L:=fun hm=>h0 (.inr ((h.sm x hb).2 hm))
  refine ⟨⟨nodup_snoc h.nd hno,fun y hy=>?_,fun y hy=>?_,fun y hy=>?_⟩,fun _=>by simp,fun y hy=>by simp [hy],fun i hi=>List.getElem?_append_left hi,by simp⟩
  ·by_cases e:y=x
   ·subst e; simp [set1_self]
   ·rw [set1_ne _ _ e,h.sm y hy]; simp [e]
  ·rcases List.mem_append.1 hy with hy | hy
   ·exact h.snd y hy
   ·simp at hy; subst hy; exact hx hne
  ·rcases List.mem_append.1 hy with hy | hy
   ·exact h.bd y hy
   ·simp at hy; subst hy; omega
structure P1 (p:PH) (L:List Nat) (S:Nat→Bool) (m:Nat):Prop where
 pi:PI p L S
 rts:∀ i,i < m→p.R i≠0→p.R i∈L
theorem P1.add {p:PH} (hp:Pw p) {L:List Nat} {S:Nat→Bool} {m:Nat} (h:P1 p L S m) (hm:m < 8):P1 p (addL L S (p.R m)) (addS S (p.R m)) (m+1):=by
 obtain ⟨h1,h2,h3,_⟩:=h.pi.add (p.R m) (fun hne=>.root ⟨m,hm,rfl,hne⟩) (hp.root m hm)
 exact ⟨h1,fun i hi hne=>by
  rcases Nat.lt_succ_iff_lt_or_eq.1 hi with hi | rfl
  ·exact h3 _ (h.rts i hi hne)
  ·exact h2 hne⟩
structure P2 (p:PH) (L:List Nat) (S:Nat→Bool) (i k:Nat):Prop where
 pi:PI p L S
 rts:∀ i,i < 8→p.R i≠0→p.R i∈L
 cl:∀ a,a < i→∀ j,j < 6→p.F (L[a]?.getD 0) j≠0→p.F (L[a]?.getD 0) j∈L
 ck:∀ j,j < k→p.F (L[i]?.getD 0) j≠0→p.F (L[i]?.getD 0) j∈L
 il:i≤L.length
theorem P1.p2 {p:PH} {L:List Nat} {S:Nat→Bool} (h:P1 p L S 8):P2 p L S 0 0:=⟨h.pi,h.rts,fun a h=>by omega,fun j h=>by omega,Nat.zero_le _⟩
theorem P2.add {p:PH} (hp:Pw p) {L:List Nat} {S:Nat→Bool} {i k:Nat} (h:P2 p L S i k) (hi:i < L.length) (hk:k < 6):P2 p (addL L S (p.F (L[i]?.getD 0) k)) (addS S (p.F (L[i]?.getD 0) k)) i (k+1)∧(addL L S (p.F (L[i]?.getD 0) k))[i]?=L[i]?∧i < (addL L S (p.F (L[i]?.getD 0) k)).length:=by
 have hm:L[i]?.getD 0∈L:=by rw [List.getElem?_eq_getElem hi]; exact List.getElem_mem hi
 have hin:=h.pi.snd _ hm
 obtain ⟨h1,h2,h3,h4,h5⟩:=h.pi.add (p.F (L[i]?.getD 0) k) (fun hne=>.step hin ⟨k,hk,rfl,hne⟩) (hp.ref _ k (hp.in_lt hin).2 hk)
 refine ⟨⟨h1,fun a ha hne=>h3 _ (h.rts a ha hne),fun a ha j hj=>?_,fun j hj=>?_,by omega⟩,h4 i hi,by omega⟩
 ·rw [h4 a (by omega)]; exact fun hne=>h3 _ (h.cl a ha j hj hne)
 ·rw [h4 i hi]
  intro hne
  rcases Nat.lt_succ_iff_lt_or_eq.1 hj with hj | rfl
  ·exact h3 _ (h.ck j hj hne)
  ·exact h2 hne
theorem P2.next {p:PH} {L:List Nat} {S:Nat→Bool} {i:Nat} (h:P2 p L S i 6) (hi:i < L.length):P2 p L S (i+1) 0:=by
 refine ⟨h.pi,h.rts,fun a ha j hj hne=>?_,fun j h=>by omega,by omega⟩
 rcases Nat.lt_succ_iff_lt_or_eq.1 ha with ha | rfl
 ·exact h.cl a ha j hj hne
 ·exact h.ck j hj hne
theorem P2.fin {p:PH} {L:List Nat} {S:Nat→Bool} {k:Nat} (h:P2 p L S L.length k):∀ a,a∈L↔p.in a:=by
 intro a
 refine ⟨h.pi.snd a,fun ha=>?_⟩
 refine Rch.least (P:=fun a=>a∈L) ?_ ?_ ha
 ·rintro x ⟨i,hi,rfl,hx⟩; exact h.rts i hi hx
 ·rintro x y hx ⟨j,hj,rfl,hy⟩
  obtain ⟨i,hi,rfl⟩:=List.getElem_of_mem hx
  have:=h.cl i hi j hj
  rw [List.getElem?_eq_getElem hi] at this
  exact this hy
theorem len_words {cs:Sch} {K:Nat→Int} (L:List Nat):L.length≤(L.map fun a=>wof cs (K a)).sum:=by
 induction L with
 | nil=>simp
 | cons x L ih =>
  rw [List.map_cons,List.sum_cons,List.length_cons]; have:1≤wof cs (K x):=by unfold wof; omega
  omega
theorem sub_len:∀ (l L:List Nat),l.Nodup→(∀ x∈l,x∈L)→l.length≤L.length:=by
 intro l
 induction l with
 | nil=>intro L _ _; simp
 | cons x l ih =>
  intro L hd hs
  rw [List.nodup_cons] at hd
  have hx:=hs x (by simp)
  have:=ih (L.erase x) hd.2 (fun y hy=>(List.mem_erase_of_ne (show y≠x from fun e=>hd.1 (by rw [← e]; exact hy))).2 (hs y (by simp [hy])))
  rw [List.length_erase_of_mem hx] at this
  have:0 < L.length:=List.length_pos_of_mem hx
  simp; omega
theorem free_ex {L:List Nat} {S:Nat→Bool} (hs:∀ x,x < 201→(S x=true↔x∈L)) (h:L.length < 200):∃ x,0 < x∧x < 201∧S x=false:=by
 refine Classical.byContradiction fun hno=>?_
 have:∀ x,x < 200→x+1∈L:=fun x hx=>by
  refine (hs (x+1) (by omega)).1 ?_
  cases he:S (x+1) with
  | true=>rfl
  | false=>exact absurd ⟨x+1,by omega,by omega,he⟩ hno
 have hr:∀ n,n≤200→∃ l:List Nat,l.Nodup∧l.length=n∧(∀ x∈l,x∈L∧x≤n):=by
  intro n
  induction n with
  | zero=>intro _; exact ⟨[],by simp,rfl,by simp⟩
  | succ n ih =>
   intro hn
   obtain ⟨l,h1,h2,h3⟩:=ih (by omega)
   refine ⟨(n+1) :: l,?_,by simp [h2],fun x hx=>?_⟩
   ·rw [List.nodup_cons]; exact ⟨fun hm=>by have:=(h3 _ hm).2; omega,h1⟩
   ·rcases List.mem_cons.1 hx with rfl | hx
    ·exact ⟨this n (by omega),Nat.le_refl _⟩
    ·exact ⟨(h3 x hx).1,by have:=(h3 x hx).2; omega⟩
 obtain ⟨l,h1,h2,h3⟩:=hr 200 (by omega)
 have:=sub_len l L h1 (fun x hx=>(h3 x hx).1)
 omega
end Go.Proofs.YtbgilndohccicaaGreatDoor
namespace Go.Proofs.YtbgilndohccicaaGreatDoor
open Go.RowKit
def wrK (k v:Int):Int:=if k=98 then v % 256 else if k=104 then (v+32768) % 65536 - 32768 else if k=119 then (v+2147483648) % 4294967296 - 2147483648 else v
theorem ret_i64 {a b:Int} (h:a=b):Ending.returned (.int .i64 a)=.returned (.int .i64 b):=by rw [h]
theorem wrap_i16 (v:Int):IntKind.i16.wrap v=(v+32768) % 65536 - 32768:=by
 simp [IntKind.wrap,IntKind.bits,IntKind.signed]; split <;> omega
theorem wrK_bd (k v:Int) (h1:-9223372036854775808≤v) (h2:v≤9223372036854775807):-9223372036854775808≤wrK k v∧wrK k v≤9223372036854775807:=by
 unfold wrK; split
 ·omega
 ·split
  ·omega
  ·split <;> omega
theorem gb_below_drewN (w:World) (n:Nat):Below w.heap.size w (w.drewN n):=⟨rfl,rfl,rfl,Nat.le_refl _,fun _ _=>rfl⟩
end Go.Proofs.YtbgilndohccicaaGreatDoor
namespace Go.Proofs.YtbgilndohccicaaGreatDoor
open Go.RowKit
structure GS (w w':World) (S:Nat→Prop):Prop where
 os:w'.os=w.os
 tape:w'.tape=w.tape
 output:w'.output=w.output
 size:w.heap.size≤w'.heap.size
 block:∀ k,k < w.heap.size→¬ S k→w'.heap[k]?=w.heap[k]?
theorem GS.of_gb {w w':World} {b:Nat} {S:Nat→Prop} (h:w.grownBy w' (some b)) (hb:S b):GS w w' S :=
 ⟨h.os,h.tape,h.output,h.size,fun k hk hn=>h.block k hk (fun e=>hn (by injection e with e; rw [e]; exact hb))⟩
theorem GS.of_below {w w':World} {S:Nat→Prop} (h:Below w.heap.size w w'):GS w w' S:=⟨h.os,h.tape,h.output,h.size,fun k hk _=>h.block k hk⟩
theorem GS.trans {a b c:World} {S:Nat→Prop} (h:GS a b S) (k:GS b c S):GS a c S :=
 ⟨k.os.trans h.os,k.tape.trans h.tape,k.output.trans h.output,Nat.le_trans h.size k.size,fun i hi hn=>(k.block i (Nat.lt_of_lt_of_le hi h.size) hn).trans (h.block i hi hn)⟩
theorem GS.mono {w w':World} {S T:Nat→Prop} (h:GS w w' S) (hs:∀ k,S k→T k):GS w w' T:=⟨h.os,h.tape,h.output,h.size,fun k hk hn=>h.block k hk (fun hS=>hn (hs k hS))⟩
theorem RX.has_G {x:RX} {cs:Sch} {n rb o:Nat} (h:o < n):x.has cs n rb (x.G o):=.inr (.inr (.inr ⟨o,h,rfl⟩))
theorem RX.has_rb {x:RX} {cs:Sch} {n rb:Nat}:x.has cs n rb rb:=.inl rfl
theorem tmod_twice (v:Int) (m:Nat) (hm:0 < m) (hb:m≤4294967296) (_h1:-9223372036854775808≤v) (_h2:v≤9223372036854775807):(wrap64 (v.tmod m+m)).tmod m=v % m:=by
 have hb0:(0:Int) < m:=by omega
 have l1:=Int.emod_nonneg v (b:=m) (by omega)
 have l2:=Int.emod_lt_of_pos v hb0
 have key:∃ z:Int,v.tmod m+m=v % m+m * z∧0≤z∧z≤1:=by
  by_cases h0:0≤v∨(m:Int) ∣ v
  ·exact ⟨1,by rw [Int.tmod_eq_emod,if_pos h0]; omega,by omega,by omega⟩
  ·exact ⟨0,by rw [Int.tmod_eq_emod,if_neg h0]; simp,by omega,by omega⟩
 obtain ⟨z,hz,z0,z1⟩:=key
 have hz':z=0∨z=1:=by omega
 have hw:wrap64 (v.tmod m+m)=v % m+m * z:=by
  rw [hz]; unfold wrap64
  rcases hz' with rfl | rfl <;> omega
 rw [hw,Int.tmod_eq_emod_of_nonneg (by rcases hz' with rfl | rfl <;> omega),Int.add_mul_emod_self_left,Int.emod_emod_of_dvd _ (Int.dvd_refl _)]
set_option maxHeartbeats 400000 in
theorem rwrap_any (k v:Int) (w:World) (h1:-9223372036854775808≤v) (h2:v≤9223372036854775807) :
  Calls Tryz.prog 77 #[.int .u8 k,.int .i64 v] w fun e w'=>e=.returned (.int .i64 (wrK k v))∧w'=w:=by
 by_cases k1:k=98
 ·have e:wrK k v=v % 256:=by unfold wrK; rw [if_pos k1]
  have ht:(wrap64 (v.tmod 256+256)).tmod 256=v % 256:=tmod_twice v 256 (by omega) (by omega) h1 h2
  rw [e]; subst k1; clear e
  go_enter Tryz.func77,Tryz.ntmps77
  go_wp2
  go_ret
  exact ⟨rfl,rfl⟩
 by_cases k2:k=104
 ·have e:wrK k v=(v+32768) % 65536 - 32768:=by unfold wrK; rw [if_neg k1,if_pos k2]
  have ht:(wrap64 (v.tmod 65536+65536)).tmod 65536=v % 65536:=tmod_twice v 65536 (by omega) (by omega) h1 h2
  have l1:=Int.emod_nonneg v (b:=65536) (by omega)
  have l2:=Int.emod_lt_of_pos v (b:=65536) (by omega)
  rw [e]; subst k2; clear e k1
  by_cases hc:32768≤v % 65536
  ·have he:v % 65536 - 65536=(v+32768) % 65536 - 32768:=by omega
   obtain ⟨y,hy⟩:∃ y,y=v % 65536:=⟨_,rfl⟩
   rw [← he]
   rw [← hy] at ht l1 l2 hc ⊢
   clear he hy
   go_enter Tryz.func77,Tryz.ntmps77
   go_wp2
   go_ret
   exact ⟨rfl,rfl⟩
  ·have he:v % 65536=(v+32768) % 65536 - 32768:=by omega
   obtain ⟨y,hy⟩:∃ y,y=v % 65536:=⟨_,rfl⟩
   rw [← he]
   rw [← hy] at ht l1 l2 hc ⊢
   clear he hy
   go_enter Tryz.func77,Tryz.ntmps77
   go_wp2
   go_ret
   exact ⟨rfl,rfl⟩
 by_cases k3:k=119
 ·have e:wrK k v=(v+2147483648) % 4294967296 - 2147483648:=by unfold wrK; rw [if_neg k1,if_neg k2,if_pos k3]
  have ht:(wrap64 (v.tmod 4294967296+4294967296)).tmod 4294967296=v % 4294967296:=tmod_twice v 4294967296 (by omega) (by omega) h1 h2
  have l1:=Int.emod_nonneg v (b:=4294967296) (by omega)
  have l2:=Int.emod_lt_of_pos v (b:=4294967296) (by omega)
  rw [e]; subst k3; clear e k1 k2
  by_cases hc:2147483648≤v % 4294967296
  ·have he:v % 4294967296 - 4294967296=(v+2147483648) % 4294967296 - 2147483648:=by omega
   obtain ⟨y,hy⟩:∃ y,y=v % 4294967296:=⟨_,rfl⟩
   rw [← he]
   rw [← hy] at ht l1 l2 hc ⊢
   clear he hy
   go_enter Tryz.func77,Tryz.ntmps77
   go_wp2
   go_ret
   exact ⟨rfl,rfl⟩
  ·have he:v % 4294967296=(v+2147483648) % 4294967296 - 2147483648:=by omega
   obtain ⟨y,hy⟩:∃ y,y=v % 4294967296:=⟨_,rfl⟩
   rw [← he]
   rw [← hy] at ht l1 l2 hc ⊢
   clear he hy
   go_enter Tryz.func77,Tryz.ntmps77
   go_wp2
   go_ret
   exact ⟨rfl,rfl⟩
 ·have e:wrK k v=v:=by unfold wrK; rw [if_neg k1,if_neg k2,if_neg k3]
  have q1:(k==98)=false:=by simpa using k1
  have q2:(k==104)=false:=by simpa using k2
  have q3:(k==119)=false:=by simpa using k3
  rw [e]; clear e
  go_enter Tryz.func77,Tryz.ntmps77
  go_wp2
  go_ret
  exact ⟨rfl,rfl⟩
end Go.Proofs.YtbgilndohccicaaGreatDoor
