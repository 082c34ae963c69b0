import Derived.Test.YtbgilndohccicaaGreatDoorBz20
import Derived.Test.YtbgilndohccicaaGreatDoorBz21
import Derived.Test.YtbgilndohccicaaGreatDoorBz22
namespace Go.Proofs.YtbgilndohccicaaGreatDoor
open Go.RowKit
def dS (s:ByteArray):Nat→Nat→Nat×Nat×Nat→Nat×(Nat×Nat×Nat)
 | 0,i,q=>(i,q)
 | n+1,i,q=>match stp 6 q (nextB s i) with
  | none=>(i,q)
  | some q'=>dS s n (i+1) q'
def ds (s:ByteArray) (i:Nat) (q:Nat×Nat×Nat):Nat×(Nat×Nat×Nat):=dS s (s.size - i) i q
theorem stp_byte {M:Nat} {q q':Nat×Nat×Nat} {x:Int} (h:stp M q x=some q'):(40≤x∧x≤43)∨x=45∨(48≤x∧x≤57)∨(97≤x∧x≤122):=by
 unfold stp at h
 split at h
 ·split at h
  ·omega
  ·split at h
   ·omega
   ·split at h
    ·omega
    ·split at h
     ·omega
     ·cases h
 ·split at h
  ·omega
  ·split at h
   ·omega
   ·split at h
    ·omega
    ·cases h
theorem ds_end {s:ByteArray} {i:Nat} {q:Nat×Nat×Nat} (h:¬ i < s.size):ds s i q=(i,q):=by
 have:s.size - i=0:=by omega
 simp [ds,this,dS]
theorem ds_stop {s:ByteArray} {i:Nat} {q:Nat×Nat×Nat} (h:stp 6 q (nextB s i)=none):ds s i q=(i,q):=by
 by_cases hi:i < s.size
 ·have:s.size - i=(s.size - (i+1))+1:=by omega
  simp [ds,this,dS,h]
 ·exact ds_end hi
theorem ds_step {s:ByteArray} {i:Nat} {q q':Nat×Nat×Nat} (h:stp 6 q (nextB s i)=some q'):ds s i q=ds s (i+1) q':=by
 have hi:i < s.size:=nextB_pos (by have:=stp_byte h; omega)
 have:s.size - i=(s.size - (i+1))+1:=by omega
 simp [ds,this,dS,h]
def ltN (s:ByteArray):Nat→Nat→List (Int×Int)
 | 0,_=>[]
 | n+1,i=>if isLw (nextB s i)=true then (nextB s i,(i:Int)) :: ltN s n (i+1) else ltN s n (i+1)
def ltr (s:ByteArray) (a b:Nat):List (Int×Int):=ltN s (b - a) a
theorem ltN_app (s:ByteArray):∀ n m i,ltN s (n+m) i=ltN s n i++ltN s m (i+n):=by
 intro n
 induction n with
 | zero=>intro m i; simp [ltN]
 | succ n ih =>
  intro m i
  rw [show n+1+m=(n+m)+1 by omega,ltN,ltN,ih m (i+1),show i+1+n=i+(n+1) by omega]
  split <;> rfl
theorem ltr_app (s:ByteArray) {a b c:Nat} (h1:a≤b) (h2:b≤c):ltr s a c=ltr s a b++ltr s b c:=by
 unfold ltr
 rw [show c - a=(b - a)+(c - b) by omega,ltN_app,show a+(b - a)=b by omega]
theorem ltr_self (s:ByteArray) (a:Nat):ltr s a a=[]:=by unfold ltr; rw [Nat.sub_self]; rfl
theorem ltr_no (s:ByteArray) (a:Nat) (h:isLw (nextB s a)=false):ltr s a (a+1)=[]:=by
 unfold ltr; rw [show a+1 - a=1 by omega,ltN,h]; rfl
theorem ltr_yes (s:ByteArray) (a:Nat) (h:isLw (nextB s a)=true):ltr s a (a+1)=[(nextB s a,(a:Int))]:=by
 unfold ltr; rw [show a+1 - a=1 by omega,ltN,if_pos h]; rfl
def tlw (ts:List GT):List (Int×Int):=(ts.filter (fun t=>isLw t.w)).map (fun t=>(t.w,t.p))
theorem tlw_app (a b:List GT):tlw (a++b)=tlw a++tlw b:=by simp [tlw]
theorem isLw_no {x:Int} (h:x < 97∨122 < x):isLw x=false:=by
 unfold isLw
 rcases h with h | h
 ·rw [decide_eq_false (show ¬ 97≤x by omega)]; rfl
 ·rw [decide_eq_false (show ¬ x≤122 by omega)]; simp
theorem isLw_yes {x:Int} (h:97≤x∧x≤122):isLw x=true:=by
 unfold isLw; rw [decide_eq_true h.1,decide_eq_true h.2]; rfl
def tok (s:ByteArray) (k:Nat):GT:=if 48≤nextB s k∧nextB s k≤57 then ⟨48,(gNum s 9 k 0).1,k⟩ else ⟨nextB s k,0,k⟩
def tokE (s:ByteArray) (k:Nat):Nat:=if 48≤nextB s k∧nextB s k≤57 then (gNum s 9 k 0).2 else k+1
theorem tok_p (s:ByteArray) (k:Nat):(tok s k).p=k:=by unfold tok; split <;> rfl
structure SumP (s:ByteArray) (d:Nat) (E:Nat→Prop) (k:Nat) (ts:List GT) (r:SumR):Prop where
 ge:k≤r.at_
 yes:r.ok=true→∃ m kk,m≠0∧stp 6 (m,d,kk) (nextB s r.at_)=stp 6 (1,d,0) (nextB s r.at_)∧ds s k (0,d,0)=ds s r.at_ (m,d,kk)
 no:r.ok=false→∃ q,ds s k (0,d,0)=(r.at_,q)∧(q.1=0∨0 < q.2.1)
 let_:r.ok=true→tlw r.ts=tlw ts++ltr s k r.at_
 fst:r.ok=true→∃ t more,r.ts=ts++t :: more∧(nextB s k=40→(k:Int) < t.p)∧(nextB s k≠40→t=tok s k∧(more=[]→r.at_=tokE s k))
 stop:r.ok=true→E r.at_
def SumD (s:ByteArray) (d:Nat) (E:Nat→Prop) (f:Nat→List GT→SumR):Prop:=∀ k ts,SumP s d E k ts (f k ts)
theorem SumP.fail {s:ByteArray} {d:Nat} {E:Nat→Prop} {k e:Nat} {ts us:List GT} {q:Nat×Nat×Nat} (hk:k≤e) (h:ds s k (0,d,0)=(e,q)) (hq:q.1=0∨0 < q.2.1):SumP s d E k ts ⟨false,e,us⟩ :=
 ⟨hk,(fun h=>by cases h),fun _=>⟨q,h,hq⟩,(fun h=>by cases h),(fun h=>by cases h),(fun h=>by cases h)⟩
theorem SumP.mono {s:ByteArray} {d:Nat} {E E':Nat→Prop} {k:Nat} {ts:List GT} {r:SumR} (h:SumP s d E k ts r) (hE:∀ e,E e→E' e):SumP s d E' k ts r :=
 ⟨h.ge,h.yes,h.no,h.let_,h.fst,fun x=>hE _ (h.stop x)⟩
theorem stp_one {m d kk:Nat} {c:Int} (hm:m≠0) (h:¬ (m=2∧48≤c∧c≤57∧kk < 9)):stp 6 (m,d,kk) c=stp 6 (1,d,0) c:=by
 unfold stp
 simp only []
 rw [if_neg hm,if_neg h,if_neg (show ¬ (1:Nat)=0 by decide),if_neg (show ¬ ((1:Nat)=2∧48≤c∧c≤57∧0 < 9) from fun h=>absurd h.1 (by decide))]
theorem stp_none1 {d:Nat} {c:Int} (h:¬ isSg c) (h41:c=41→d=0):stp 6 (1,d,0) c=none:=by
 unfold isSg at h
 unfold stp
 simp only []
 rw [if_neg (show ¬ (1:Nat)=0 by decide),if_neg (show ¬ ((1:Nat)=2∧48≤c∧c≤57∧0 < 9) from fun h=>absurd h.1 (by decide)),if_neg h,if_neg (fun h=>by have:=h41 h.1; omega)]
theorem gnum_ds (s:ByteArray) (d:Nat):∀ n k v kk,0 < v→n+kk=9→1≤kk →
  (∃ k2,ds s k (2,d,kk)=ds s (gNum s n k v).2 (2,d,k2)∧stp 6 (2,d,k2) (nextB s (gNum s n k v).2)=stp 6 (1,d,0) (nextB s (gNum s n k v).2))∧ltr s k (gNum s n k v).2=[]:=by
 intro n
 induction n with
 | zero =>
  intro k v kk hv hn _
  rw [gNum]
  refine ⟨⟨kk,rfl,?_⟩,ltr_self _ _⟩
  obtain rfl:kk=9:=by omega
  exact stp_one (by decide) (fun h=>by omega)
 | succ n ih =>
  intro k v kk hv hn h1
  rw [gNum]
  by_cases hd:48≤nextB s k∧nextB s k≤57
  ·rw [if_pos hd,if_neg (by omega)]
   have hs:stp 6 (2,d,kk) (nextB s k)=some (2,d,kk+1):=by
    unfold stp; rw [if_neg (by simp),if_pos ⟨rfl,hd.1,hd.2,by simp; omega⟩]
   obtain ⟨⟨k2,e1,e2⟩,e3⟩:=ih (k+1) (v * 10+(nextB s k - 48)) (kk+1) (by omega) (by omega) (by omega)
   refine ⟨⟨k2,by rw [ds_step hs]; exact e1,e2⟩,?_⟩
   have hg:=gNum_grow s n (k+1) (v * 10+(nextB s k - 48))
   rw [ltr_app s (b:=k+1) (by omega) hg,ltr_no s k (isLw_no (by omega)),e3]; rfl
  ·rw [if_neg hd]
   refine ⟨⟨kk,rfl,?_⟩,ltr_self _ _⟩
   exact stp_one (by decide) (fun h=>hd ⟨h.2.1,h.2.2.1⟩)
theorem num_ds (s:ByteArray) (d k:Nat) (h:48≤nextB s k∧nextB s k≤57) :
  (∃ m k2,m≠0∧stp 6 (m,d,k2) (nextB s (gNum s 9 k 0).2)=stp 6 (1,d,0) (nextB s (gNum s 9 k 0).2)∧ds s k (0,d,0)=ds s (gNum s 9 k 0).2 (m,d,k2))∧ltr s k (gNum s 9 k 0).2=[]:=by
 rw [gNum,if_pos h]
 by_cases h0:nextB s k=48
 ·rw [if_pos (by omega)]
  have hs:stp 6 (0,d,0) (nextB s k)=some (1,d,0):=by unfold stp; rw [if_pos rfl,if_pos h0]
  exact ⟨⟨1,0,by decide,rfl,ds_step hs⟩,ltr_no s k (isLw_no (by omega))⟩
 ·rw [if_neg (by omega)]
  have hs:stp 6 (0,d,0) (nextB s k)=some (2,d,1):=by unfold stp; rw [if_pos rfl,if_neg h0,if_pos ⟨by omega,h.2⟩]
  obtain ⟨⟨k2,e1,e2⟩,e3⟩:=gnum_ds s d 8 (k+1) (0 * 10+(nextB s k - 48)) 1 (by omega) rfl (by omega)
  refine ⟨⟨2,k2,by decide,e2,by rw [ds_step hs]; exact e1⟩,?_⟩
  have hg:=gNum_grow s 8 (k+1) (0 * 10+(nextB s k - 48))
  rw [ltr_app s (b:=k+1) (by omega) hg,ltr_no s k (isLw_no (by omega)),e3]; rfl
def NoSg (s:ByteArray) (e:Nat):Prop:=¬ isSg (nextB s e)
theorem fac_sumd (s:ByteArray) (d:Nat) (sm:Option (Nat→List GT→SumR)) (hn:sm=none→¬ d < 6) (hf:∀ f,sm=some f→d < 6∧SumD s (d+1) (NoSg s) f):SumD s d (fun _=>True) (facR s sm):=by
 intro k ts
 unfold facR
 by_cases h1:48≤nextB s k∧nextB s k≤57
 ·rw [if_pos h1]
  obtain ⟨⟨m,k2,e1,e2,e3⟩,e4⟩:=num_ds s d k h1
  have hg:=gNum_first s k h1
  refine ⟨by show k≤(gNum s 9 k 0).2; omega,fun _=>⟨m,k2,e1,e2,e3⟩,(fun h=>by cases h),fun _=>?_,fun _=>⟨_,[],rfl,fun h=>by omega,fun _=>⟨by unfold tok; rw [if_pos h1],fun _=>by unfold tokE; rw [if_pos h1]⟩⟩,fun _=>trivial⟩
  simp only []
  rw [tlw_app,e4]
  rfl
 rw [if_neg h1]
 by_cases h2:97≤nextB s k∧nextB s k≤122
 ·rw [if_pos h2]
  have hs:stp 6 (0,d,0) (nextB s k)=some (1,d,0):=by unfold stp; rw [if_pos rfl,if_neg (by omega),if_neg (by omega),if_pos h2]
  refine ⟨Nat.le_succ _,fun _=>⟨1,0,by decide,rfl,ds_step hs⟩,(fun h=>by cases h),fun _=>?_,fun _=>⟨_,[],rfl,fun h=>by omega,fun _=>⟨by unfold tok; rw [if_neg h1],fun _=>by unfold tokE; rw [if_neg h1]⟩⟩,fun _=>trivial⟩
  simp only []
  rw [tlw_app,ltr_yes s k (isLw_yes h2)]
  simp [tlw,isLw_yes h2]
 rw [if_neg h2]
 by_cases h3:nextB s k≠40
 ·rw [if_pos h3]
  refine SumP.fail (Nat.le_refl _) (ds_stop ?_) (.inl rfl)
  unfold stp; rw [if_pos rfl,if_neg (by omega),if_neg (by omega),if_neg h2,if_neg (fun h=>h3 h.1)]
 rw [if_neg h3]
 have h40:nextB s k=40:=by omega
 cases sm with
 | none =>
  have hd:=hn rfl
  refine SumP.fail (Nat.le_refl _) (ds_stop ?_) (.inl rfl)
  unfold stp; rw [if_pos rfl,if_neg (by omega),if_neg (by omega),if_neg h2,if_neg (fun h=>hd h.2)]
 | some f =>
  obtain ⟨hd,F⟩:=hf f rfl
  have F':=F (k+1) ts
  have hs:stp 6 (0,d,0) (nextB s k)=some (0,d+1,0):=by
   unfold stp; rw [if_pos rfl,if_neg (by omega),if_neg (by omega),if_neg h2,if_pos ⟨h40,hd⟩]
  simp only []
  generalize f (k+1) ts=r at F' ⊢
  have hge:=F'.ge
  by_cases h4:r.ok=true∧nextB s r.at_=41
  ·rw [if_pos h4]
   obtain ⟨m,kk,hm,hset,e⟩:=F'.yes h4.1
   have hs2:stp 6 (m,d+1,kk) (nextB s r.at_)=some (1,d,0):=by
    rw [hset,h4.2]; unfold stp; rw [if_neg (by simp),if_neg (by simp),if_neg (by decide),if_pos ⟨rfl,by simp⟩]; rfl
   refine ⟨by show k≤r.at_+1; omega,fun _=>⟨1,0,by decide,rfl,by rw [ds_step hs,e,ds_step hs2]⟩,(fun h=>by cases h),fun _=>?_,fun _=>?_,fun _=>trivial⟩
   ·simp only []
    rw [F'.let_ h4.1,ltr_app s (a:=k) (b:=k+1) (c:=r.at_+1) (by omega) (by omega),ltr_app s (a:=k+1) (b:=r.at_) (c:=r.at_+1) (by omega) (by omega),ltr_no s k (isLw_no (by omega)),ltr_no s r.at_ (isLw_no (by omega))]
    simp
   ·obtain ⟨t,more,e1,e2,e3⟩:=F'.fst h4.1
    refine ⟨t,more,e1,fun _=>?_,fun h=>absurd h40 h⟩
    by_cases h5:nextB s (k+1)=40
    ·have:=e2 h5; omega
    ·rw [(e3 h5).1,tok_p]; omega
  ·rw [if_neg h4]
   cases hok:r.ok with
   | true =>
    obtain ⟨m,kk,hm,hset,e⟩:=F'.yes hok
    have hst:=F'.stop hok
    have h41:nextB s r.at_≠41:=fun h=>h4 ⟨hok,h⟩
    refine SumP.fail (by omega) (q:=(m,d+1,kk)) ?_ (.inr (Nat.succ_pos _))
    rw [ds_step hs,e]
    refine ds_stop ?_
    rw [hset]
    exact stp_none1 hst (fun h=>absurd h h41)
   | false =>
    obtain ⟨q,e,hq⟩:=F'.no hok
    exact SumP.fail (by omega) (by rw [ds_step hs,e]) hq
theorem op_sumd (s:ByteArray) (d:Nat) (E:Nat→Prop) (p:Int→Bool) (f:Nat→List GT→SumR) (hp:∀ c,p c=true→isSg c) (hf:SumD s d E f) :
  ∀ n k ts r,s.size+1≤r.at_+n→SumP s d E k ts r→SumP s d (fun e=>E e∧p (nextB s e)=false) k ts (opLoop s p f n r):=by
 intro n
 induction n with
 | zero =>
  intro k ts r hr H
  refine ⟨H.ge,H.yes,H.no,H.let_,H.fst,fun hok=>⟨H.stop hok,?_⟩⟩
  cases hc:p (nextB s r.at_) with
  | false=>exact hc
  | true =>
   have:=hp _ hc
   rw [nextB_out (by omega)] at this
   unfold isSg at this; omega
 | succ n ih =>
  intro k ts r hr H
  by_cases h:r.ok=true∧p (nextB s r.at_)=true
  ·rw [opLoop_step _ _ _ _ h]
   obtain ⟨m,kk,hm,hset,e⟩:=H.yes h.1
   have hsg:=hp _ h.2
   have hs:stp 6 (m,d,kk) (nextB s r.at_)=some (0,d,0):=by rw [hset,stp_sg hsg]; rfl
   have hnl:isLw (nextB s r.at_)=false:=isLw_no (by unfold isSg at hsg; omega)
   have F:=hf (r.at_+1) r.ts
   have hge:=H.ge
   have hge2:=F.ge
   refine ih k ts _ (by simp only [opStep]; omega) ?_
   unfold opStep
   generalize f (r.at_+1) r.ts=x at F hge2 ⊢
   refine ⟨by show k≤x.at_; omega,fun hok=>?_,fun hok=>?_,fun hok=>?_,fun hok=>?_,fun hok=>F.stop hok⟩
   ·obtain ⟨m',kk',h1,h2,h3⟩:=F.yes hok
    exact ⟨m',kk',h1,h2,by rw [e,ds_step hs,h3]⟩
   ·obtain ⟨q,h1,h2⟩:=F.no hok
    exact ⟨q,by rw [e,ds_step hs,h1],h2⟩
   ·simp only []
    rw [tlw_app,F.let_ hok,H.let_ h.1,ltr_app s (a:=k) (b:=r.at_) (c:=x.at_) (by omega) (by omega),ltr_app s (a:=r.at_) (b:=r.at_+1) (by omega) (by omega),ltr_no s r.at_ hnl]
    simp [tlw,hnl]
   ·obtain ⟨t,more,e1,e2,e3⟩:=H.fst h.1
    obtain ⟨t2,more2,f1,_,_⟩:=F.fst hok
    exact ⟨t,more++t2 :: (more2++[⟨nextB s r.at_,0,r.at_⟩]),by simp [f1,e1],e2,fun hh=>⟨(e3 hh).1,fun hc=>by simp at hc⟩⟩
  ·rw [opLoop_stop _ _ _ _ h]
   refine ⟨H.ge,H.yes,H.no,H.let_,H.fst,fun hok=>⟨H.stop hok,?_⟩⟩
   cases hc:p (nextB s r.at_) with
   | false=>rfl
   | true=>exact absurd ⟨hok,hc⟩ h
theorem sum0_sumd (s:ByteArray) (d:Nat) (sm:Option (Nat→List GT→SumR)) (hn:sm=none→¬ d < 6) (hf:∀ f,sm=some f→d < 6∧SumD s (d+1) (NoSg s) f):SumD s d (NoSg s) (sumR0 s sm):=by
 have h1:=fac_sumd s d sm hn hf
 have h2:SumD s d (fun e=>True∧isMul (nextB s e)=false) (prodR s sm):=fun k ts =>
  op_sumd s d _ isMul _ (fun c h=>by simp [isMul] at h; exact .inr (.inr h)) h1 (s.size+1) k ts _ (by omega) (h1 k ts)
 intro k ts
 refine (op_sumd s d _ isAdd _ (fun c h=>by simp [isAdd] at h; rcases h with h | h; exact .inl h; exact .inr (.inl h)) h2 (s.size+1) k ts _ (by omega) (h2 k ts)).mono ?_
 rintro e ⟨⟨_,a⟩,b⟩ hc
 simp [isMul] at a
 simp [isAdd] at b
 rcases hc with h | h | h
 ·exact b.1 h
 ·exact b.2 h
 ·exact a h
theorem sumRL_sumd (s:ByteArray):∀ n,n≤6→SumD s (6 - n) (NoSg s) (sumRL s n):=by
 intro n
 induction n with
 | zero=>intro _; exact sum0_sumd s 6 none (fun _=>by omega) (fun f h=>by cases h)
 | succ n ih =>
  intro hn
  exact sum0_sumd s _ (some (sumRL s n)) (fun h=>by cases h) (fun f h=>by cases h; exact ⟨by omega,by rw [show 6 - (n+1)+1=6 - n by omega]; exact ih (by omega)⟩)
theorem sum_yes {s:ByteArray} {k:Nat} (h:(sumRL s 6 k []).ok=true):∃ m kk,m≠0∧ds s k (0,0,0)=((sumRL s 6 k []).at_,(m,0,kk)):=by
 have F:=sumRL_sumd s 6 (Nat.le_refl _) k []
 obtain ⟨m,kk,hm,hset,e⟩:=F.yes h
 have hst:=F.stop h
 refine ⟨m,kk,hm,?_⟩
 rw [show ((0,0,0):Nat×Nat×Nat)=(0,6 - 6,0) from rfl,e]
 refine ds_stop ?_
 rw [hset]
 exact stp_none1 hst (fun _=>rfl)
theorem sum_no {s:ByteArray} {k:Nat} (h:(sumRL s 6 k []).ok=false):∃ q,ds s k (0,0,0)=((sumRL s 6 k []).at_,q)∧(q.1=0∨0 < q.2.1):=(sumRL_sumd s 6 (Nat.le_refl _) k []).no h
theorem sum_ge (s:ByteArray) (k:Nat):k≤(sumRL s 6 k []).at_:=(sumRL_sumd s 6 (Nat.le_refl _) k []).ge
theorem sum_let {s:ByteArray} {k:Nat} (h:(sumRL s 6 k []).ok=true):tlw (sumRL s 6 k []).ts=ltr s k (sumRL s 6 k []).at_:=by
 have:=(sumRL_sumd s 6 (Nat.le_refl _) k []).let_ h
 rw [this]; rfl
theorem sum_fst {s:ByteArray} {k:Nat} (h:(sumRL s 6 k []).ok=true):∃ t more,(sumRL s 6 k []).ts=t :: more∧(nextB s k=40→(k:Int) < t.p)∧(nextB s k≠40→t=tok s k∧(more=[]→(sumRL s 6 k []).at_=tokE s k)):=by
 obtain ⟨t,more,e1,e2,e3⟩:=(sumRL_sumd s 6 (Nat.le_refl _) k []).fst h
 exact ⟨t,more,e1,e2,e3⟩
theorem bl_cons {s:ByteArray} {i e:Nat} (h:i < e) (he:e≤s.size):bl (s.extract i e)=nextB s i :: bl (s.extract (i+1) e):=by
 rw [bl_extract,bl_extract,bl_drop (by omega),show e - i=(e - (i+1))+1 by omega,List.take_succ_cons]
theorem bl_nil (s:ByteArray) (i:Nat):bl (s.extract i i)=[]:=by rw [bl_extract,Nat.sub_self]; rfl
theorem rn_ds (s:ByteArray):∀ n i e q q',i+n=e→e≤s.size→rn 6 q (bl (s.extract i e))=some q'→ds s i q=ds s e q':=by
 intro n
 induction n with
 | zero =>
  intro i e q q' hn he h
  obtain rfl:i=e:=by omega
  rw [bl_nil,rn] at h
  injection h with h; rw [h]
 | succ n ih =>
  intro i e q q' hn he h
  rw [bl_cons (by omega) he,rn] at h
  cases hq:stp 6 q (nextB s i) with
  | none=>rw [hq] at h; cases h
  | some q1 =>
   rw [hq] at h
   rw [ds_step hq]
   exact ih (i+1) e q1 q' (by omega) he h
theorem ds_rn (s:ByteArray):∀ n i q,i+n=s.size→i≤(ds s i q).1∧(ds s i q).1≤s.size∧rn 6 q (bl (s.extract i (ds s i q).1))=some (ds s i q).2:=by
 intro n
 induction n with
 | zero =>
  intro i q hn
  rw [ds_end (by omega)]
  exact ⟨Nat.le_refl _,by show i≤_; omega,by rw [bl_nil]; rfl⟩
 | succ n ih =>
  intro i q hn
  cases hq:stp 6 q (nextB s i) with
  | none=>rw [ds_stop hq]; exact ⟨Nat.le_refl _,by show i≤_; omega,by rw [bl_nil]; rfl⟩
  | some q1 =>
   rw [ds_step hq]
   obtain ⟨h1,h2,h3⟩:=ih (i+1) q1 (by omega)
   refine ⟨by omega,h2,?_⟩
   rw [bl_cons (by omega) h2,rn,hq]
   exact h3
end Go.Proofs.YtbgilndohccicaaGreatDoor
namespace Go.Proofs.YtbgilndohccicaaGreatDoor
open Go.RowKit
def decV (l:List Int):Int:=l.foldl (fun n c=>10 * n+(c - 48)) 0
inductive FcN (num:Int→Int) (S:List Int→Int→Prop):List Int→Int→Prop
 | nm {l:List Int} (h:∀ x∈l,48≤x∧x≤57) (h1:0 < l.length) (h9:l.length≤9):FcN num S l (decV l)
 | lt {c:Int} (h1:97≤c) (h2:c≤122):FcN num S [c] (num c)
 | par {s:List Int} {n:Int} (h:S s n):FcN num S (40 :: (s++[41])) n
inductive PrN (F:List Int→Int→Prop):List Int→Int→Prop
 | one {s:List Int} {n:Int} (h:F s n):PrN F s n
 | more {s t:List Int} {n m:Int} (h:PrN F s n) (g:F t m):PrN F (s++42 :: t) (joinI n 42 m)
inductive SmN (P:List Int→Int→Prop):List Int→Int→Prop
 | one {s:List Int} {n:Int} (h:P s n):SmN P s n
 | more {s t:List Int} {n m c:Int} (hc:c=43∨c=45) (h:SmN P s n) (g:P t m):SmN P (s++c :: t) (joinI n c m)
def SuN (num:Int→Int):Nat→(List Int→Int→Prop)
 | 0=>fun _ _=>False
 | d+1=>SmN (PrN (FcN num (SuN num d)))
theorem bl_app {s:ByteArray} {a b c:Nat} (h1:a≤b) (h2:b≤c) (_h3:c≤s.size):bl (s.extract a c)=bl (s.extract a b)++bl (s.extract b c):=by
 rw [bl_extract,bl_extract,bl_extract]
 have e:c - a=(b - a)+(c - b):=by omega
 rw [e,List.take_add,List.drop_drop]
 congr 3
 omega
theorem bl_one {s:ByteArray} {a:Nat} (h:a < s.size):bl (s.extract a (a+1))=[nextB s a]:=by rw [bl_cons (Nat.lt_succ_self _) h,bl_nil]
def dgs (l:List Int):Prop:=∀ x∈l,48≤x∧x≤57
theorem gNum_text (s:ByteArray):∀ n k v,0 < v→k≤s.size→∃ l,dgs l∧l.length≤n∧(gNum s n k v).2=k+l.length∧k+l.length≤s.size∧bl (s.extract k (k+l.length))=l∧(gNum s n k v).1=l.foldl (fun n c=>10 * n+(c - 48)) v:=by
 intro n
 induction n with
 | zero=>intro k v _ hk; exact ⟨[],fun x hx=>by simp at hx,Nat.le_refl _,rfl,hk,by rw [List.length_nil,Nat.add_zero]; exact bl_nil s k,rfl⟩
 | succ n ih =>
  intro k v hv hk
  rw [gNum]
  by_cases h:48≤nextB s k∧nextB s k≤57
  ·have hks:k < s.size:=nextB_pos (by omega)
   rw [if_pos h,if_neg (by omega)]
   obtain ⟨l,l1,l2,l3,l4,l5,l6⟩:=ih (k+1) (v * 10+(nextB s k - 48)) (by omega) hks
   refine ⟨nextB s k :: l,?_,by simp; omega,by rw [l3]; simp; omega,by simp; omega,?_,?_⟩
   ·intro x hx
    rcases List.mem_cons.1 hx with rfl | hx
    ·exact h
    ·exact l1 x hx
   ·rw [List.length_cons,bl_cons (by omega) (by omega),show k+(l.length+1)=k+1+l.length by omega,l5]
   ·rw [l6,List.foldl_cons,Int.mul_comm]
  ·rw [if_neg h]
   exact ⟨[],fun x hx=>by simp at hx,by simp,rfl,hk,by rw [List.length_nil,Nat.add_zero]; exact bl_nil s k,rfl⟩
theorem gNum_all' (s:ByteArray) (k:Nat) (h:48≤nextB s k∧nextB s k≤57):∃ l,dgs l∧0 < l.length∧l.length≤9∧(gNum s 9 k 0).2=k+l.length∧k+l.length≤s.size∧bl (s.extract k (k+l.length))=l∧(gNum s 9 k 0).1=decV l:=by
 have hks:k < s.size:=nextB_pos (by omega)
 rw [gNum,if_pos h]
 by_cases h0:(0:Int) * 10+(nextB s k - 48)=0
 ·rw [if_pos h0]
  refine ⟨[nextB s k],?_,by simp,by simp,rfl,hks,bl_one hks,?_⟩
  ·intro x hx; simp at hx; subst hx; exact h
  ·show 0=10 * 0+(nextB s k - 48); omega
 ·rw [if_neg h0]
  obtain ⟨l,l1,l2,l3,l4,l5,l6⟩:=gNum_text s 8 (k+1) ((0:Int) * 10+(nextB s k - 48)) (by omega) hks
  refine ⟨nextB s k :: l,?_,by simp,by simp; omega,by rw [l3]; simp; omega,by simp; omega,?_,?_⟩
  ·intro x hx
   rcases List.mem_cons.1 hx with rfl | hx
   ·exact h
   ·exact l1 x hx
  ·rw [List.length_cons,bl_cons (by omega) (by omega),show k+(l.length+1)=k+1+l.length by omega,l5]
  ·rw [l6]; rfl
def GoodA (s:ByteArray) (num:Int→Int) (k:Nat) (ts:List GT) (D:List Int→Int→Prop) (r:SumR):Prop :=
 r.ok=true→∃ ps n,r.ts=ts++ps∧(∀ l,ev num ps l=l++[n])∧D (bl (s.extract k r.at_)) n∧k < r.at_∧r.at_≤s.size
def GoodR (s:ByteArray) (num:Int→Int) (D:List Int→Int→Prop) (f:Nat→List GT→SumR):Prop:=∀ k ts,GoodA s num k ts D (f k ts)
theorem fac_good (s:ByteArray) (num:Int→Int) (S:List Int→Int→Prop) (sm:Option (Nat→List GT→SumR)) (hf:∀ f,sm=some f→GoodR s num S f):GoodR s num (FcN num S) (facR s sm):=by
 intro k ts hok
 unfold facR at hok ⊢
 by_cases h1:48≤nextB s k∧nextB s k≤57
 ·rw [if_pos h1]
  obtain ⟨l,l1,l2,l3,l4,l5,l6,l7⟩:=gNum_all' s k h1
  refine ⟨[⟨48,(gNum s 9 k 0).1,k⟩],decV l,rfl,fun q=>?_,?_,?_,?_⟩
  ·show q++[(gNum s 9 k 0).1]=_; rw [l7]
  ·show FcN num S (bl (s.extract k (gNum s 9 k 0).2)) _
   rw [l4,l6]; exact FcN.nm l1 l2 l3
  ·show k < (gNum s 9 k 0).2; omega
  ·show (gNum s 9 k 0).2≤_; omega
 ·rw [if_neg h1] at hok ⊢
  by_cases h2:97≤nextB s k∧nextB s k≤122
  ·rw [if_pos h2]
   have hks:k < s.size:=nextB_pos (by omega)
   refine ⟨[⟨nextB s k,0,k⟩],num (nextB s k),rfl,fun q=>?_,?_,Nat.lt_succ_self _,hks⟩
   ·show ev1 num ⟨nextB s k,0,k⟩ q=_
    unfold ev1
    have e1:isOpB (nextB s k)=false:=by
     unfold isOpB
     have a1:(nextB s k==43)=false:=by simp; omega
     have a2:(nextB s k==45)=false:=by simp; omega
     have a3:(nextB s k==42)=false:=by simp; omega
     rw [a1,a2,a3]; rfl
    simp only []
    rw [e1,if_neg (by decide),if_neg (by omega)]
   ·show FcN num S (bl (s.extract k (k+1))) _
    rw [bl_one hks]; exact FcN.lt h2.1 h2.2
  ·rw [if_neg h2] at hok ⊢
   by_cases h3:nextB s k≠40
   ·rw [if_pos h3] at hok; cases hok
   ·rw [if_neg h3] at hok ⊢
    have h40:nextB s k=40:=Classical.not_not.1 h3
    have hks:k < s.size:=nextB_pos (by omega)
    cases sm with
    | none=>cases hok
    | some f =>
     simp only [] at hok ⊢
     by_cases h4:(f (k+1) ts).ok=true∧nextB s (f (k+1) ts).at_=41
     ·rw [if_pos h4]
      obtain ⟨ps,n,p1,p2,p3,p4,p5⟩:=hf f rfl (k+1) ts h4.1
      have hes:(f (k+1) ts).at_ < s.size:=nextB_pos (by omega)
      refine ⟨ps,n,p1,p2,?_,?_,?_⟩
      ·show FcN num S (bl (s.extract k ((f (k+1) ts).at_+1))) n
       rw [bl_cons (by omega) hes,bl_app (b:=(f (k+1) ts).at_) (by omega) (Nat.le_succ _) hes,bl_one hes,h4.2,h40]
       exact FcN.par p3
      ·show k < (f (k+1) ts).at_+1; omega
      ·exact hes
     ·rw [if_neg h4] at hok; cases hok
theorem op_good {s:ByteArray} {num:Int→Int} {F D:List Int→Int→Prop} {p:Int→Bool} {f:Nat→List GT→SumR} (hf:GoodR s num F f) (hp:∀ c,p c=true→isOpB c=true∧0 < c) (hD:∀ c u t n m,p c=true→D u n→F t m→D (u++c :: t) (joinI n c m)) (k:Nat) (ts:List GT) :
  ∀ n r,GoodA s num k ts D r→GoodA s num k ts D (opLoop s p f n r):=by
 intro n
 induction n with
 | zero=>intro r h; exact h
 | succ n ih =>
  intro r h
  rw [opLoop]
  by_cases hc:r.ok=true∧p (nextB s r.at_)=true
  ·rw [if_pos hc]
   refine ih _ ?_
   intro hok
   obtain ⟨ps,m,p1,p2,p3,p4,p5⟩:=h hc.1
   obtain ⟨qs,m',q1,q2,q3,q4,q5⟩:=hf (r.at_+1) r.ts hok
   obtain ⟨o1,o2⟩:=hp _ hc.2
   have hrs:r.at_ < s.size:=nextB_pos o2
   refine ⟨ps++qs++[⟨nextB s r.at_,0,r.at_⟩],joinI m (nextB s r.at_) m',?_,fun l=>?_,?_,?_,q5⟩
   ·show (f (r.at_+1) r.ts).ts++_=_; rw [q1,p1]; simp
   ·rw [ev_app,ev_app,p2,q2,ev_sign num _ _ o1]
   ·show D (bl (s.extract k (f (r.at_+1) r.ts).at_)) _
    rw [bl_app (b:=r.at_) (by omega) (by omega) q5,bl_cons (by omega) q5]
    exact hD _ _ _ _ _ hc.2 p3 q3
   ·show k < (f (r.at_+1) r.ts).at_; omega
  ·rw [if_neg hc]; exact h
theorem sumRL_good (s:ByteArray) (num:Int→Int):∀ n,GoodR s num (SuN num (n+1)) (sumRL s n):=by
 have step:∀ (S:List Int→Int→Prop) (sm:Option (Nat→List GT→SumR)),(∀ f,sm=some f→GoodR s num S f)→GoodR s num (SmN (PrN (FcN num S))) (sumR0 s sm):=by
  intro S sm hf k ts
  have h1:=fac_good s num S sm hf
  have h2:GoodR s num (PrN (FcN num S)) (prodR s sm):=by
   intro k ts
   unfold prodR
   refine op_good h1 (fun c hc=>?_) (fun c u t n m hc hu ht=>?_) k ts _ _ (fun hok=>?_)
   ·have:c=42:=by simpa [isMul] using hc
    subst this; exact ⟨rfl,by omega⟩
   ·have:c=42:=by simpa [isMul] using hc
    subst this; exact PrN.more hu ht
   ·obtain ⟨ps,n,p1,p2,p3,p4⟩:=h1 k ts hok
    exact ⟨ps,n,p1,p2,PrN.one p3,p4⟩
  unfold sumR0
  refine op_good h2 (fun c hc=>?_) (fun c u t n m hc hu ht=>?_) k ts _ _ (fun hok=>?_)
  ·have:c=43∨c=45:=by simpa [isAdd] using hc
   rcases this with rfl | rfl <;> exact ⟨rfl,by omega⟩
  ·have:c=43∨c=45:=by simpa [isAdd] using hc
   exact SmN.more this hu ht
  ·obtain ⟨ps,n,p1,p2,p3,p4⟩:=h2 k ts hok
   exact ⟨ps,n,p1,p2,SmN.one p3,p4⟩
 intro n
 induction n with
 | zero=>exact step _ none (fun f h=>by cases h)
 | succ n ih=>exact step _ (some (sumRL s n)) (fun f h=>by cases h; exact ih)
end Go.Proofs.YtbgilndohccicaaGreatDoor
namespace Go.Proofs.YtbgilndohccicaaGreatDoor
open Go.RowKit
def Pfx (l:List Int):Prop:=∀ u v,l=u++v→0≤dep u
theorem lsc_no {a b:Int} (ha:a≠40∧a≠41) (hb:b≠40∧b≠41) {l:List Int} (h:NoTop a b l):lsc a b l 0 0 (-1) < 0:=by
 by_cases h0:lsc a b l 0 0 (-1) < 0
 ·exact h0
 ·obtain ⟨u,c,v,e,hc,hd,_⟩:=last_some ha hb (Int.not_lt.1 h0)
  exact absurd hd (h u c v e hc)
theorem lsc_cut {a b c:Int} (ha:a≠40∧a≠41) (hb:b≠40∧b≠41) {u v:List Int} (hd:dep u=0) (hv:NoTop a b v) (hc:c=a∨c=b):lsc a b (u++c :: v) 0 0 (-1)=u.length:=by
 have hcb:∀ x,x=a∨x=b→x≠40∧x≠41:=by rintro x (rfl | rfl); exact ha; exact hb
 by_cases h0:lsc a b (u++c :: v) 0 0 (-1) < 0
 ·exact absurd hd (last_none ha hb h0 u c v rfl hc)
 ·obtain ⟨u',c',v',e,hc',hd',hv',hl⟩:=last_some ha hb (Int.not_lt.1 h0)
  have hlen:u'.length=u.length:=by
   rcases List.append_eq_append_iff.1 e with ⟨a',e1,e2⟩ | ⟨a',e1,e2⟩
   ·cases a' with
    | nil=>rw [e1]; simp
    | cons x a' =>
     simp only [List.cons_append,List.cons.injEq] at e2
     have h1:=hv a' c' v' e2.2 hc'
     rw [e1,dep_app,dep_cons_flat (by rw [← e2.1]; exact (hcb c hc).1) (by rw [← e2.1]; exact (hcb c hc).2),hd] at hd'
     omega
   ·cases a' with
    | nil=>rw [e1]; simp
    | cons x a' =>
     simp only [List.cons_append,List.cons.injEq] at e2
     have h1:=hv' a' c v e2.2 hc
     rw [e1,dep_app,dep_cons_flat (by rw [← e2.1]; exact (hcb c' hc').1) (by rw [← e2.1]; exact (hcb c' hc').2),hd'] at hd
     omega
  omega
theorem dep_no {l:List Int} (h:∀ x∈l,x≠40∧x≠41):dep l=0:=by
 induction l with
 | nil=>rfl
 | cons c r ih =>
  have hc:=h c List.mem_cons_self
  rw [dep_cons_flat hc.1 hc.2]
  exact ih fun x hx=>h x (List.mem_cons_of_mem _ hx)
theorem pfx_no {l:List Int} (h:∀ x∈l,x≠40∧x≠41):Pfx l:=fun u v e=>by
 rw [dep_no fun x hx=>h x (by rw [e]; exact List.mem_append_left _ hx)]; exact Int.le_refl _
theorem pfx_app {c:Int} (hc:c≠40∧c≠41) {u v:List Int} (hu:Pfx u) (hd:dep u=0) (hv:Pfx v):Pfx (u++c :: v):=by
 intro p q e
 rcases List.append_eq_append_iff.1 e with ⟨a',e1,e2⟩ | ⟨a',e1,e2⟩
 ·cases a' with
  | nil=>rw [e1,List.append_nil,hd]; exact Int.le_refl _
  | cons x a' =>
   simp only [List.cons_append,List.cons.injEq] at e2
   rw [e1,dep_app,dep_cons_flat (by rw [← e2.1]; exact hc.1) (by rw [← e2.1]; exact hc.2),hd]
   have:=hv a' q e2.2
   omega
 ·exact hu p a' e1
structure FlatF (l:List Int):Prop where
 d:dep l=0
 p:Pfx l
 s:NoTop 43 45 l
 m:NoTop 42 42 l
 n:0 < l.length
theorem fc_flat {num:Int→Int} {S:List Int→Int→Prop} (hS:∀ s n,S s n→dep s=0∧Pfx s) {l:List Int} {n:Int} (h:FcN num S l n):FlatF l:=by
 cases h with
 | nm h h1 h9 =>
  have hb:∀ x∈l,x≠40∧x≠41:=fun x hx=>by have:=h x hx; omega
  exact ⟨dep_no hb,pfx_no hb,noTop_of fun x hx=>by have:=h x hx; omega,noTop_of fun x hx=>by have:=h x hx; omega,h1⟩
 | @lt c h1 h2 =>
  have hb:∀ x∈[c],x≠40∧x≠41:=fun x hx=>by simp at hx; subst hx; omega
  exact ⟨dep_no hb,pfx_no hb,noTop_of fun x hx=>by simp at hx; subst hx; omega,noTop_of fun x hx=>by simp at hx; subst hx; omega,by simp⟩
 | @par s n h =>
  obtain ⟨hd,hp⟩:=hS s n h
  have top:∀ a b:Int,a≠40∧a≠41→b≠40∧b≠41→NoTop a b (40 :: (s++[41])):=by
   intro a b ha hb u c v e hc
   have hc':c≠40∧c≠41:=by rcases hc with rfl | rfl; exact ha; exact hb
   cases u with
   | nil=>simp at e; exact absurd e.1.symm hc'.1
   | cons x u =>
    simp only [List.cons_append,List.cons.injEq] at e
    rcases List.append_eq_append_iff.1 e.2 with ⟨a',e1,e2⟩ | ⟨a',e1,e2⟩
    ·cases a' with
     | nil=>simp at e2; exact absurd e2.1.symm hc'.2
     | cons y a'=>simp at e2
    ·have:=hp u a' e1
     rw [← e.1]
     show (1:Int)+dep u≠0
     omega
  refine ⟨?_,fun u v e=>?_,top 43 45 (by omega) (by omega),top 42 42 (by omega) (by omega),by simp⟩
  ·show (1:Int)+dep (s++[41])=0
   rw [dep_app,hd]; rfl
  ·cases u with
   | nil=>exact Int.le_refl _
   | cons x u =>
    simp only [List.cons_append,List.cons.injEq] at e
    rw [← e.1]
    show (0:Int)≤1+dep u
    rcases List.append_eq_append_iff.1 e.2 with ⟨a',e1,e2⟩ | ⟨a',e1,e2⟩
    ·rw [e1,dep_app,hd]
     cases a' with
     | nil=>decide
     | cons y a' =>
      simp only [List.cons_append,List.cons.injEq] at e2
      have:a'=[]:=by
       have:=e2.2; cases a' with
       | nil=>rfl
       | cons _ _=>simp at this
      rw [← e2.1,this]; decide
    ·have:=hp u a' e1; omega
theorem pr_flat {F:List Int→Int→Prop} (hF:∀ s n,F s n→FlatF s) {l:List Int} {n:Int} (h:PrN F l n):dep l=0∧Pfx l∧NoTop 43 45 l∧0 < l.length:=by
 induction h with
 | one h=>have:=hF _ _ h; exact ⟨this.d,this.p,this.s,this.n⟩
 | @more s t n m h g ih =>
  have:=hF _ _ g
  refine ⟨?_,pfx_app (by omega) ih.2.1 ih.1 this.p,(NoTop_cut ih.1 (by omega) (by omega) (by omega) (by omega)).2 ⟨ih.2.2.1,this.s⟩,by simp; omega⟩
  rw [dep_app,dep_cons_flat (by omega) (by omega),ih.1,this.d]; rfl
theorem sm_flat {P:List Int→Int→Prop} (hP:∀ s n,P s n→dep s=0∧Pfx s) {l:List Int} {n:Int} (h:SmN P l n):dep l=0∧Pfx l:=by
 induction h with
 | one h=>exact hP _ _ h
 | @more s t n m c hc h g ih =>
  obtain ⟨g1,g2⟩:=hP _ _ g
  refine ⟨?_,pfx_app (by omega) ih.2 ih.1 g2⟩
  rw [dep_app,dep_cons_flat (by omega) (by omega),ih.1,g1]; rfl
theorem su_flat (num:Int→Int):∀ d s n,SuN num d s n→dep s=0∧Pfx s:=by
 intro d
 induction d with
 | zero=>intro s n h; exact h.elim
 | succ d ih =>
  intro s n h
  exact sm_flat (fun s n h=>by have:=pr_flat (fun s n h=>fc_flat ih h) h; exact ⟨this.1,this.2.1⟩) h
theorem su_congr {num num':Int→Int}:∀ d s n,SuN num d s n→(∀ c∈s,97≤c→c≤122→num c=num' c)→SuN num' d s n:=by
 intro d
 induction d with
 | zero=>intro s n h; exact h.elim
 | succ d ih =>
  have hF:∀ s n,FcN num (SuN num d) s n→(∀ c∈s,97≤c→c≤122→num c=num' c)→FcN num' (SuN num' d) s n:=by
   intro s n h hc
   cases h with
   | nm h h1 h9=>exact FcN.nm h h1 h9
   | @lt c h1 h2=>rw [hc c (by simp) h1 h2]; exact FcN.lt h1 h2
   | @par s n h=>exact FcN.par (ih s n h fun c hm=>hc c (by simp [hm]))
  have hP:∀ s n,PrN (FcN num (SuN num d)) s n→(∀ c∈s,97≤c→c≤122→num c=num' c)→PrN (FcN num' (SuN num' d)) s n:=by
   intro s n h
   induction h with
   | one h=>exact fun hc=>PrN.one (hF _ _ h hc)
   | @more s t n m h g ih=>exact fun hc=>PrN.more (ih fun c hm=>hc c (by simp [hm])) (hF _ _ g fun c hm=>hc c (by simp [hm]))
  intro s n h
  induction h with
  | one h=>exact fun hc=>SmN.one (hP _ _ h hc)
  | @more s t n m c hcc h g ih=>exact fun hc=>SmN.more hcc (ih fun c hm=>hc c (by simp [hm])) (hP _ _ g fun c hm=>hc c (by simp [hm]))
end Go.Proofs.YtbgilndohccicaaGreatDoor
