import Derived.Test.YtbgilndohccicaaGreatDoorBz36
import Derived.Test.YtbgilndohccicaaGreatDoorBz34
namespace Go.Proofs.YtbgilndohccicaaGreatDoor
open Go.RowKit
structure KP (fs:List (Int×Int)):Prop where
 pos:∀ x,(kdF fs x).2=true→(kdF fs x).1≠0
 ltr_:∀ x,(kdF fs x).2=true→isLw x=true
theorem kdF_no {fs:List (Int×Int)} {x:Int} (h:(kdF fs x).2=false):(kdF fs x).1=0:=by
 unfold kdF at h ⊢
 split
 ·rfl
 ·rename_i h'; rw [if_neg h'] at h; cases h
structure Fst (J:Nat→Int) (lo hi:Nat) (R:Int×Int):Prop where
 sup:∀ i,J i≠0→lo≤i∧i < hi
 none_:R.1=0→∀ i,J i=0
 some_:R.1≠0→∃ i:Nat,R.2=i∧J i=R.1∧∀ i',i' < i→J i'=0
def lf (fs:List (Int×Int)) (b:Int):Int:=if isLw b=true then (if (kdF fs b).2=false then 5 else if (kdF fs b).1=114 then 6 else 0) else 0
def fL (fs:List (Int×Int)):List (Int×Int)→Int×Int
 | []=>(0,0)
 | t :: r=>if (kdF fs t.1).2=false then (5,t.2) else if (kdF fs t.1).1=114 then (6,t.2) else fL fs r
theorem fNum_fL (fs:List (Int×Int)):∀ ts:List GT,fNum fs ts=fL fs (tlw ts):=by
 intro ts
 induction ts with
 | nil=>rfl
 | cons t r ih =>
  rw [fNum]
  by_cases h:isLw t.w=true
  ·have e:tlw (t :: r)=(t.w,t.p) :: tlw r:=by simp [tlw,h]
   rw [if_pos h,e,fL,ih]
  ·have e:tlw (t :: r)=tlw r:=by simp [tlw,h]
   rw [if_neg h,e,ih]
theorem fL_first (fs:List (Int×Int)) (s:ByteArray):∀ n a,((fL fs (ltN s n a)).1=0→∀ i,a≤i→i < a+n→lf fs (nextB s i)=0) ∧
  ((fL fs (ltN s n a)).1≠0→∃ i:Nat,(fL fs (ltN s n a)).2=i∧a≤i∧i < a+n∧lf fs (nextB s i)=(fL fs (ltN s n a)).1∧∀ i',a≤i'→i' < i→lf fs (nextB s i')=0):=by
 intro n
 induction n with
 | zero=>intro a; exact ⟨fun _ i h1 h2=>by omega,fun h=>by simp [ltN,fL] at h⟩
 | succ n ih =>
  intro a
  have I:=ih (a+1)
  rw [ltN]
  by_cases hl:isLw (nextB s a)=true
  ·rw [if_pos hl,fL]
   by_cases h1:(kdF fs (nextB s a)).2=false
   ·rw [if_pos h1]
    refine ⟨fun h=>by simp at h,fun _=>⟨a,rfl,Nat.le_refl _,by omega,?_,fun i' h1 h2=>by omega⟩⟩
    unfold lf; rw [if_pos hl,if_pos h1]
   ·rw [if_neg h1]
    by_cases h2:(kdF fs (nextB s a)).1=114
    ·rw [if_pos h2]
     refine ⟨fun h=>by simp at h,fun _=>⟨a,rfl,Nat.le_refl _,by omega,?_,fun i' h1 h2=>by omega⟩⟩
     unfold lf; rw [if_pos hl,if_neg h1,if_pos h2]
    ·rw [if_neg h2]
     have h0:lf fs (nextB s a)=0:=by unfold lf; rw [if_pos hl,if_neg h1,if_neg h2]
     refine ⟨fun h i j1 j2=>?_,fun h=>?_⟩
     ·rcases Nat.eq_or_lt_of_le j1 with rfl | j
      ·exact h0
      ·exact I.1 h i j (by omega)
     ·obtain ⟨i,i1,i2,i3,i4,i5⟩:=I.2 h
      refine ⟨i,i1,by omega,by omega,i4,fun i' j1 j2=>?_⟩
      rcases Nat.eq_or_lt_of_le j1 with rfl | j
      ·exact h0
      ·exact i5 i' j j2
  ·rw [if_neg hl]
   have h0:lf fs (nextB s a)=0:=by unfold lf; rw [if_neg hl]
   refine ⟨fun h i j1 j2=>?_,fun h=>?_⟩
   ·rcases Nat.eq_or_lt_of_le j1 with rfl | j
    ·exact h0
    ·exact I.1 h i j (by omega)
   ·obtain ⟨i,i1,i2,i3,i4,i5⟩:=I.2 h
    refine ⟨i,i1,by omega,by omega,i4,fun i' j1 j2=>?_⟩
    rcases Nat.eq_or_lt_of_le j1 with rfl | j
    ·exact h0
    ·exact i5 i' j j2
theorem jKd_lf {fs:List (Int×Int)} (K:KP fs) (b:Int):(isLw b=true∧jKd fs b=0)↔(isLw b=true∧(kdF fs b).2=false):=by
 unfold jKd
 constructor
 ·rintro ⟨h1,h2⟩
  rw [if_pos h1] at h2
  refine ⟨h1,?_⟩
  cases h:(kdF fs b).2 with
  | false=>rfl
  | true=>exact absurd h2 (K.pos b h)
 ·rintro ⟨h1,h2⟩
  rw [if_pos h1]
  exact ⟨h1,kdF_no h2⟩
theorem jF1_num {fs:List (Int×Int)} (K:KP fs) {g:GU} {a x i:Nat} {s:ByteArray} (hx:x≤s.size) (hsm:g.sm=true) (hsa:g.sa=(a:Nat)) (hsu:g.su=s.extract a x) (hk:g.k≠114) (h1:a≤i) (h2:i < x):jF1 fs (i:Nat) g=lf fs (nextB s i):=by
 have hz:g.su.size=x - a:=by rw [hsu,ext_size hx]
 unfold jF1
 have hb:nextB g.su ((i:Int) - (a:Int)).toNat=nextB s i:=by
  rw [show ((i:Int) - (a:Int)).toNat=i - a by omega,hsu,nextB_extract s a x _ hx,if_pos (by omega),show a+(i - a)=i by omega]
 rw [if_neg (by rw [hsm,hsa,hz]; rintro (h | h | h); cases h; omega; omega),hsa,hb]
 unfold lf
 by_cases hl:isLw (nextB s i)=true
 ·rw [if_pos hl]
  by_cases h3:(kdF fs (nextB s i)).2=false
  ·rw [if_pos ((jKd_lf K _).2 ⟨hl,h3⟩),if_pos h3]
  ·rw [if_neg (fun h=>h3 ((jKd_lf K _).1 h).2),if_neg h3]
   have e:jKd fs (nextB s i)=(kdF fs (nextB s i)).1:=by unfold jKd; rw [if_pos hl]
   rw [e]
   by_cases h4:(kdF fs (nextB s i)).1=114
   ·rw [if_pos ⟨hk,h4⟩,if_pos h4]
   ·rw [if_neg (fun h=>h4 h.2),if_neg (fun h=>hk h.1),if_neg h4]
 ·rw [if_neg hl,if_neg (fun h=>hl h.1)]
  have e:jKd fs (nextB s i)=0:=by unfold jKd; rw [if_neg hl]
  rw [e,if_neg (fun h=>by omega),if_neg (fun h=>hk h.1)]
theorem jF1_out {fs:List (Int×Int)} {g:GU} {a x i:Nat} {s:ByteArray} (hx:x≤s.size) (hsa:g.sa=(a:Nat)) (hsu:g.su=s.extract a x) (hax:a≤x) (h:jF1 fs (i:Nat) g≠0):a≤i∧i < x:=by
 have hz:g.su.size=x - a:=by rw [hsu,ext_size hx]
 apply Classical.byContradiction
 intro hn
 apply h
 unfold jF1
 rw [if_pos]
 rw [hsa,hz]
 omega
set_option maxHeartbeats 1000000 in
theorem fld_first {s:ByteArray} {fs:List (Int×Int)} (K:KP fs) {k e:Nat} {f:GFd} {g:GU} (F:FM s k e f g) (he:e≤s.size):Fst (fun i=>jF1 fs (i:Nat) g) (k+4) e (fFld fs f):=by
 rcases F.sum with ⟨hsm,hts⟩ | ⟨hsm,hsp,hsa,hbg,hok,hts,hsu,hxe⟩
 ·have h0:∀ i:Nat,jF1 fs (i:Nat) g=0:=by intro i; unfold jF1; rw [if_pos (.inl hsm)]
  have hf:fFld fs f=(0,0):=by
   unfold fFld
   split
   ·unfold fRef; rw [hts]; rfl
   ·rw [hts]; rfl
  rw [hf]
  exact ⟨fun i h=>absurd (h0 i) h,fun _=>h0,fun h=>absurd rfl h⟩
 ·have ha:k+4≤s.size:=by
   have:=sum_ge s (k+4); omega
  obtain ⟨q1,q2,q3,q4⟩:=sum_is ha hok
  have hlet:=sum_let hok
  have hfst:=sum_fst hok
  have hgrow:=(sumRL_grow s 6 (k+4) []).2
  rw [← hts] at hlet hgrow
  obtain ⟨t,more,hfst⟩:=hfst
  rw [← hts] at hfst
  obtain ⟨ht,hf40,hfn⟩:=hfst
  generalize (sumRL s 6 (k+4) []).at_=x at q1 q2 q3 q4 hlet hsu hxe hfn hgrow
  have hz:g.su.size=x - (k+4):=by rw [hsu,ext_size q2]
  have hle:k+4≤x:=Nat.le_of_lt q1
  have hsup:∀ i:Nat,jF1 fs (i:Nat) g≠0→k+4≤i∧i < e:=fun i h=>by
   have:=jF1_out (fs:=fs) q2 hsa hsu hle h; omega
  by_cases hk:f.k=114
  ·have hgk:g.k=114:=by rw [F.k_,hk]
   have hf:fFld fs f=fRef fs f.ts f.sp f.ex:=by unfold fFld; rw [if_pos hk]
   have t0:f.ts[0]?.getD zT=t:=by rw [ht]; rfl
   have tl:¬ f.ts.length=0:=by rw [ht]; simp
   have hJa:jF1 fs ((k+4:Nat):Int) g=if isLw (nextB s (k+4))=true∧jKd fs (nextB s (k+4))=0 then 5 else if g.bg=true∨(g.su≠⟨#[48]⟩∧(g.su.size≠1∨jKd fs (nextB s (k+4))≠114)) then 6 else 0:=by
    unfold jF1
    rw [if_neg (by rw [hsm,hsa,hz]; rintro (h | h | h); cases h; omega; omega),hsa,Int.sub_self]
    have hb:nextB g.su (0:Int).toNat=nextB s (k+4):=by
     rw [hsu,nextB_extract s (k+4) x _ q2,if_pos (by show k+4+0 < x; omega)]; rfl
    rw [hb]
    by_cases h5:isLw (nextB s (k+4))=true∧jKd fs (nextB s (k+4))=0
    ·rw [if_pos h5,if_pos h5]
    ·rw [if_neg h5,if_neg h5,if_neg (fun h=>h.1 hgk)]
     by_cases h6:g.bg=true∨(g.su≠⟨#[48]⟩∧(g.su.size≠1∨jKd fs (nextB s (k+4))≠114))
     ·rw [if_pos ⟨hgk,rfl,h6⟩,if_pos h6]
     ·rw [if_neg (fun h=>h6 h.2.2),if_neg h6]
   have hJlt:∀ i',i' < k+4→jF1 fs (i':Nat) g=0:=by
    intro i' hi'
    apply Classical.byContradiction
    intro h
    have:=hsup i' h; omega
   have close:∀ E:Int,E≠0→fRef fs f.ts f.sp f.ex=(E,f.sp)→jF1 fs ((k+4:Nat):Int) g=E→Fst (fun i=>jF1 fs (i:Nat) g) (k+4) e (fFld fs f):=by
    intro E hE h1 h2
    rw [hf,h1]
    exact ⟨hsup,fun h=>absurd h hE,fun _=>⟨k+4,hsp,h2,hJlt⟩⟩
   have fine:fRef fs f.ts f.sp f.ex=(0,0)→g.su.size=1→jF1 fs ((k+4:Nat):Int) g=0→Fst (fun i=>jF1 fs (i:Nat) g) (k+4) e (fFld fs f):=by
    intro h1 h2 h3
    rw [hf,h1]
    refine ⟨hsup,fun _ i=>?_,fun h=>absurd rfl h⟩
    apply Classical.byContradiction
    intro h
    have:=jF1_out (fs:=fs) q2 hsa hsu hle h
    have:i=k+4:=by omega
    subst this
    exact h h3
   have hnl:∀ y,isLw y=false→(kdF fs y).1≠114:=by
    intro y hy h
    cases h2:(kdF fs y).2 with
    | true=>rw [K.ltr_ y h2] at hy; cases hy
    | false=>rw [kdF_no h2] at h; omega
   have hm1:g.su.size=1→more=[]:=by
    intro h
    rw [ht] at hgrow
    simp only [List.length_cons,List.length_nil] at hgrow
    exact List.length_eq_zero_iff.1 (by omega)
   have hfb:g.su=⟨#[48]⟩→nextB s (k+4)=48∧x=k+5:=by
    intro h
    have h1:g.su.size=1:=by rw [h]; rfl
    refine ⟨?_,by omega⟩
    have:nextB g.su 0=48:=by rw [h]; rfl
    rw [hsu,nextB_extract s (k+4) x 0 q2,if_pos (by omega)] at this
    exact this
   by_cases h40:nextB s (k+4)=40
   ·have hp:=hf40 h40
    have hps:¬ t.p=f.sp:=by rw [hsp]; omega
    refine close 6 (by decide) ?_ ?_
    ·unfold fRef
     rw [if_neg tl,t0,if_neg (fun h=>hps h.2.2),if_neg]
     rintro ⟨_,h⟩
     unfold aloneB at h
     rw [t0] at h
     simp only [Bool.and_eq_true,decide_eq_true_eq] at h
     exact hps h.1.2
    ·rw [hJa,if_neg (fun h=>by rw [isLw_no (by omega)] at h; exact absurd h.1 (by decide)),if_pos]
     right
     refine ⟨fun h=>by have:=(hfb h).1; omega,.inr ?_⟩
     unfold jKd; rw [if_neg (by rw [isLw_no (by omega)]; decide)]; decide
   ·obtain ⟨htok,hend⟩:=hfn h40
    have htp:t.p=f.sp:=by rw [htok,tok_p,hsp]
    by_cases hd:48≤nextB s (k+4)∧nextB s (k+4)≤57
    ·have hw:t.w=48:=by rw [htok]; unfold tok; rw [if_pos hd]
     have hv:t.v=(gNum s 9 (k+4) 0).1:=by rw [htok]; unfold tok; rw [if_pos hd]
     have hte:tokE s (k+4)=(gNum s 9 (k+4) 0).2:=by unfold tokE; rw [if_pos hd]
     have hl0:isLw (nextB s (k+4))=false:=isLw_no (by omega)
     have h48:isLw t.w=false:=by rw [hw]; rfl
     have hkd0:jKd fs (nextB s (k+4))=0:=by unfold jKd; rw [hl0]; rfl
     have hJ2:jF1 fs ((k+4:Nat):Int) g=if g.bg=true∨g.su≠⟨#[48]⟩ then 6 else 0:=by
      rw [hJa,if_neg (fun h=>by rw [hl0] at h; exact absurd h.1 (by decide)),hkd0]
      by_cases hb:g.bg=true∨g.su≠⟨#[48]⟩
      ·rw [if_pos hb,if_pos]
       rcases hb with h | h
       ·exact .inl h
       ·exact .inr ⟨h,.inr (by decide)⟩
      ·rw [if_neg hb,if_neg]
       rintro (h | h)
       ·exact hb (.inl h)
       ·exact hb (.inr h.1)
     have hR:fRef fs f.ts f.sp f.ex=if t.v=0∧more=[]∧f.ex=false then (0,0) else (6,f.sp):=by
      unfold fRef
      rw [if_neg tl,t0,if_neg (fun h=>by rw [h48] at h; exact absurd h.1 (by decide))]
      unfold aloneB
      rw [t0]
      by_cases hc:t.v=0∧more=[]∧f.ex=false
      ·rw [if_pos hc,if_pos]
       refine ⟨.inr ⟨hw,hc.1⟩,?_⟩
       rw [ht,hc.2.1,hc.2.2]
       simp [htp]
      ·rw [if_neg hc,if_neg]
       rintro ⟨h1,h2⟩
       apply hc
       rw [ht] at h2
       simp at h2
       refine ⟨?_,h2.1.1,h2.2⟩
       rcases h1 with h1 | h1
       ·exact absurd h1 (hnl _ h48)
       ·exact h1.2
     by_cases h0:nextB s (k+4)=48
     ·have hg0:gNum s 9 (k+4) 0=(0,k+4+1):=by rw [gNum,if_pos hd,if_pos (by omega)]
      rw [hg0] at hv hte
      by_cases hc:more=[]∧f.ex=false
      ·have hx5:x=k+5:=by rw [hend hc.1,hte]
       have hsz:g.su.size=1:=by omega
       have hsu0:g.su=⟨#[48]⟩:=by
        apply ba_ext
        ·rw [hsz]; rfl
        ·intro j hj
         have:j=0:=by omega
         subst this
         rw [hsu,nextB_extract s (k+4) x 0 q2,if_pos (by omega)]
         show nextB s (k+4)=_
         rw [h0]; rfl
       refine fine (by rw [hR,if_pos ⟨hv,hc⟩]) hsz ?_
       rw [hJ2,if_neg]
       rintro (h | h)
       ·rw [hbg,hc.2] at h; cases h
       ·exact h hsu0
      ·refine close 6 (by decide) (by rw [hR,if_neg (fun h=>hc h.2)]) ?_
       rw [hJ2,if_pos]
       by_cases hex:f.ex=true
       ·left; rw [hbg]; exact hex
       ·right
        intro h
        have:=hfb h
        exact hc ⟨hm1 (by omega),by simpa using hex⟩
     ·have hv0:t.v≠0:=by
       rw [hv,gNum,if_pos hd,if_neg (by omega)]
       have:∀ n k v,0 < v→0 < (gNum s n k v).1:=by
        intro n
        induction n with
        | zero=>intro k v h; exact h
        | succ n ih =>
         intro k v h
         rw [gNum]
         split
         ·rename_i hdd
          rw [if_neg (by omega)]
          exact ih _ _ (by omega)
         ·exact h
       have:=this 8 (k+4+1) (0 * 10+(nextB s (k+4) - 48)) (by omega)
       omega
      refine close 6 (by decide) (by rw [hR,if_neg (fun h=>hv0 h.1)]) ?_
      rw [hJ2,if_pos (.inr (fun h=>h0 (hfb h).1))]
    ·have hw:t.w=nextB s (k+4):=by rw [htok]; unfold tok; rw [if_neg hd]
     have hte:tokE s (k+4)=k+4+1:=by unfold tokE; rw [if_neg hd]
     have hl:isLw (nextB s (k+4))=true:=by
      have hb:acc 6 (bl (s.extract (k+4) x)):=q3
      obtain ⟨m,kk,hr,hm⟩:=hb
      rw [bl_cons q1 q2,rn] at hr
      cases hs:stp 6 (0,0,0) (nextB s (k+4)) with
      | none=>rw [hs] at hr; cases hr
      | some q =>
       unfold stp at hs
       rw [if_pos rfl,if_neg (by omega),if_neg (by omega)] at hs
       split at hs
       ·rename_i h; exact isLw_yes h
       ·rw [if_neg (fun h=>h40 h.1)] at hs; cases hs
     have hlt:isLw t.w=true:=by rw [hw]; exact hl
     have hne0:g.su≠⟨#[48]⟩:=fun h=>by have:=(hfb h).1; rw [this] at hl; exact absurd hl (by decide)
     have hkd:jKd fs (nextB s (k+4))=(kdF fs (nextB s (k+4))).1:=by unfold jKd; rw [if_pos hl]
     by_cases h5:(kdF fs (nextB s (k+4))).2=false
     ·refine close 5 (by decide) ?_ ?_
      ·unfold fRef
       rw [if_neg tl,t0,if_pos ⟨hlt,by rw [hw]; exact h5,htp⟩]
      ·rw [hJa,if_pos ((jKd_lf K _).2 ⟨hl,h5⟩)]
     ·have hJ2:jF1 fs ((k+4:Nat):Int) g=if g.bg=true∨(g.su.size≠1∨(kdF fs (nextB s (k+4))).1≠114) then 6 else 0:=by
       rw [hJa,if_neg (fun h=>h5 ((jKd_lf K _).1 h).2),hkd]
       by_cases hb:g.bg=true∨(g.su.size≠1∨(kdF fs (nextB s (k+4))).1≠114)
       ·rw [if_pos hb,if_pos (hb.imp id fun h=>⟨hne0,h⟩)]
       ·rw [if_neg hb,if_neg (fun h=>hb (h.imp id And.right))]
      have hR:fRef fs f.ts f.sp f.ex=if (kdF fs (nextB s (k+4))).1=114∧more=[]∧f.ex=false then (0,0) else (6,f.sp):=by
       unfold fRef
       rw [if_neg tl,t0,hw,if_neg (fun h=>h5 h.2.1)]
       unfold aloneB
       rw [t0]
       by_cases hc:(kdF fs (nextB s (k+4))).1=114∧more=[]∧f.ex=false
       ·rw [if_pos hc,if_pos]
        refine ⟨.inl hc.1,?_⟩
        rw [ht,hc.2.1,hc.2.2]
        simp [htp]
       ·rw [if_neg hc,if_neg]
        rintro ⟨h1,h2⟩
        apply hc
        rw [ht] at h2
        simp at h2
        refine ⟨?_,h2.1.1,h2.2⟩
        rcases h1 with h1 | h1
        ·exact h1
        ·exact absurd h1.1 (fun h=>by rw [h] at hl; exact absurd hl (by decide))
      by_cases hc:(kdF fs (nextB s (k+4))).1=114∧more=[]∧f.ex=false
      ·have hx5:x=k+5:=by rw [hend hc.2.1,hte]
       refine fine (by rw [hR,if_pos hc]) (by omega) ?_
       rw [hJ2,if_neg]
       rintro (h | h | h)
       ·rw [hbg,hc.2.2] at h; cases h
       ·exact h (by omega)
       ·exact h hc.1
      ·refine close 6 (by decide) (by rw [hR,if_neg hc]) ?_
       rw [hJ2,if_pos]
       by_cases hex:f.ex=true
       ·left; rw [hbg]; exact hex
       ·right
        by_cases hs1:g.su.size=1
        ·right; intro h; exact hc ⟨h,hm1 hs1,by simpa using hex⟩
        ·exact .inl hs1
  ·have hgk:g.k≠114:=by rw [F.k_]; exact hk
   have hf:fFld fs f=fL fs (ltN s (x - (k+4)) (k+4)):=by
    unfold fFld; rw [if_neg hk,fNum_fL,hlet]; rfl
   have ex:k+4+(x - (k+4))=x:=by omega
   have L:=fL_first fs s (x - (k+4)) (k+4)
   rw [← hf,ex] at L
   refine ⟨hsup,fun h i=>?_,fun h=>?_⟩
   ·apply Classical.byContradiction
    intro h'
    have hi:=jF1_out (fs:=fs) q2 hsa hsu hle h'
    exact h' (by show jF1 fs (i:Nat) g=0; rw [jF1_num K q2 hsm hsa hsu hgk hi.1 hi.2]; exact L.1 h i hi.1 hi.2)
   ·obtain ⟨i,i1,i2,i3,i4,i5⟩:=L.2 h
    refine ⟨i,i1,by show jF1 fs (i:Nat) g=_; rw [jF1_num K q2 hsm hsa hsu hgk i2 i3]; exact i4,fun i' hi'=>?_⟩
    apply Classical.byContradiction
    intro h'
    have hi:=jF1_out (fs:=fs) q2 hsa hsu hle h'
    exact h' (by show jF1 fs (i':Nat) g=0; rw [jF1_num K q2 hsm hsa hsu hgk hi.1 hi.2]; exact i5 i' hi.1 hi')
end Go.Proofs.YtbgilndohccicaaGreatDoor
namespace Go.Proofs.YtbgilndohccicaaGreatDoor
open Go.RowKit
set_option maxHeartbeats 4000000 in
set_option maxRecDepth 100000 in
theorem judge_f1 (x:KX) (os:Sch) (c:HC) (fa:Option Addr) (m fc base:Nat) (at_:Int) (w:World) (K:KC w x os) (hU:Uq os) (hV:UV w base (.slice fa m fc) c.l) (hq1:(c.s != 0)=false) (hat:0≤at_) (hat':at_≤1000) (hF:∀ f∈c.l,0≤f.sa∧f.sa≤1004∧f.su.size≤400) (hl:c.l.length≤6) :
  Calls Tryz.prog 103 #[.agg #[.int .u8 c.n,.int .u8 c.s,.int .i64 c.p,.int .i64 c.sa,.slice fa m fc],.slice (some ⟨x.g,0,none⟩) os.length x.cap,.int .i64 at_] w fun e w'=>e=.returned (.int .i64 (jFs (fof os (srcI (vsO os) c.n c.s)) at_ c.l))∧Below w.heap.size w w':=by
 obtain ⟨hmn,hcx⟩:=hV.cellsX
 have HM:Hid (m=c.l.length):=hmn
 have hm6:m≤6:=by omega
 have HC:Hid (∀ i,i < m→∃ g,fa=some ⟨g,0,none⟩∧g < w.heap.size∧UCell w g i (c.l[i]?.getD noGU)):=hcx
 have HF:Hid (∀ f∈c.l,0≤f.sa∧f.sa≤1004∧f.su.size≤400):=hF
 have HK:Hid (KC w x os):=K
 have HU:Hid (Uq os):=hU
 obtain ⟨src,hsrc⟩:∃ src,src=srcI (vsO os) c.n c.s:=⟨_,rfl⟩
 rw [← hsrc]
 obtain ⟨W,hW⟩:∃ W,W=w.alloc (.cells #[.int .u8 c.n,.int .u8 c.s,.int .i64 c.p,.int .i64 c.sa,.slice fa m fc] 140):=⟨_,rfl⟩
 have B0:Below w.heap.size w W:=by rw [hW]; exact (Below.refl _ _).alloc (Nat.le_refl _) _
 have z0:w.heap.size < W.heap.size:=by rw [hW]; simp
 have C1:=umade_of c.n c.s c.p c.sa fa m fc x.g x.cap os.length _ W ((K.below B0).oldN hU.s) src (by rw [madeI_src,hsrc])
 obtain ⟨fs,hfs⟩:∃ fs,fs=fof os src:=⟨_,rfl⟩
 rw [← hfs]
 have HFS:Hid (fs=fof os src):=hfs
 obtain ⟨R,hR⟩:∃ R,R=jFs fs at_ c.l:=⟨_,rfl⟩
 rw [← hR]
 have HR:Hid (R=jFs fs at_ c.l):=hR
 have y0:W.cell? ⟨w.heap.size,1,none⟩=some (.int .u8 c.s):=by rw [hW]; go_simp
 have y1:W.cell? ⟨w.heap.size,3,none⟩=some (.int .i64 c.sa):=by rw [hW]; go_simp
 have y2:W.cell? ⟨w.heap.size,4,none⟩=some (.slice fa m fc):=by rw [hW]; go_simp
 obtain ⟨ol,hol⟩:∃ ol,ol=os.length:=⟨_,rfl⟩
 rw [← hol] at C1 ⊢
 have HOL:Hid (ol=os.length):=hol
 have hol6:ol≤6:=by rw [hol]; exact hU.s
 clear hmn hcx hF K hU hsrc hfs hR hV hl hol
 go_enter Tryz.func103,Tryz.ntmps103
 go_wp2_with fail
 rw [← hW]
 clear hW
 refine C1.mono ?_
 rintro e w1 ⟨rfl,B1⟩
 have BW1:Below w.heap.size w w1:=B0.trans (B1.mono B0.size)
 have x0:w1.cell? ⟨w.heap.size,1,none⟩=some (.int .u8 c.s):=(B1.cell (p:=⟨w.heap.size,1,none⟩) z0).trans y0
 have x1:w1.cell? ⟨w.heap.size,3,none⟩=some (.int .i64 c.sa):=(B1.cell (p:=⟨w.heap.size,3,none⟩) z0).trans y1
 have x2:w1.cell? ⟨w.heap.size,4,none⟩=some (.slice fa m fc):=(B1.cell (p:=⟨w.heap.size,4,none⟩) z0).trans y2
 have z1:w.heap.size < w1.heap.size:=Nat.lt_of_lt_of_le z0 B1.size
 clear C1 B1 y0 y1 y2
 go_wp2
 go_loopw [9] (fun i wr=>∃ j:Nat,j≤m∧i=.int .i64 j∧Hid (R=jFs fs at_ (c.l.drop j))∧Below w1.heap.size w1 wr) (fun i _=>m - (intOf i).toNat)
 case atStart=>exact ⟨0,Nat.zero_le _,rfl,HR.out,Below.refl _ _⟩
 case round =>
  obtain ⟨j,hj,rfl,HT,hb⟩:=hrel
  have hsz:=hb.size
  have p2:wr.cell? ⟨w.heap.size,4,none⟩=some (.slice fa m fc):=(hb.cell (p:=⟨w.heap.size,4,none⟩) z1).trans x2
  have zr:w.heap.size < wr.heap.size:=by omega
  have BW:Below w.heap.size w wr:=BW1.trans (hb.mono BW1.size)
  by_cases hjl:j < m
  ·obtain ⟨g,hga,hgs,hgc⟩:=HC.out j hjl
   subst hga
   obtain ⟨f,hf⟩:∃ f,f=c.l[j]?.getD noGU:=⟨_,rfl⟩
   have hfk:c.l[j]?=some f:=by rw [hf]; exact getD_of (by rw [← HM.out]; exact hjl) noGU
   obtain ⟨f0,f1,f2,f3,f4,f5,f6⟩:=hgc.below BW hgs
   rw [← hf] at f0 f1 f2 f3 f4 f5 f6
   obtain ⟨hs0,hs1,hs2⟩:=HF.out f (List.mem_of_getElem? hfk)
   have hgr:g < wr.heap.size:=by omega
   have hst:=HT.out
   rw [drop_cons hfk,jFs] at hst
   obtain ⟨fn,fk,fp,sa,sm,bg,su⟩:=f
   simp only [] at f0 f1 f2 f3 f4 f5 f6 hs0 hs1 hs2
   have BA:Below w1.heap.size w1 (wr.alloc (.cells #[.int .u8 fn,.int .u8 fk,.int .i64 fp,.int .i64 sa,.bool sm,.bool bg,.string su] 124)):=hb.alloc hsz _
   have BAW:Below w.heap.size w (wr.alloc (.cells #[.int .u8 fn,.int .u8 fk,.int .i64 fp,.int .i64 sa,.bool sm,.bool bg,.string su] 124)):=BW.alloc (by omega) _
   clear hf hfk hgc HT
   by_cases hsk:sm=false∨at_ < sa∨sa+su.size≤at_
   ·have HN:Hid (R=jFs fs at_ (c.l.drop (j+1))):=by
     show R=_
     rw [hst,jF1,if_pos hsk,if_neg (by simp)]
    clear hst
    cases sm with
    | false =>
     clear hsk
     go_wp2
     exact ⟨⟨j+1,by omega,rfl,HN,BA⟩,by simp [intOf]; omega⟩
    | true =>
     by_cases h1:at_ < sa
     ·clear hsk
      go_wp2
      exact ⟨⟨j+1,by omega,rfl,HN,BA⟩,by simp [intOf]; omega⟩
     ·have h2:sa+su.size≤at_:=by simpa [h1] using hsk
      clear hsk
      go_wp2
      exact ⟨⟨j+1,by omega,rfl,HN,BA⟩,by simp [intOf]; omega⟩
   ·have hsm:sm=true:=by cases sm with
     | true=>rfl
     | false=>exact absurd (.inl rfl) hsk
    subst hsm
    have h1:¬ at_ < sa:=fun h=>hsk (.inr (.inl h))
    have h2:¬ sa+su.size≤at_:=fun h=>hsk (.inr (.inr h))
    obtain ⟨k,hk⟩:∃ k:Nat,at_ - sa=k:=⟨(at_ - sa).toNat,by omega⟩
    have hkl:k < su.size:=by omega
    have hbk:(su[k].toNat:Int)=nextB su k:=(nextB_in hkl).symm
    rw [jF1] at hst
    simp only [] at hst
    rw [if_neg hsk,hk,Int.toNat_natCast] at hst
    obtain ⟨b,hbb⟩:∃ b,b=nextB su k:=⟨_,rfl⟩
    rw [← hbb] at hbk hst
    clear hbb hsk
    go_wp2_with fail
    cases hlw:isLw b with
    | true =>
     refine (among_any b 97 122 _ true hlw).mono ?_
     rintro e w2 ⟨rfl,rfl⟩
     obtain ⟨kd,hkd⟩:∃ kd,kd=(kdF fs b).1:=⟨_,rfl⟩
     have ekd:jKd fs b=kd:=by unfold jKd; rw [if_pos hlw,hkd]
     rw [ekd] at hst
     have C2:=kindOf_kc (HK.out.below BAW) HU.out src b kd (by rw [← HFS.out,hkd])
     rw [← HOL.out] at C2
     have HJ:Hid (R=jsel (isLw b) kd fk at_ sa bg su (jFs fs at_ (c.l.drop (j+1)))):=hst
     rw [hlw] at HJ
     clear hkd ekd hst hlw
     go_wp2_with fail
     refine C2.mono ?_
     rintro e w3 ⟨rfl,B3⟩
     have BB:Below w1.heap.size w1 w3:=BA.trans (B3.mono BA.size)
     have BW3:Below w.heap.size w w3:=BAW.trans (B3.mono BAW.size)
     have g1:w3.cell? ⟨wr.heap.size,1,none⟩=some (.int .u8 fk):=(B3.cell (p:=⟨wr.heap.size,1,none⟩) (by simp)).trans (by go_simp)
     have g3:w3.cell? ⟨wr.heap.size,3,none⟩=some (.int .i64 sa):=(B3.cell (p:=⟨wr.heap.size,3,none⟩) (by simp)).trans (by go_simp)
     have g5:w3.cell? ⟨wr.heap.size,5,none⟩=some (.bool bg):=(B3.cell (p:=⟨wr.heap.size,5,none⟩) (by simp)).trans (by go_simp)
     have g6:w3.cell? ⟨wr.heap.size,6,none⟩=some (.string su):=(B3.cell (p:=⟨wr.heap.size,6,none⟩) (by simp)).trans (by go_simp)
     have gz:wr.heap.size < w3.heap.size:=by have:=B3.size; simp at this; omega
     clear C2 B3 f0 f1 f2 f3 f4 f5 f6 p2 BA BAW hb BW
     by_cases h0:kd=0
     ·have e0:(kd==0)=true:=by simp [h0]
      have HN:Hid (R=5):=by show R=_; rw [HJ.out]; exact jsel5 h0
      clear h0 HJ
      go_wp2
      go_ret
      rw [HN.out]
      exact ⟨rfl,BW3⟩
     have e0:(kd==0)=false:=by simp [h0]
     by_cases h3:fk=114
     ·have e3:(fk != 114)=false:=by simp [h3]
      have e3':(fk==114)=true:=by simp [h3]
      by_cases h4:at_=sa
      ·have e4:(at_==sa)=true:=by simp [h4]
       cases bg with
       | true =>
        have HN:Hid (R=6):=by show R=_; rw [HJ.out]; exact jsel6 (.inr ⟨h3,h4,.inl rfl⟩) (.inr h0)
        clear h3 h4 HJ
        go_wp2
        go_ret
        rw [HN.out]
        exact ⟨rfl,BW3⟩
       | false =>
        by_cases h5:su=⟨#[48]⟩
        ·have e5':su.toList=[48]:=su48.2 h5
         have e5:(su.toList==[48])=true:=by simp [e5']
         have HN:Hid (R=jFs fs at_ (c.l.drop (j+1))):=by show R=_; rw [HJ.out]; exact jsel0 (.inr h0) (fun h=>h.1 h3) (fun h=>by rcases h.2.2 with h | h; cases h; exact h.1 h5)
         clear h3 h4 h5 HJ
         go_wp2
         exact ⟨⟨j+1,by omega,rfl,HN,BB⟩,by simp [intOf]; omega⟩
        ·have e5':¬ su.toList=[48]:=fun h=>h5 (su48.1 h)
         have e5:(su.toList==[48])=false:=by simpa using e5'
         by_cases h6:su.size=1
         ·have e6':(su.size:Int)=1:=by omega
          have e6:((su.size:Int) != 1)=false:=by simp [h6]
          by_cases h7:kd=114
          ·have e7:(kd != 114)=false:=by simp [h7]
           have HN:Hid (R=jFs fs at_ (c.l.drop (j+1))):=by show R=_; rw [HJ.out]; exact jsel0 (.inr h0) (fun h=>h.1 h3) (fun h=>by rcases h.2.2 with h | h; cases h; rcases h.2 with h | h; exact h h6; exact h h7)
           clear h3 h4 h5 h6 h7 HJ
           go_wp2
           exact ⟨⟨j+1,by omega,rfl,HN,BB⟩,by simp [intOf]; omega⟩
          ·have e7:(kd != 114)=true:=by simp [h7]
           have HN:Hid (R=6):=by show R=_; rw [HJ.out]; exact jsel6 (.inr ⟨h3,h4,.inr ⟨h5,.inr h7⟩⟩) (.inr h0)
           clear h3 h4 h5 h6 h7 HJ
           go_wp2
           go_ret
           rw [HN.out]
           exact ⟨rfl,BW3⟩
         ·have e6':¬ (su.size:Int)=1:=by omega
          have e6:((su.size:Int) != 1)=true:=by simp; omega
          have HN:Hid (R=6):=by show R=_; rw [HJ.out]; exact jsel6 (.inr ⟨h3,h4,.inr ⟨h5,.inl h6⟩⟩) (.inr h0)
          clear h3 h4 h5 h6 HJ
          go_wp2
          go_ret
          rw [HN.out]
          exact ⟨rfl,BW3⟩
      ·have e4:(at_==sa)=false:=by simp [h4]
       have HN:Hid (R=jFs fs at_ (c.l.drop (j+1))):=by show R=_; rw [HJ.out]; exact jsel0 (.inr h0) (fun h=>h.1 h3) (fun h=>h4 h.2.1)
       clear h3 h4 HJ
       go_wp2
       exact ⟨⟨j+1,by omega,rfl,HN,BB⟩,by simp [intOf]; omega⟩
     ·have e3:(fk != 114)=true:=by simp [h3]
      have e3':(fk==114)=false:=by simp [h3]
      by_cases h7:kd=114
      ·have e7:(kd==114)=true:=by simp [h7]
       have HN:Hid (R=6):=by show R=_; rw [HJ.out]; exact jsel6 (.inl ⟨h3,h7⟩) (.inr h0)
       clear h3 h7 HJ
       go_wp2
       go_ret
       rw [HN.out]
       exact ⟨rfl,BW3⟩
      ·have e7:(kd==114)=false:=by simp [h7]
       have HN:Hid (R=jFs fs at_ (c.l.drop (j+1))):=by show R=_; rw [HJ.out]; exact jsel0 (.inr h0) (fun h=>h7 h.2) (fun h=>h3 h.1)
       clear h3 h7 HJ
       go_wp2
       exact ⟨⟨j+1,by omega,rfl,HN,BB⟩,by simp [intOf]; omega⟩
    | false =>
     refine (among_any b 97 122 _ false hlw).mono ?_
     rintro e w3 ⟨rfl,rfl⟩
     obtain ⟨kd,hkd⟩:∃ kd:Int,kd=0:=⟨_,rfl⟩
     have ekd:jKd fs b=kd:=by unfold jKd; rw [hlw,hkd]; rfl
     rw [ekd] at hst
     have HJ:Hid (R=jsel (isLw b) kd fk at_ sa bg su (jFs fs at_ (c.l.drop (j+1)))):=hst
     rw [hlw] at HJ
     subst hkd
     have h0:False=True→True:=fun _=>trivial
     clear ekd hst hlw h0
     have BB:=BA
     have BW3:=BAW
     clear BA BAW hb BW
     by_cases h3:fk=114
     ·have e3:(fk != 114)=false:=by simp [h3]
      have e3':(fk==114)=true:=by simp [h3]
      by_cases h4:at_=sa
      ·have e4:(at_==sa)=true:=by simp [h4]
       cases bg with
       | true =>
        have HN:Hid (R=6):=by show R=_; rw [HJ.out]; exact jsel6 (.inr ⟨h3,h4,.inl rfl⟩) (.inl rfl)
        clear h3 h4 HJ
        go_wp2
        go_ret
        rw [HN.out]
        exact ⟨rfl,BW3⟩
       | false =>
        by_cases h5:su=⟨#[48]⟩
        ·have e5':su.toList=[48]:=su48.2 h5
         have e5:(su.toList==[48])=true:=by simp [e5']
         have HN:Hid (R=jFs fs at_ (c.l.drop (j+1))):=by show R=_; rw [HJ.out]; exact jsel0 (.inl rfl) (fun h=>h.1 h3) (fun h=>by rcases h.2.2 with h | h; cases h; exact h.1 h5)
         clear h3 h4 h5 HJ
         go_wp2
         exact ⟨⟨j+1,by omega,rfl,HN,BB⟩,by simp [intOf]; omega⟩
        ·have e5':¬ su.toList=[48]:=fun h=>h5 (su48.1 h)
         have e5:(su.toList==[48])=false:=by simpa using e5'
         by_cases h6:su.size=1
         ·have e6':(su.size:Int)=1:=by omega
          have e6:((su.size:Int) != 1)=false:=by simp [h6]
          by_cases h7:(0:Int)=114
          ·exact absurd h7 (by decide)
          ·have e7:((0:Int) != 114)=true:=by decide
           have HN:Hid (R=6):=by show R=_; rw [HJ.out]; exact jsel6 (.inr ⟨h3,h4,.inr ⟨h5,.inr h7⟩⟩) (.inl rfl)
           clear h3 h4 h5 h6 h7 HJ
           go_wp2
           go_ret
           rw [HN.out]
           exact ⟨rfl,BW3⟩
         ·have e6':¬ (su.size:Int)=1:=by omega
          have e6:((su.size:Int) != 1)=true:=by simp; omega
          have HN:Hid (R=6):=by show R=_; rw [HJ.out]; exact jsel6 (.inr ⟨h3,h4,.inr ⟨h5,.inl h6⟩⟩) (.inl rfl)
          clear h3 h4 h5 h6 HJ
          go_wp2
          go_ret
          rw [HN.out]
          exact ⟨rfl,BW3⟩
      ·have e4:(at_==sa)=false:=by simp [h4]
       have HN:Hid (R=jFs fs at_ (c.l.drop (j+1))):=by show R=_; rw [HJ.out]; exact jsel0 (.inl rfl) (fun h=>h.1 h3) (fun h=>h4 h.2.1)
       clear h3 h4 HJ
       go_wp2
       exact ⟨⟨j+1,by omega,rfl,HN,BB⟩,by simp [intOf]; omega⟩
     ·have e3:(fk != 114)=true:=by simp [h3]
      have e3':(fk==114)=false:=by simp [h3]
      by_cases h7:(0:Int)=114
      ·exact absurd h7 (by decide)
      ·have e7:((0:Int)==114)=false:=by decide
       have HN:Hid (R=jFs fs at_ (c.l.drop (j+1))):=by show R=_; rw [HJ.out]; exact jsel0 (.inl rfl) (fun h=>h7 h.2) (fun h=>h3 h.1)
       clear h3 h7 HJ
       go_wp2
       exact ⟨⟨j+1,by omega,rfl,HN,BB⟩,by simp [intOf]; omega⟩
  ·have HN:Hid (R=0):=by show R=_; rw [HT.out,List.drop_eq_nil_of_le (by rw [← HM.out]; omega)]; rfl
   go_wp2
   go_ret
   rw [HN.out]
   exact ⟨rfl,BW⟩
end Go.Proofs.YtbgilndohccicaaGreatDoor
