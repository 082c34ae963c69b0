import Derived.Test.YtbgilndohccicaaGreatDoorBz27
import Derived.Test.YtbgilndohccicaaGreatDoorBz02
import Derived.Test.YtbgilndohccicaaGreatDoorBz33
import Derived.Test.YtbgilndohccicaaGreatDoorBz24
import Derived.Test.YtbgilndohccicaaGreatDoorBz03
import Derived.Deep.CutRange
namespace Go.Proofs.YtbgilndohccicaaGreatDoor
open Go.RowKit
def KI (m:Nat) (N:Nat→Int) (FL:Nat→Nat) (FN FK:Nat→Nat→Int) (c x:Int) (r:Int):Prop :=
 (r=0∧∀ i k,i < m→k < FL i→¬ (N i=c∧FN i k=x))∨∃ i k,i < m∧k < FL i∧(N i=c∧FN i k=x)∧r=FK i k
set_option maxRecDepth 100000 in
set_option maxHeartbeats 2000000 in
theorem kindOf_row (g cap m:Nat) (N:Nat→Int) (FA:Nat→Option Addr) (FG FL FC:Nat→Nat) (FN FK:Nat→Nat→Int) (c x:Int) (w:World) (hg:g < w.heap.size) (hm:m≤1000) (hfl:∀ i,FL i≤1000)
  (hc:∀ i,i < m→RowC w g i (N i) (FA i) (FL i) (FC i))
  (hf:∀ i j,i < m→j < FL i→FA i=some ⟨FG i,0,none⟩∧FG i < w.heap.size∧RowK w (FG i) j (FN i j) (FK i j)) :
  Calls Tryz.prog 107 #[.slice (some ⟨g,0,none⟩) m cap,.int .u8 c,.int .u8 x] w fun e w'=>∃ r,e=.returned (.int .u8 r)∧KI m N FL FN FK c x r∧Below w.heap.size w w':=by
 have HC:Hid (∀ i,i < m→RowC w g i (N i) (FA i) (FL i) (FC i)):=hc
 have HF:Hid (∀ i j,i < m→j < FL i→FA i=some ⟨FG i,0,none⟩∧FG i < w.heap.size∧RowK w (FG i) j (FN i j) (FK i j)):=hf
 have HFL:Hid (∀ i,FL i≤1000):=hfl
 clear hc hf hfl
 go_enter Tryz.func107,Tryz.ntmps107
 go_wp2
 go_loopw [7] (fun iv wr=>∃ i:Nat,i≤m∧iv=.int .i64 i∧Hid (∀ i' k',i' < i→k' < FL i'→¬ (N i'=c∧FN i' k'=x))∧Below w.heap.size w wr) (fun iv _=>m - (intOf iv).toNat)
 case atStart=>exact ⟨0,by omega,rfl,fun i' k' h=>by omega,Below.refl _ _⟩
 case round =>
  obtain ⟨i,hi,rfl,HJ,hb⟩:=hrel
  by_cases hlt:i < m
  ·have hfl:=HFL.out i
   have HJ0:Hid (∀ i' k',i' < i→k' < FL i'→¬ (N i'=c∧FN i' k'=x)):=HJ
   go_wp2
   go_loopw [8] (fun kv wr=>∃ k:Nat,k≤FL i∧kv=.int .i64 k∧Hid (∀ k',k' < k→¬ (N i=c∧FN i k'=x))∧Below w.heap.size w wr) (fun kv _=>FL i - (intOf kv).toNat)
   case atStart=>exact ⟨0,by omega,rfl,fun k' h=>by omega,hb⟩
   case round =>
    clear hb HJ
    obtain ⟨k,hk,rfl,HK,hb⟩:=hrel
    by_cases hkl:k < FL i
    ·obtain ⟨i0,i4⟩:=(HC.out i hlt).below hb hg
     obtain ⟨fa,fg,fr⟩:=HF.out i k hlt hkl
     obtain ⟨k0,k1⟩:=fr.below hb fg
     rw [fa] at i4
     clear fa fr
     by_cases hn:N i=c
     ·have hn':(N i==c)=true:=by simpa using hn
      by_cases hx:FN i k=x
      ·have hx':(FN i k==x)=true:=by simpa using hx
       have HK2:Hid (KI m N FL FN FK c x (FK i k)):=.inr ⟨i,k,hlt,hkl,⟨hn,hx⟩,rfl⟩
       clear hn hx
       go_wp2
       go_ret
       exact ⟨_,rfl,HK2.out,hb⟩
      ·have hx':(FN i k==x)=false:=by simpa using hx
       have HK2:Hid (∀ k',k' < k+1→¬ (N i=c∧FN i k'=x)):=fun k' h=>by
        rcases Nat.lt_succ_iff_lt_or_eq.1 h with h | rfl
        ·exact HK.out k' h
        ·exact fun h=>hx h.2
       clear hn hx
       go_wp2
       go_roundw
       case rel=>exact ⟨k+1,by omega,by go_num,HK2,hb⟩
       case measure=>simp [intOf]; omega
     ·have hn':(N i==c)=false:=by simpa using hn
      have HK2:Hid (∀ k',k' < k+1→¬ (N i=c∧FN i k'=x)):=fun k' h h2=>hn h2.1
      clear hn
      go_wp2
      go_roundw
      case rel=>exact ⟨k+1,by omega,by go_num,HK2,hb⟩
      case measure=>simp [intOf]; omega
    ·obtain ⟨i0,i4⟩:=(HC.out i hlt).below hb hg
     have HJ2:Hid (∀ i' k',i' < i+1→k' < FL i'→¬ (N i'=c∧FN i' k'=x)):=fun i' k' h h2=>by
      rcases Nat.lt_succ_iff_lt_or_eq.1 h with h | rfl
      ·exact HJ0.out i' k' h h2
      ·exact HK.out k' (by omega)
     have hge:FL i≤k:=by omega
     clear hkl
     go_wp2
     go_roundw
     case rel=>exact ⟨i+1,by omega,by go_num,HJ2,hb⟩
     case measure=>simp [intOf]; omega
  ·have hge:m≤i:=by omega
   clear hlt
   go_wp2
   go_ret
   exact ⟨0,rfl,.inl ⟨rfl,fun i' k' h1 h2=>HJ.out i' k' (by omega) h2⟩,hb⟩
structure Uq (os:Sch):Prop where
 c:∀ i j,i < os.length→j < os.length→(cat os i).1=(cat os j).1→i=j
 f:∀ i j k,i < os.length→j < (cat os i).2.length→k < (cat os i).2.length→((cat os i).2[j]?.getD (0,0)).1=((cat os i).2[k]?.getD (0,0)).1→j=k
 p:∀ i j,i < os.length→j < (cat os i).2.length→0 < ((cat os i).2[j]?.getD (0,0)).2
 l:∀ i j,i < os.length→j < (cat os i).2.length→isLw ((cat os i).2[j]?.getD (0,0)).1=true
 s:os.length≤6
 t:∀ i:Nat,(cat os i).2.length≤6
theorem KI_kd {os:Sch} (h:Uq os) {c x r:Int} (hk:KI os.length (fun i=>(cat os i).1) (fun i=>(cat os i).2.length) (fun i j=>((cat os i).2[j]?.getD (0,0)).1) (fun i j=>((cat os i).2[j]?.getD (0,0)).2) c x r):r=(kdF (fof os c) x).1:=by
 rcases hk with ⟨rfl,hn⟩ | ⟨i,k,hi,hk,⟨h1,h2⟩,rfl⟩
 ·have e:idxF (fof os c) x=-1:=by
   by_cases hex:∃ i,i < os.length∧(cat os i).1=c
   ·obtain ⟨i,hi,hc⟩:=hex
    have hf:=(fof_hit hi hc (fun j hj h'=>by have:=h.c j i (by omega) hi (h'.trans hc.symm); omega)).1
    rw [hf]
    exact idxF_none _ _ fun j hj hx=>hn i j hi hj ⟨hc,hx⟩
   ·rw [(fof_no (c:=c) fun j hj hc=>hex ⟨j,hj,hc⟩).1]
    rfl
  unfold kdF; rw [e]; rfl
 ·simp only [] at h1 h2 hk ⊢
  have hf:=(fof_hit hi h1 (fun j hj h'=>by have:=h.c j i (by omega) hi (h'.trans h1.symm); omega)).1
  rw [hf]
  have e:idxF (cat os i).2 x=k:=idxF_hit _ _ k hk (fun j hj h'=>by have:=h.f i j k hi (by omega) hk (h'.trans h2.symm); omega) (by simpa using h2)
  unfold kdF; rw [e,if_neg (by omega),Int.toNat_natCast]
theorem kindOf_kc {x:KX} {os:Sch} {w:World} (K:KC w x os) (h:Uq os) (c n:Int) (y:Int) (hy:(kdF (fof os c) n).1=y) :
  Calls Tryz.prog 107 #[.slice (some ⟨x.g,0,none⟩) os.length x.cap,.int .u8 c,.int .u8 n] w fun e w'=>e=.returned (.int .u8 y)∧Below w.heap.size w w':=by
 refine (kindOf_row x.g x.cap os.length (fun i=>(cat os i).1) x.FA x.FG (fun i=>(cat os i).2.length) x.FC (fun i j=>((cat os i).2[j]?.getD (0,0)).1) (fun i j=>((cat os i).2[j]?.getD (0,0)).2) c n w K.lt (by have:=h.s; omega) (fun i=>by have:=h.t i; omega) K.row K.fld).mono ?_
 rintro e w' ⟨r,rfl,hr,hb⟩
 exact ⟨by rw [KI_kd h hr,hy],hb⟩
theorem KC.oldN {x:KX} {os:Sch} {w:World} (K:KC w x os) (h:os.length≤6):OldN w x.g os.length (fun i=>(cat os i).1):=⟨K.lt,by omega,fun i hi=>(K.row i hi).c0⟩
theorem madeI_src (os:Sch) (x s:Int):madeI (fun i=>(cat os i).1) os.length x s=srcI (vsO os) x s:=by
 unfold madeI srcI
 have e:(∃ i,i < os.length∧(cat os i).1=x)↔hasC (vsO os) x=true:=by
  unfold hasC vsO
  rw [List.any_map,List.any_eq_true]
  constructor
  ·rintro ⟨i,hi,h⟩
   exact ⟨os[i],List.getElem_mem hi,by simpa [cat,List.getElem?_eq_getElem hi] using h⟩
  ·rintro ⟨p,hp,h⟩
   obtain ⟨i,hi,rfl⟩:=List.getElem_of_mem hp
   exact ⟨i,hi,by simpa [cat,List.getElem?_eq_getElem hi] using h⟩
 simp only [e]
end Go.Proofs.YtbgilndohccicaaGreatDoor
namespace Go.Proofs.YtbgilndohccicaaGreatDoor
open Go.RowKit
def FO (f:GU):Prop:=0≤f.p∧f.p≤1000∧0≤f.sa∧f.sa≤1004∧f.su.size≤400
theorem fieldU_ok (t:ByteArray) (p:Int) (hp:0≤p) (hp':p≤1000) (ht:t.size≤400) (g:GU) (e:fieldU t p=some g):FO g:=by
 have h1:(sumOf t).size≤400:=by unfold sumOf; rw [ByteArray.size_extract]; omega
 have h2:(cutOf t).size≤400:=by unfold cutOf; rw [ByteArray.size_extract]; omega
 have h0:(⟨#[]⟩:ByteArray).size≤400:=by decide
 unfold fieldU at e
 repeat' split at e
 all_goals first
  | (cases e; done)
  | (injection e with e; subst e; simp only [FO]; omega)
theorem ufLoop_ok (t:ByteArray) (p:Int) (hp:0≤p) (hp':p≤500) (ht:t.size≤400):∀ n i fr l l',(l.length≤6∧∀ f∈l,FO f)→fr≤i→i+n=t.size+1→ufLoop t p n i fr l=some l'→l'.length≤6∧∀ f∈l',FO f:=by
 intro n
 induction n with
 | zero=>intro i fr l l' h _ _ e; simp [ufLoop] at e; subst e; exact h
 | succ n ih =>
  intro i fr l l' h hfr hin e
  rw [ufLoop] at e
  split at e
  ·exact ih _ _ _ _ h (by omega) (by omega) e
  ·split at e
   ·cases e
   ·rename_i g hg
    split at e
    ·cases e
    ·rename_i h6
     refine ih _ _ _ _ ⟨by have:=h.1; simp; omega,fun f hf=>?_⟩ (by omega) (by omega) e
     rcases List.mem_append.1 hf with hf | hf
     ·exact h.2 f hf
     ·simp at hf; subst hf
      exact fieldU_ok _ _ (by omega) (by omega) (by rw [ByteArray.size_extract]; omega) _ hg
theorem ufFields_ok (t:ByteArray) (p:Int) (hp:0≤p) (hp':p≤500) (ht:t.size≤400) (l:List GU) (e:ufFields t p=some l):l.length≤6∧∀ f∈l,FO f:=by
 simp only [ufFields] at e
 split at e
 ·simp at e; subst e; simp
 ·exact ufLoop_ok t p hp hp' ht _ _ _ _ _ (by simp) (by omega) (by omega) e
def CO (c:HC):Prop:=(c.l.length≤6∧∀ f∈c.l,FO f)∧c.p≤400∧0≤c.sa∧c.sa≤500
theorem ugClass_ok (t:ByteArray) (p:Nat) (hp':p≤400) (ht:t.size≤400) (r:UR) (e:ugClass t p=some r):CO ⟨r.n,r.s,p,r.sa,r.l⟩:=by
 unfold ugClass at e
 have hs:∀ k,(t.extract k t.size).size≤400:=fun k=>by rw [ByteArray.size_extract]; omega
 split at e
 ·split at e
  ·obtain ⟨l,hl,rfl⟩:=Option.map_eq_some_iff.1 e
   exact ⟨ufFields_ok _ _ (by omega) (by omega) (hs _) _ hl,hp',by simp,by simp⟩
  ·split at e
   ·obtain ⟨l,hl,rfl⟩:=Option.map_eq_some_iff.1 e
    exact ⟨ufFields_ok _ _ (by omega) (by omega) (hs _) _ hl,hp',by simp only []; omega,by simp only []; omega⟩
   ·cases e
 ·cases e
theorem haLoop_ok (s:ByteArray) (ht:s.size≤400):∀ n i fr l r,(l.length≤6∧∀ c∈l,CO c)→fr≤i→i+n=s.size→haLoop s n i fr l=some r→r.1.length≤6∧∀ c∈r.1,CO c:=by
 intro n
 induction n with
 | zero=>intro i fr l r h _ _ e; simp [haLoop] at e; subst e; exact h
 | succ n ih =>
  intro i fr l r h hfr hin e
  rw [haLoop] at e
  split at e
  ·split at e
   ·cases e
   ·rename_i r' hr'
    split at e
    ·cases e
    ·refine ih _ _ _ _ ⟨by have:=h.1; simp; omega,fun c hc=>?_⟩ (by omega) (by omega) e
     rcases List.mem_append.1 hc with hc | hc
     ·exact h.2 c hc
     ·simp at hc; subst hc; exact ugClass_ok _ fr (by omega) (by rw [ByteArray.size_extract]; omega) _ hr'
  ·exact ih _ _ _ _ h (by omega) (by omega) e
theorem haAll_ok (s:ByteArray) (ht:s.size≤400) (cs:List HC) (e:haAll s=some cs):(cs.length≤6∧∀ c∈cs,CO c)∧cs≠[]:=by
 cases h:haLoop s s.size 0 0 [] with
 | none=>rw [haAll_none h] at e; cases e
 | some r =>
  rw [haAll_some (l:=r.1) (fr:=r.2) h] at e
  split at e
  ·rename_i hc
   simp at e; subst e
   exact ⟨haLoop_ok s ht _ _ _ _ _ ⟨by simp,by simp⟩ (by omega) (by omega) h,fun e=>by rw [e] at hc; simp at hc⟩
  ·cases e
theorem UFine_of {cs:List HC} (h:cs.length≤6∧∀ c∈cs,CO c):UFine cs:=⟨h.1,fun c hc=>⟨(h.2 c hc).1.1,fun f hf=>((h.2 c hc).1.2 f hf).1⟩⟩
end Go.Proofs.YtbgilndohccicaaGreatDoor
namespace Go.Proofs.YtbgilndohccicaaGreatDoor
open Go.RowKit
def jKd (fs:List (Int×Int)) (b:Int):Int:=if isLw b=true then (kdF fs b).1 else 0
def jF1 (fs:List (Int×Int)) (at_:Int) (f:GU):Int :=
 if f.sm=false∨at_ < f.sa∨f.sa+f.su.size≤at_ then 0
 else if isLw (nextB f.su (at_ - f.sa).toNat)=true∧jKd fs (nextB f.su (at_ - f.sa).toNat)=0 then 5
 else if f.k≠114∧jKd fs (nextB f.su (at_ - f.sa).toNat)=114 then 6
 else if f.k=114∧at_=f.sa∧(f.bg=true∨(f.su≠⟨#[48]⟩∧(f.su.size≠1∨jKd fs (nextB f.su (at_ - f.sa).toNat)≠114))) then 6
 else 0
def jFs (fs:List (Int×Int)) (at_:Int):List GU→Int
 | []=>0
 | f :: r=>if jF1 fs at_ f≠0 then jF1 fs at_ f else jFs fs at_ r
def jC (os:Sch) (c:HC) (at_:Int):Int :=
 if c.s≠0∧c.sa=at_ then (if hasC (vsO os) c.s=true then 0 else 4) else jFs (fof os (srcI (vsO os) c.n c.s)) at_ c.l
theorem UCell.below {w w':World} {g j:Nat} {x:GU} {B:Nat} (h:UCell w g j x) (hb:Below B w w') (hg:g < B):UCell w' g j x :=
 ⟨(hb.cell (p:=⟨g,_,none⟩) hg).trans h.c0,(hb.cell (p:=⟨g,_,none⟩) hg).trans h.c1,(hb.cell (p:=⟨g,_,none⟩) hg).trans h.c2,(hb.cell (p:=⟨g,_,none⟩) hg).trans h.c3,(hb.cell (p:=⟨g,_,none⟩) hg).trans h.c4,(hb.cell (p:=⟨g,_,none⟩) hg).trans h.c5,(hb.cell (p:=⟨g,_,none⟩) hg).trans h.c6⟩
theorem UV.cellsX {w:World} {base:Nat} {a:Option Addr} {n k:Nat} {l:List GU} (h:UV w base (.slice a n k) l):n=l.length∧∀ i,i < n→∃ g,a=some ⟨g,0,none⟩∧g < w.heap.size∧UCell w g i (l[i]?.getD noGU):=by
 obtain ⟨a',cap,e,_,r⟩:=h.cells
 cases e
 exact ⟨rfl,fun i hi=>by
  obtain ⟨g,e1,e2,e3⟩:=r (by omega)
  exact ⟨g,e1,e2,e3 i hi⟩⟩
def jsel (lw:Bool) (kd fk at_ sa:Int) (bg:Bool) (su:ByteArray) (rest:Int):Int :=
 if (if lw=true∧kd=0 then 5 else if fk≠114∧kd=114 then 6 else if fk=114∧at_=sa∧(bg=true∨(su≠⟨#[48]⟩∧(su.size≠1∨kd≠114))) then 6 else 0:Int)≠0
 then (if lw=true∧kd=0 then 5 else if fk≠114∧kd=114 then 6 else if fk=114∧at_=sa∧(bg=true∨(su≠⟨#[48]⟩∧(su.size≠1∨kd≠114))) then 6 else 0) else rest
theorem su48 {su:ByteArray}:su.toList=[48]↔su=⟨#[48]⟩:=by
 rw [ByteArray.toList_eq]
 constructor
 ·intro h
  cases su with | mk d=>congr; exact Array.toList_inj.1 h
 ·rintro rfl; rfl
theorem jsel5 {kd fk at_ sa:Int} {bg:Bool} {su:ByteArray} {rest:Int} (h:kd=0):jsel true kd fk at_ sa bg su rest=5:=by
 unfold jsel; rw [if_pos (show true=true∧kd=0 from ⟨rfl,h⟩),if_pos (by decide)]
theorem jsel6 {lw:Bool} {kd fk at_ sa:Int} {bg:Bool} {su:ByteArray} {rest:Int} (h:(fk≠114∧kd=114)∨(fk=114∧at_=sa∧(bg=true∨(su≠⟨#[48]⟩∧(su.size≠1∨kd≠114))))) (hl:lw=false∨kd≠0):jsel lw kd fk at_ sa bg su rest=6:=by
 have h0:¬ (lw=true∧kd=0):=by rintro ⟨a,b⟩; rcases hl with h | h; rw [h] at a; cases a; exact h b
 unfold jsel
 rw [if_neg h0]
 rcases h with h | h
 ·rw [if_pos h,if_pos (by decide)]
 ·rw [if_neg (show ¬ (fk≠114∧kd=114) from fun h'=>h'.1 h.1),if_pos h,if_pos (by decide)]
theorem jsel0 {lw:Bool} {kd fk at_ sa:Int} {bg:Bool} {su:ByteArray} {rest:Int} (hl:lw=false∨kd≠0) (h1:¬ (fk≠114∧kd=114)) (h2:¬ (fk=114∧at_=sa∧(bg=true∨(su≠⟨#[48]⟩∧(su.size≠1∨kd≠114))))):jsel lw kd fk at_ sa bg su rest=rest:=by
 have h0:¬ (lw=true∧kd=0):=by rintro ⟨a,b⟩; rcases hl with h | h; rw [h] at a; cases a; exact h b
 unfold jsel
 rw [if_neg h0,if_neg h1,if_neg h2,if_neg (by simp)]
end Go.Proofs.YtbgilndohccicaaGreatDoor
namespace Go.Proofs.YtbgilndohccicaaGreatDoor
open Go.RowKit
def guV (g:GU):Value:=.agg #[.int .u8 g.n,.int .u8 g.k,.int .i64 g.p,.int .i64 g.sa,.bool g.sm,.bool g.bg,.string g.su]
def bcI (cs:Sch) (r:DH) (o:Nat) (sv:Int) (g:GU):Int×Bool :=
 if g.sm=true then (wrK g.k sv,!g.bg || (wrK g.k sv==sv))
 else if (kdF (fof cs (r.K (o+1))) g.n).1=0∨(kdF (fof cs (r.K (o+1))) g.n).1=114 then (0,true) else (wrK g.k (ltR cs r o g.n),true)
theorem RP.drew' {w:World} {rb:Nat} {x:RX} {cs:Sch} {sz:Int} {r:DH} (h:RP w rb x cs sz r):RP w.drew rb x cs sz r:=h.below (Below.refl _ _).drew
set_option maxRecDepth 20000 in
set_option maxHeartbeats 2000000 in
theorem becomes_r (rb:Nat) (x:RX) (cs:Sch) (sz:Int) (r:DH) (w:World) (h:RP w rb x cs sz r) (hU:Uq cs) (hcs:cs.length≤1000) (h6:∀ c∈cs,c.2.length≤6) (hn:r.n≤4398046511104) (o:Nat) (ho':o < r.n) (g:GU) (hk:g.k≠114) (sv:Int) (hsv1:-9223372036854775808≤sv) (hsv2:sv≤9223372036854775807) (hC:∀ k,-9223372036854775808≤r.C (o+1) k∧r.C (o+1) k≤9223372036854775807) (hS:g.sm=true→CSu rb x cs sz r o 106 g.su sv) :
  Calls Tryz.prog 85 #[.pointer (some ⟨rb,0,none⟩),guV g,.int .i64 o] w fun e w'=>e=.returned (.tuple #[.int .i64 (bcI cs r o sv g).1,.bool (bcI cs r o sv g).2])∧Below w.heap.size w w':=by
 have hrb:=h.lt
 obtain ⟨gr,hga,hg,hrow⟩:=h.row (by omega)
 obtain ⟨o0,o1⟩:=hrow o ho'
 have c0:=h.c0
 have c2:=h.c2
 rw [hga] at c2
 have hob:(0:Int)≤(o:Int)∧(o:Int) < (r.n:Int):=by omega
 obtain ⟨A,hA⟩:∃ A,A=bcI cs r o sv g:=⟨_,rfl⟩
 rw [← hA]
 unfold bcI at hA
 obtain ⟨gn,gk,gp,gsa,gsm,gbg,gsu⟩:=g
 simp only [] at hA hk hS
 unfold guV
 simp only []
 have q114:(gk != 114)=true:=by simp [hk]
 have q114':(gk==114)=false:=by simp [hk]
 obtain ⟨W,hW⟩:∃ W,W=w.alloc (.cells #[.int .u8 gn,.int .u8 gk,.int .i64 gp,.int .i64 gsa,.bool gsm,.bool gbg,.string gsu] 124):=⟨_,rfl⟩
 have B0:Below w.heap.size w W:=by rw [hW]; exact (Below.refl _ _).alloc (Nat.le_refl _) _
 have h0:RP W rb x cs sz r:=h.below B0
 have y0:W.cell? ⟨w.heap.size,0,none⟩=some (.int .u8 gn):=by rw [hW]; go_simp
 have y1:W.cell? ⟨w.heap.size,1,none⟩=some (.int .u8 gk):=by rw [hW]; go_simp
 have y4:W.cell? ⟨w.heap.size,4,none⟩=some (.bool gsm):=by rw [hW]; go_simp
 have y5:W.cell? ⟨w.heap.size,5,none⟩=some (.bool gbg):=by rw [hW]; go_simp
 have y6:W.cell? ⟨w.heap.size,6,none⟩=some (.string gsu):=by rw [hW]; go_simp
 have u0:w.heap.size < W.heap.size:=by rw [hW]; simp
 cases gsm with
 | true =>
  have C:=hS rfl W h0
  obtain ⟨v,hv⟩:∃ v,v=wrK gk sv:=⟨_,rfl⟩
  have HA:Hid (A=(v,!gbg || (v==sv))):=by show A=_; rw [hA,if_pos rfl,hv]
  have CW:=fun (W:World)=>rwrap_any gk sv W hsv1 hsv2
  rw [← hv] at CW
  clear hA hS hrow h h0 hv hC
  go_enter Tryz.func85,Tryz.ntmps85
  go_wp2_with fail
  rw [← hW]
  clear hW
  refine C.mono ?_
  rintro e w1 ⟨rfl,k1,rfl⟩
  clear C
  go_wp2_with fail
  refine (CW _).mono ?_
  rintro e w2 ⟨rfl,rfl⟩
  clear CW
  cases gbg with
  | false =>
   go_wp2
   go_ret2
   rw [HA.out]
   exact ⟨rfl,B0.trans ((gb_below_drewN W k1).mono B0.size)⟩
  | true =>
   go_wp2
   go_ret2
   rw [HA.out]
   exact ⟨rfl,B0.trans ((gb_below_drewN W k1).mono B0.size)⟩
 | false =>
  obtain ⟨kd,hkd⟩:∃ kd,(kdF (fof cs (r.K (o+1))) gn).1=kd:=⟨_,rfl⟩
  have CK:=fun (W:World) (hW:RP W rb x cs sz r)=>kindOf_kc hW.kc hU (r.K (o+1)) gn kd hkd
  have CL:=fun (W:World) (hW:RP W rb x cs sz r)=>letter_r rb x cs sz r W hW hcs h6 hn o ho' gn
  have hLb:-9223372036854775808≤ltR cs r o gn∧ltR cs r o gn≤9223372036854775807:=by
   unfold ltR
   split
   ·omega
   ·exact hC _
  obtain ⟨lv,hlv⟩:∃ lv,ltR cs r o gn=lv:=⟨_,rfl⟩
  rw [hlv] at CL hLb
  obtain ⟨v,hv⟩:∃ v,v=wrK gk lv:=⟨_,rfl⟩
  have CW:=fun (W:World)=>rwrap_any gk lv W hLb.1 hLb.2
  rw [← hv] at CW
  have HA:Hid (A=if kd=0∨kd=114 then (0,true) else (v,true)):=by show A=_; rw [hA,if_neg (by simp),hkd,hlv,hv]
  have CK0:=CK W.drew h0.drew'
  have H0:Hid (RP W rb x cs sz r):=h0
  have a0:=h0.c0
  have hrb1:rb < W.heap.size:=Nat.lt_of_lt_of_le hrb B0.size
  clear hA hS hrow h h0 hlv hv hkd CK hC
  go_enter Tryz.func85,Tryz.ntmps85
  go_wp2_with fail
  rw [← hW]
  clear hW
  go_upto_region 8 with fail
  go_cut [11] from 45 to 52 (fun s11 wx=>s11=.int .u8 kd∧Below W.heap.size W wx)
  case first =>
   go_region_with (go_at_call 107; refine CK0.mono ?_; rintro e w1 ⟨rfl,B1⟩)
   all_goals
    go_wp2_with fail
    go_meet
    exact ⟨rfl,(Below.refl _ W).drew.trans B1⟩
  case rest =>
   rename World=>w1
   obtain ⟨rfl,B1⟩:=hcut
   have BW1:Below w.heap.size w w1:=B0.trans (B1.mono B0.size)
   have CL1:=CL w1 (H0.out.below B1)
   have z0:=(B1.cell (p:=⟨w.heap.size,0,none⟩) u0).trans y0
   have z1:=(B1.cell (p:=⟨w.heap.size,1,none⟩) u0).trans y1
   have u1:w.heap.size < w1.heap.size:=Nat.lt_of_lt_of_le u0 B1.size
   clear CK0 CL y0 y1 y4 y5 y6
   by_cases k0:kd=0
   ·have HA2:Hid (A=(0,true)):=by show A=_; rw [HA.out,if_pos (.inl k0)]
    subst k0
    clear CL1 CW
    go_wp2
    go_ret2
    rw [HA2.out]
    exact ⟨rfl,BW1⟩
   ·have e0:(kd==0)=false:=by simp [k0]
    by_cases k1:kd=114
    ·have HA2:Hid (A=(0,true)):=by show A=_; rw [HA.out,if_pos (.inr k1)]
     subst k1
     clear CL1 CW e0
     go_wp2
     go_ret2
     rw [HA2.out]
     exact ⟨rfl,BW1⟩
    ·have e1:(kd==114)=false:=by simp [k1]
     have HA2:Hid (A=(v,true)):=by show A=_; rw [HA.out,if_neg (by omega)]
     clear k0 k1
     go_wp2_with fail
     refine CL1.mono ?_
     rintro e w2 ⟨rfl,nd,rfl⟩
     clear CL1
     go_wp2_with fail
     refine (CW _).mono ?_
     rintro e w3 ⟨rfl,rfl⟩
     clear CW
     go_wp2
     go_ret2
     rw [HA2.out]
     exact ⟨rfl,BW1.trans ((gb_below_drewN w1 nd).mono BW1.size)⟩
end Go.Proofs.YtbgilndohccicaaGreatDoor
namespace Go.Proofs.YtbgilndohccicaaGreatDoor
open Go.RowKit
def tgI (cs:Sch) (hs:List HC) (K:Int):Int:=match hs.findIdx? (fun h=>srcI (vsO cs) h.n h.s==K) with | some i=>(i:Int) | none=>-1
theorem tgI_hit {cs:Sch} {hs:List HC} {K:Int} {k:Nat} (hk:k < hs.length) (hno:∀ j,j < k→¬ srcI (vsO cs) (hs[j]?.getD noHC).n (hs[j]?.getD noHC).s=K) (h:srcI (vsO cs) (hs[k]?.getD noHC).n (hs[k]?.getD noHC).s=K):tgI cs hs K=k:=by
 have:hs.findIdx? (fun h=>srcI (vsO cs) h.n h.s==K)=some k:=by
  rw [List.findIdx?_eq_some_iff_getElem]
  refine ⟨hk,by simpa [List.getElem?_eq_getElem hk] using h,fun j hj=>?_⟩
  have:=hno j hj
  have hj':j < hs.length:=by omega
  simpa [List.getElem?_eq_getElem hj'] using this
 unfold tgI; rw [this]
theorem tgI_none {cs:Sch} {hs:List HC} {K:Int} (hno:∀ j,j < hs.length→¬ srcI (vsO cs) (hs[j]?.getD noHC).n (hs[j]?.getD noHC).s=K):tgI cs hs K=-1:=by
 have:hs.findIdx? (fun h=>srcI (vsO cs) h.n h.s==K)=none:=by
  rw [List.findIdx?_eq_none_iff]
  intro p hp
  obtain ⟨j,hj,rfl⟩:=List.getElem_of_mem hp
  have:=hno j hj
  simpa [List.getElem?_eq_getElem hj] using this
 unfold tgI; rw [this]
structure NxC (w:World) (g cap:Nat) (hs:List HC) (hv:List HV):Prop where
 lt:g < w.heap.size
 row:∀ i,i < hs.length→HCell w g i (hv[i]?.getD noHV)
 eq:∀ i,i < hs.length→(hv[i]?.getD noHV).n=(hs[i]?.getD noHC).n∧(hv[i]?.getD noHV).s=(hs[i]?.getD noHC).s
theorem UCls.nxc {w:World} {base:Nat} {v:Value} {vs:List HV} {cs:List HC} (h:UCls w base v vs cs) (hne:cs≠[]):∃ g cap,v=.slice (some ⟨g,0,none⟩) cs.length cap∧NxC w g cap cs vs:=by
 obtain ⟨g,cap,e,hg,_,hc⟩:=h.cells hne
 have hl:=h.len
 refine ⟨g,cap,e,hg,hc,fun i hi=>?_⟩
 have h1:vs[i]?=some (vs[i]'(by omega)):=List.getElem?_eq_getElem _
 have h2:cs[i]?=some (cs[i]'hi):=List.getElem?_eq_getElem _
 have:=(h.fld i _ _ h1 h2).1
 rw [h1,h2]; exact ⟨this.1,this.2.1⟩
theorem HCell.below {w w':World} {g i:Nat} {x:HV} (h:HCell w g i x) (hb:Below w.heap.size w w') (hg:g < w.heap.size):HCell w' g i x :=
 ⟨(hb.cell (p:=⟨g,_,none⟩) hg).trans h.c0,(hb.cell (p:=⟨g,_,none⟩) hg).trans h.c1,(hb.cell (p:=⟨g,_,none⟩) hg).trans h.c2,(hb.cell (p:=⟨g,_,none⟩) hg).trans h.c3,(hb.cell (p:=⟨g,_,none⟩) hg).trans h.c4⟩
set_option maxRecDepth 20000 in
set_option maxHeartbeats 2000000 in
theorem target_r (rb:Nat) (x:RX) (cs:Sch) (sz:Int) (r:DH) (w:World) (h:RP w rb x cs sz r) (hcs:cs.length≤6) (hn:r.n≤4398046511104) (o:Nat) (ho':o < r.n) (base:Nat) (hv:List HV) (hs:List HC) (hU:UCls w base (.slice x.nx.a x.nx.n x.nx.c) hv hs) (hne:hs≠[]) (hl:hs.length≤6) :
  Calls Tryz.prog 84 #[.pointer (some ⟨rb,0,none⟩),.int .i64 o] w fun e w'=>e=.returned (.int .i64 (tgI cs hs (r.K (o+1))))∧Below w.heap.size w w':=by
 have hrb:=h.lt
 obtain ⟨gr,hga,hg,hrow⟩:=h.row (by omega)
 obtain ⟨o0,o1⟩:=hrow o ho'
 have c0:=h.c0
 have c2:=h.c2
 rw [hga] at c2
 obtain ⟨gx,capx,ex,NX⟩:=hU.nxc hne
 have c11:=h.c11
 rw [ex] at c11
 have hob:(0:Int)≤(o:Int)∧(o:Int) < (r.n:Int):=by omega
 obtain ⟨T,hT⟩:∃ T,T=tgI cs hs (r.K (o+1)):=⟨_,rfl⟩
 rw [← hT]
 have HT:Hid (T=tgI cs hs (r.K (o+1))):=hT
 obtain ⟨K,hK⟩:∃ K,r.K (o+1)=K:=⟨_,rfl⟩
 rw [hK] at o0 HT
 obtain ⟨m,hm⟩:∃ m,m=hs.length:=⟨_,rfl⟩
 rw [← hm] at c11 hl
 have HM:Hid (m=hs.length):=hm
 have HNX:Hid (NxC w gx capx hs hv):=NX
 have HR:Hid (RP w rb x cs sz r):=h
 obtain ⟨om,hom⟩:∃ om,om=cs.length:=⟨_,rfl⟩
 rw [← hom] at c0
 have HOM:Hid (om=cs.length):=hom
 clear hT hK hm hom ex hU hrow h o1 hne NX
 go_enter Tryz.func84,Tryz.ntmps84
 go_wp2
 go_loopw [5] (fun iv wr=>∃ k:Nat,k≤m∧iv=.int .i64 k∧Hid (∀ j,j < k→¬ srcI (vsO cs) (hs[j]?.getD noHC).n (hs[j]?.getD noHC).s=K)∧Below w.heap.size w wr) (fun iv _=>m - (intOf iv).toNat)
 case atStart=>exact ⟨0,Nat.zero_le _,rfl,fun j hj=>by omega,Below.refl _ _⟩
 case round =>
  obtain ⟨k,hk,rfl,HN,hb⟩:=hrel
  have d0:=(hb.cell (p:=⟨rb,0,none⟩) hrb).trans c0
  have d2:=(hb.cell (p:=⟨rb,2,none⟩) hrb).trans c2
  have d11:=(hb.cell (p:=⟨rb,11,none⟩) hrb).trans c11
  have e0:=(hb.cell (p:=⟨gr,o * 2,none⟩) hg).trans o0
  have hrbr:rb < wr.heap.size:=Nat.lt_of_lt_of_le hrb hb.size
  by_cases hlt:k < m
  ·have hlt':k < hs.length:=by rw [← HM.out]; exact hlt
   obtain ⟨f0,f1,f2,f3,f4⟩:=(HNX.out.row k hlt').below hb HNX.out.lt
   obtain ⟨q1,q2⟩:=HNX.out.eq k hlt'
   have hgx:gx < wr.heap.size:=Nat.lt_of_lt_of_le HNX.out.lt hb.size
   obtain ⟨y,hy⟩:∃ y,srcI (vsO cs) (hs[k]?.getD noHC).n (hs[k]?.getD noHC).s=y:=⟨_,rfl⟩
   have CM:=umade_of (hv[k]?.getD noHV).n (hv[k]?.getD noHV).s (hv[k]?.getD noHV).p (hv[k]?.getD noHV).sa (hv[k]?.getD noHV).v.a (hv[k]?.getD noHV).v.n (hv[k]?.getD noHV).v.c x.kx.g x.kx.cap om (fun i=>(cat cs i).1) wr.drew (by rw [HOM.out]; exact ((HR.out.below hb).kc.oldN hcs).below (Below.refl _ _).drew) y (by rw [HOM.out,madeI_src,q1,q2]; exact hy)
   generalize (hv[k]?.getD noHV).n=v0 at f0 CM
   generalize (hv[k]?.getD noHV).s=v1 at f1 CM
   generalize (hv[k]?.getD noHV).p=v2 at f2 CM
   generalize (hv[k]?.getD noHV).sa=v3 at f3 CM
   generalize (hv[k]?.getD noHV).v=v4 at f4 CM
   obtain ⟨va,vn,vc⟩:=v4
   simp only [] at f4 CM
   have hgr:gr < wr.heap.size:=Nat.lt_of_lt_of_le hg hb.size
   clear q1 q2
   go_wp2
   go_region_with (go_at_call 92; refine CM.mono ?_; rintro e w1 ⟨rfl,B1⟩)
   all_goals
    have B2:Below wr.heap.size wr w1:=(Below.refl _ wr).drew.trans B1
    have B3:Below w.heap.size w w1:=hb.trans (B2.mono hb.size)
    have g2:=(B2.cell (p:=⟨rb,2,none⟩) hrbr).trans d2
    have g0:=(B2.cell (p:=⟨gr,o * 2,none⟩) hgr).trans e0
    have hrb1:rb < w1.heap.size:=Nat.lt_of_lt_of_le hrbr B2.size
    have hgr1:gr < w1.heap.size:=Nat.lt_of_lt_of_le hgr B2.size
    clear CM B1
    cases hyk:y==K with
    | true =>
     have HT2:Hid (T=k):=by show T=_; rw [HT.out]; exact tgI_hit hlt' HN.out (by rw [hy]; simpa using hyk)
     clear hy
     go_wp2
     go_ret
     exact ⟨by rw [HT2.out]; rfl,B3⟩
    | false =>
     have HN2:Hid (∀ j,j < k+1→¬ srcI (vsO cs) (hs[j]?.getD noHC).n (hs[j]?.getD noHC).s=K):=by
      intro j hj
      rcases Nat.lt_succ_iff_lt_or_eq.1 hj with h' | rfl
      ·exact HN.out j h'
      ·rw [hy]; simpa using hyk
     clear hy
     go_wp2
     go_roundw
     case rel=>exact ⟨k+1,by omega,by go_num,HN2,B3⟩
     case measure=>simp [intOf]; omega
  ·have HT2:Hid (T=-1):=by
    show T=_
    rw [HT.out]; exact tgI_none fun j hj=>HN.out j (by rw [← HM.out] at hj; omega)
   go_wp2
   go_ret
   exact ⟨by rw [HT2.out]; rfl,hb⟩
end Go.Proofs.YtbgilndohccicaaGreatDoor
