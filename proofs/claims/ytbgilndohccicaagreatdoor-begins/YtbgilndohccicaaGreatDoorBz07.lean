import Derived.Test.YtbgilndohccicaaGreatDoorBz06
import Derived.Lib.Strings
namespace Go.Proofs.YtbgilndohccicaaGreatDoor
open Go.RowKit
theorem rfield_any (t:ByteArray) (p:Int) (w:World) (hm:t.size≤4611686018427387904) :
  Calls Tryz.prog 125 #[.string t,.int .i64 p,.bool false] w (FPost t p w):=by
 by_cases hs:t.size < 3
 ·exact rfield_short t p w hs
 cases h0:(decide (97≤nextB t 0) && decide (nextB t 0≤122)) with
 | false=>exact rfield_letter t p w (by omega) h0
 | true =>
  cases h1:(nextB t 1==58) with
  | false=>exact rfield_colon t p w (by omega) h0 h1
  | true =>
   by_cases h3:t.size=3
   ·by_cases k1:nextB t 2=98
    ·exact rfield_yes_b t p w h3 h0 h1 k1
    by_cases k2:nextB t 2=104
    ·exact rfield_yes_h t p w h3 h0 h1 k2
    by_cases k3:nextB t 2=119
    ·exact rfield_yes_w t p w h3 h0 h1 k3
    by_cases k4:nextB t 2=108
    ·exact rfield_yes_l t p w h3 h0 h1 k4
    by_cases k5:nextB t 2=114
    ·exact rfield_yes_r t p w h3 h0 h1 k5
    exact rfield_kind t p w (by omega) h0 h1 (by simpa using k1) (by simpa using k2) (by simpa using k3) (by simpa using k4) (by simpa using k5)
   ·have h4:3 < t.size:=by omega
    by_cases k1:nextB t 2=98
    ·exact rfield_more_b t p w h4 hm h0 h1 k1
    by_cases k2:nextB t 2=104
    ·exact rfield_more_h t p w h4 hm h0 h1 k2
    by_cases k3:nextB t 2=119
    ·exact rfield_more_w t p w h4 hm h0 h1 k3
    by_cases k4:nextB t 2=108
    ·exact rfield_more_l t p w h4 hm h0 h1 k4
    by_cases k5:nextB t 2=114
    ·exact rfield_more_r t p w h4 hm h0 h1 k5
    exact rfield_kind t p w (by omega) h0 h1 (by simpa using k1) (by simpa using k2) (by simpa using k3) (by simpa using k4) (by simpa using k5)
theorem rfield_true (t:ByteArray) (p:Int) (w:World) (hm:t.size≤4611686018427387904) (hf:fieldB t=true) :
  Calls Tryz.prog 125 #[.string t,.int .i64 p,.bool false] w fun e w'=>e=.returned (.tuple #[.agg #[.int .u8 (nextB t 0),.int .u8 (nextB t 2),.int .i64 p,.int .i64 0,.bool false,.bool false,.string ⟨#[]⟩],.bool true])∧Below w.heap.size w w':=by
 refine (rfield_any t p w hm).mono ?_
 rintro e w' ⟨x0,x1,x2,rfl,hx,hb⟩
 obtain ⟨rfl,rfl,rfl⟩:=hx hf
 exact ⟨by rw [hf],hb⟩
theorem rfield_false (t:ByteArray) (p:Int) (w:World) (hm:t.size≤4611686018427387904) (hf:fieldB t=false) :
  Calls Tryz.prog 125 #[.string t,.int .i64 p,.bool false] w fun e w'=>∃ x0 x1 x2,e=.returned (.tuple #[.agg #[.int .u8 x0,.int .u8 x1,.int .i64 x2,.int .i64 0,.bool false,.bool false,.string ⟨#[]⟩],.bool false])∧Below w.heap.size w w':=by
 refine (rfield_any t p w hm).mono ?_
 rintro e w' ⟨x0,x1,x2,rfl,hx,hb⟩
 exact ⟨x0,x1,x2,by rw [hf],hb⟩
theorem Tryz.infoRField:(Tryz.prog.info? 124).map (fun i=>(i.zero,i.size,i.bytes))=some (some (.agg #[.int .u8 0,.int .u8 0,.int .i64 0,.int .i64 0,.bool false,.bool false,.string ⟨#[]⟩]),7,48):=by kernel_rfl
structure GF where
 n:Int
 k:Int
 p:Int
def GF.cells (f:GF):List Value:=[.int .u8 f.n,.int .u8 f.k,.int .i64 f.p,.int .i64 0,.bool false,.bool false,.string ⟨#[]⟩]
def flatR (l:List GF):List Value:=l.flatMap GF.cells
theorem flatR_app (a b:List GF):flatR (a++b)=flatR a++flatR b:=by simp [flatR]
def RV (w:World) (base:Nat) (v:Value) (l:List GF):Prop:=w.ownsRow base 124 7 v l.length (flatR l)
def gfLoop (t:ByteArray) (p:Int):Nat→Nat→Nat→List GF→Option (List GF)
 | 0,_,_,l=>some l
 | n+1,i,fr,l =>
  if i < t.size∧nextB t i≠44 then gfLoop t p n (i+1) fr l
  else if fieldB (t.extract fr i)=false∨l.length=6 then none
  else gfLoop t p n (i+1) (i+1) (l++[⟨nextB (t.extract fr i) 0,nextB (t.extract fr i) 2,p+fr⟩])
def gfFields (t:ByteArray) (p:Int):Option (List GF):=if t.size=0 then some [] else gfLoop t p (t.size+1) 0 0 []
def FsPost (R:Option (List GF)) (w:World) (e:Ending) (w':World):Prop:=∃ (a:Option Addr) (n c:Nat),
 e=.returned (.tuple #[.slice a n c,.bool R.isSome])∧RV w' w.heap.size (.slice a n c) (R.getD [])∧Below w.heap.size w w'
theorem RV.shape {w:World} {base:Nat} {v:Value} {l:List GF} (h:RV w base v l):∃ a c,v=.slice a l.length c:=by
 rcases h.2 with ⟨rfl,hn⟩ | ⟨g,cap,cur,rfl,_⟩
 ·exact ⟨none,0,by rw [hn]⟩
 ·exact ⟨_,_,rfl⟩
theorem RV.nil (w:World) (base:Nat):RV w base (.slice none 0 0) []:=World.ownsRow_nil _ _ _ _
theorem RV.below {w w':World} {base:Nat} {v:Value} {l:List GF} (h:RV w base v l) (hb:Below w.heap.size w w'):RV w' base v l:=World.ownsRow.kept h (gb_below hb none) (by cases hv:v.ownBlock <;> simp)
theorem RV.alloc {w:World} {base:Nat} {v:Value} {l:List GF} (h:RV w base v l) (o:Obj):RV (w.alloc o) base v l:=World.ownsRow.alloc h o
theorem cell_seven (w1:World) (o:Obj) (l:List Value) (T:TypeId):∀ (j:Nat) (u:Value),l[j]?=some u→((w1.alloc o).alloc (.cells l.toArray T)).cell? ((⟨w1.heap.size+1,0,none⟩:Addr).add j)=some u:=by
 intro j u hj
 have e:(⟨w1.heap.size+1,0,none⟩:Addr).add j=⟨w1.heap.size+1,j,none⟩:=by unfold Addr.add; split <;> simp_all
 rw [e]
 simpa using hj
theorem empty_size (t:ByteArray):t.toList.isEmpty=decide (t.size=0):=by
 have e:t.size=t.data.toList.length:=rfl
 rw [Lib.toList_data,e]
 cases t.data.toList <;> simp
set_option maxHeartbeats 400000 in
set_option maxRecDepth 20000 in
theorem rfields_empty (t:ByteArray) (p:Int) (w:World) (hs:t.size=0) :
  Calls Tryz.prog 111 #[.string t,.int .i64 p,.bool false] w (FsPost (gfFields t p) w):=by
 have e:gfFields t p=some []:=by simp [gfFields,hs]
 rw [e]
 have he:t.toList.isEmpty=true:=by rw [empty_size,hs]; rfl
 clear hs e
 go_enter Tryz.func111,Tryz.ntmps111
 go_wp2
 go_ret2
 exact ⟨_,_,_,rfl,RV.nil _ _,Below.refl _ _⟩
theorem rapp_step {w w1 w2:World} {v v':Value} {l:List GF} {f:GF} {o1 o2:Obj} (V1:RV w1 w.heap.size v l) (B1:Below w.heap.size w w1)
  (hown:w2.ownsRow w.heap.size 124 7 v' (l.length+1) (flatR l++f.cells)) (hg:((w1.alloc o1).alloc o2).grownBy w2 v.ownBlock) :
  RV w2 w.heap.size v' (l++[f])∧Below w.heap.size w w2:=by
 have V2:RV w2 w.heap.size v' (l++[f]):=by simpa [RV,flatR_app,flatR] using hown
 refine ⟨V2,((B1.alloc B1.size o1).alloc (by have:=B1.size; simp; omega) o2).grown hg (by have:=B1.size; simp; omega) (fun k hk=>(World.ownsRow.lt V1 k hk).1)⟩
set_option maxHeartbeats 1000000 in
set_option maxRecDepth 20000 in
theorem rfields_row (t:ByteArray) (p:Int) (w:World) (hs:0 < t.size) (hm:t.size≤1000) (hp:0≤p) (hp':p≤1000) :
  Calls Tryz.prog 111 #[.string t,.int .i64 p,.bool false] w (FsPost (gfFields t p) w):=by
 obtain ⟨i0,hi,hz0,hz1,hz2⟩:=info_parts Tryz.infoRField
 have he:t.toList.isEmpty=false:=by rw [empty_size]; exact decide_eq_false (by omega)
 obtain ⟨R,hR⟩:∃ R,R=gfLoop t p (t.size+1) 0 0 []:=⟨_,rfl⟩
 have e:gfFields t p=R:=by simp only [gfFields]; rw [if_neg (by omega),hR]
 rw [e]
 have HR:Hid (R=gfLoop t p (t.size+1) 0 0 []):=hR
 clear e hR
 go_enter Tryz.func111,Tryz.ntmps111
 go_wp2
 go_loopw [8,9,10] (fun v f i wr=>∃ (k fr:Nat) (l:List GF),k≤t.size+1∧fr≤k∧l.length≤6∧i=.int .i64 k∧f=.int .i64 fr∧Hid (R=gfLoop t p (t.size+1 - k) k fr l)∧RV wr w.heap.size v l∧Below w.heap.size w wr) (fun _ _ i _=>t.size+1 - (intOf i).toNat)
 case atStart=>exact ⟨0,0,[],by omega,by omega,by simp,rfl,rfl,HR,RV.nil _ _,Below.refl _ _⟩
 case round =>
  obtain ⟨k,fr,l,hk,hfr,hl,rfl,rfl,HR',V0,hb⟩:=hrel
  clear HR
  by_cases hend:k=t.size+1
  ·have h2:t.size < k:=by omega
   have HR2:=HR'.out
   have e:t.size+1 - k=0:=by omega
   rw [e,gfLoop] at HR2
   subst HR2
   obtain ⟨ad,cp,rfl⟩:=V0.shape
   clear hend e HR'
   go_wp2
   go_ret2
   exact ⟨_,_,_,rfl,V0,hb⟩
  have hk':k≤t.size:=by omega
  obtain ⟨n',hn'⟩:∃ n',t.size+1 - k=n'+1:=⟨t.size - k,by omega⟩
  have HR2:=HR'.out
  rw [hn',gfLoop] at HR2
  clear HR' hend
  have HN:Hid (t.size+1 - k=n'+1):=hn'
  clear hn'
  by_cases hc:k < t.size∧nextB t k≠44
  ·rw [if_pos hc] at HR2
   have HR:Hid (R=gfLoop t p n' (k+1) fr l):=HR2
   clear HR2
   obtain ⟨hc1,hc2⟩:=hc
   rw [nextB_in hc1] at hc2
   have hc3:(((t[k]'hc1).toNat:Int) != 44)=true:=by simpa using hc2
   clear hc2
   go_wp2
   go_roundw
   case rel=>exact ⟨k+1,fr,l,by omega,by omega,hl,by go_num,rfl,by have:=HN.out; rw [show t.size+1 - (k+1)=n' by omega]; exact HR,V0,hb⟩
   case measure=>simp [intOf]; omega
  ·rw [if_neg hc] at HR2
   have HR:Hid (R=_):=HR2
   clear HR2
   obtain ⟨ad,cp,rfl⟩:=V0.shape
   by_cases hlt:k < t.size
   ·have hc1:(((t[k]'hlt).toNat:Int) != 44)=false:=by
     have:nextB t k=44:=by
      by_cases h:nextB t k=44
      ·exact h
      ·exact absurd ⟨hlt,h⟩ hc
     rw [nextB_in hlt] at this; simp [this]
    clear hc
    cases hfb':fieldB (t.extract fr k) with
    | false =>
     have hfb:Hid (fieldB (t.extract fr k)=false):=hfb'
     have HR2:=HR.out
     rw [if_pos (.inl hfb')] at HR2
     subst HR2
     clear hfb' HR
     go_wp2_with (go_at_call 125; refine (rfield_false (t.extract fr k) (p+fr) wr (by simp; omega) hfb.out).mono ?_; rintro e w1 ⟨x0,x1,x2,rfl,hb1⟩; have V1:=V0.below hb1; have B1:=hb.trans (hb1.mono hb.size); have hs1:w.heap.size≤w1.heap.size:=B1.size; clear hb1)
     go_ret2
     exact ⟨_,_,_,rfl,RV.nil _ _,B1.alloc hs1 _⟩
    | true =>
     have hfb:Hid (fieldB (t.extract fr k)=true):=hfb'
     by_cases h6:l.length=6
     ·have HR2:=HR.out
      rw [if_pos (.inr h6)] at HR2
      subst HR2
      have h6':6≤l.length:=by omega
      clear hfb' HR h6
      go_wp2_with (go_at_call 125; refine (rfield_true (t.extract fr k) (p+fr) wr (by simp; omega) hfb.out).mono ?_; rintro e w1 ⟨rfl,hb1⟩; have V1:=V0.below hb1; have B1:=hb.trans (hb1.mono hb.size); have hs1:w.heap.size≤w1.heap.size:=B1.size; clear hb1)
      go_ret2
      exact ⟨_,_,_,rfl,RV.nil _ _,B1.alloc hs1 _⟩
     ·have HR2:=HR.out
      rw [if_neg (by rw [hfb']; simp [h6])] at HR2
      have HR3:Hid (R=_):=HR2
      have h6':l.length < 6:=by omega
      clear hfb' HR h6 HR2
      go_wp2_with (first | (go_at_call 125; refine (rfield_true (t.extract fr k) (p+fr) wr (by simp; omega) hfb.out).mono ?_; rintro e w1 ⟨rfl,hb1⟩; have V1:=V0.below hb1; have B1:=hb.trans (hb1.mono hb.size); have hs1:w.heap.size≤w1.heap.size:=B1.size; clear hb1) | (at_builtin; refine wpList_append_own _ rfl _ _ 108 rfl w.heap.size 124 i0 (.agg #[.int .u8 0,.int .u8 0,.int .i64 0,.int .i64 0,.bool false,.bool false,.string ⟨#[]⟩]) 7 48 Tryz.underlying108 hi hz0 hz1 hz2 rfl (by decide) _ l.length (flatR l) rfl ((V1.alloc _).alloc _) ⟨w1.heap.size+1,0,none⟩ 1 1 [.int .u8 (nextB (t.extract fr k) 0),.int .u8 (nextB (t.extract fr k) 2),.int .i64 (p+fr),.int .i64 0,.bool false,.bool false,.string ⟨#[]⟩] rfl rfl ?c1 ?c2 ?c3 ?c4 ?c5 ?_))
      case c1=>exact cell_seven _ _ _ _
      case c2=>intro u hu; simp at hu; rcases hu with rfl | rfl | rfl | rfl | rfl | rfl <;> rfl
      case c3=>unfold maxLen; omega
      case c4=>omega
      case c5=>simp; omega
      intro v' w2 hown hgr _
      obtain ⟨V2,B2⟩:=rapp_step (f:=⟨nextB (t.extract fr k) 0,nextB (t.extract fr k) 2,p+fr⟩) V1 B1 hown hgr
      clear hown hgr V1 B1 V0 hb
      go_wp2
      go_roundw
      case rel=>exact ⟨k+1,k+1,l++[⟨nextB (t.extract fr k) 0,nextB (t.extract fr k) 2,p+fr⟩],by omega,by omega,by simp; omega,by go_num,by go_num,by have:=HN.out; rw [show t.size+1 - (k+1)=n' by omega]; exact HR3,V2,B2⟩
      case measure=>simp [intOf]; omega
   ·have hge:t.size≤k:=by omega
    clear hc hlt
    cases hfb':fieldB (t.extract fr k) with
    | false =>
     have hfb:Hid (fieldB (t.extract fr k)=false):=hfb'
     have HR2:=HR.out
     rw [if_pos (.inl hfb')] at HR2
     subst HR2
     clear hfb' HR
     go_wp2_with (go_at_call 125; refine (rfield_false (t.extract fr k) (p+fr) wr (by simp; omega) hfb.out).mono ?_; rintro e w1 ⟨x0,x1,x2,rfl,hb1⟩; have V1:=V0.below hb1; have B1:=hb.trans (hb1.mono hb.size); have hs1:w.heap.size≤w1.heap.size:=B1.size; clear hb1)
     go_ret2
     exact ⟨_,_,_,rfl,RV.nil _ _,B1.alloc hs1 _⟩
    | true =>
     have hfb:Hid (fieldB (t.extract fr k)=true):=hfb'
     by_cases h6:l.length=6
     ·have HR2:=HR.out
      rw [if_pos (.inr h6)] at HR2
      subst HR2
      have h6':6≤l.length:=by omega
      clear hfb' HR h6
      go_wp2_with (go_at_call 125; refine (rfield_true (t.extract fr k) (p+fr) wr (by simp; omega) hfb.out).mono ?_; rintro e w1 ⟨rfl,hb1⟩; have V1:=V0.below hb1; have B1:=hb.trans (hb1.mono hb.size); have hs1:w.heap.size≤w1.heap.size:=B1.size; clear hb1)
      go_ret2
      exact ⟨_,_,_,rfl,RV.nil _ _,B1.alloc hs1 _⟩
     ·have HR2:=HR.out
      rw [if_neg (by rw [hfb']; simp [h6])] at HR2
      have HR3:Hid (R=_):=HR2
      have h6':l.length < 6:=by omega
      clear hfb' HR h6 HR2
      go_wp2_with (first | (go_at_call 125; refine (rfield_true (t.extract fr k) (p+fr) wr (by simp; omega) hfb.out).mono ?_; rintro e w1 ⟨rfl,hb1⟩; have V1:=V0.below hb1; have B1:=hb.trans (hb1.mono hb.size); have hs1:w.heap.size≤w1.heap.size:=B1.size; clear hb1) | (at_builtin; refine wpList_append_own _ rfl _ _ 108 rfl w.heap.size 124 i0 (.agg #[.int .u8 0,.int .u8 0,.int .i64 0,.int .i64 0,.bool false,.bool false,.string ⟨#[]⟩]) 7 48 Tryz.underlying108 hi hz0 hz1 hz2 rfl (by decide) _ l.length (flatR l) rfl ((V1.alloc _).alloc _) ⟨w1.heap.size+1,0,none⟩ 1 1 [.int .u8 (nextB (t.extract fr k) 0),.int .u8 (nextB (t.extract fr k) 2),.int .i64 (p+fr),.int .i64 0,.bool false,.bool false,.string ⟨#[]⟩] rfl rfl ?c1 ?c2 ?c3 ?c4 ?c5 ?_))
      case c1=>exact cell_seven _ _ _ _
      case c2=>intro u hu; simp at hu; rcases hu with rfl | rfl | rfl | rfl | rfl | rfl <;> rfl
      case c3=>unfold maxLen; omega
      case c4=>omega
      case c5=>simp; omega
      intro v' w2 hown hgr _
      obtain ⟨V2,B2⟩:=rapp_step (f:=⟨nextB (t.extract fr k) 0,nextB (t.extract fr k) 2,p+fr⟩) V1 B1 hown hgr
      clear hown hgr V1 B1 V0 hb
      go_wp2
      go_roundw
      case rel=>exact ⟨k+1,k+1,l++[⟨nextB (t.extract fr k) 0,nextB (t.extract fr k) 2,p+fr⟩],by omega,by omega,by simp; omega,by go_num,by go_num,by have:=HN.out; rw [show t.size+1 - (k+1)=n' by omega]; exact HR3,V2,B2⟩
      case measure=>simp [intOf]; omega
theorem rfields_any (t:ByteArray) (p:Int) (w:World) (hm:t.size≤1000) (hp:0≤p) (hp':p≤1000) :
  Calls Tryz.prog 111 #[.string t,.int .i64 p,.bool false] w (FsPost (gfFields t p) w):=by
 by_cases h:t.size=0
 ·exact rfields_empty t p w h
 ·exact rfields_row t p w (by omega) hm hp hp'
end Go.Proofs.YtbgilndohccicaaGreatDoor
namespace Go.Proofs.YtbgilndohccicaaGreatDoor
open Go.RowKit
def gfClass (t:ByteArray) (p:Int):Option (Int×List GF) :=
 if 65≤nextB t 0∧nextB t 0≤90∧nextB t 1=123 then (gfFields (t.extract 2 t.size) (p+1+1)).map (fun l=>(nextB t 0,l)) else none
def ClPost (R:Option (Int×List GF)) (p:Int) (w:World) (e:Ending) (w':World):Prop:=∃ (x0:Int) (a:Option Addr) (n c:Nat),
 e=.returned (.tuple #[.agg #[.int .u8 x0,.int .u8 0,.int .i64 p,.int .i64 0,.slice a n c],.bool R.isSome]) ∧
  (∀ r,R=some r→x0=r.1∧RV w' w.heap.size (.slice a n c) r.2)∧Below w.heap.size w w'
def Brace (t:ByteArray) (k:Nat) (b:Int):Prop :=
 (b=-1∧∀ j,k≤j→nextB t j≠123)∨∃ j:Nat,b=j∧k≤j∧j < t.size∧nextB t j=123∧∀ i,k≤i→i < j→nextB t i≠123
theorem Brace.start (t:ByteArray):Brace t t.size (-1):=.inl ⟨rfl,fun j hj=>by rw [nextB_out (by omega)]; omega⟩
theorem Brace.hit {t:ByteArray} {k:Nat} (hk:k < t.size) (h:nextB t k=123):Brace t k k:=.inr ⟨k,rfl,Nat.le_refl _,hk,h,fun i h1 h2=>by omega⟩
theorem Brace.miss {t:ByteArray} {k:Nat} {b:Int} (hb:Brace t (k+1) b) (h:nextB t k≠123):Brace t k b:=by
 rcases hb with ⟨rfl,hn⟩ | ⟨j,rfl,h1,h2,h3,h4⟩
 ·refine .inl ⟨rfl,fun j hj=>?_⟩
  rcases Nat.eq_or_lt_of_le hj with rfl | h'
  ·exact h
  ·exact hn j h'
 ·refine .inr ⟨j,rfl,by omega,h2,h3,fun i hi hij=>?_⟩
  rcases Nat.eq_or_lt_of_le hi with rfl | h'
  ·exact h
  ·exact h4 i h' hij
theorem gfClass_low {t:ByteArray} {p b:Int} (hb:Brace t 0 b) (h:b < 1):gfClass t p=none:=by
 simp only [gfClass]
 rw [if_neg]
 rintro ⟨h1,h2,h3⟩
 rcases hb with ⟨rfl,hn⟩ | ⟨j,rfl,_,_,h4,_⟩
 ·exact hn 1 (by omega) h3
 ·have:j=0:=by omega
  subst this; omega
theorem gfClass_letter {t:ByteArray} {p:Int} (h:¬ (65≤nextB t 0∧nextB t 0≤90)):gfClass t p=none:=by
 simp only [gfClass]
 rw [if_neg]
 rintro ⟨h1,h2,_⟩
 exact h ⟨h1,h2⟩
theorem gfClass_far {t:ByteArray} {p b:Int} (hb:Brace t 0 b) (h:2≤b):gfClass t p=none:=by
 simp only [gfClass]
 rw [if_neg]
 rintro ⟨h1,h2,h3⟩
 rcases hb with ⟨rfl,hn⟩ | ⟨j,rfl,_,_,_,h5⟩
 ·omega
 ·exact h5 1 (by omega) (by omega) h3
set_option maxHeartbeats 1000000 in
set_option maxRecDepth 20000 in
theorem rclass_any (t:ByteArray) (p:Int) (w:World) (hm:t.size≤1000) (hp:0≤p) (hp':p≤900) :
  Calls Tryz.prog 90 #[.string t,.int .i64 p,.bool false] w (ClPost (gfClass t p) p w):=by
 go_enter Tryz.func90,Tryz.ntmps90
 go_wp2
 go_loop [9,10] (fun b i=>∃ (k:Nat) (bb:Int),k≤t.size∧i=.int .i64 ((k:Int) - 1)∧b=.int .i64 bb∧Brace t k bb) (fun _ i=>(intOf i+1).toNat)
 case atStart=>exact ⟨t.size,-1,Nat.le_refl _,rfl,rfl,Brace.start t⟩
 case round =>
  obtain ⟨k,bb,hk,rfl,rfl,hB⟩:=hrel
  rcases k with _ | k
  ·clear hk
   by_cases hb1:bb < 1
   ·have HR:Hid (gfClass t p=none):=gfClass_low hB hb1
    clear hB
    go_wp2
    refine bodyPost_ret (v:=.tuple #[.agg #[.int .u8 0,.int .u8 0,.int .i64 p,.int .i64 0,.slice none 0 0],.bool false]) (by simp [results,Tryz.results90,go_sem]) rfl ⟨_,_,_,_,by rw [HR.out]; rfl,?_,?_⟩
    ·intro r hr; rw [HR.out] at hr; cases hr
    ·exact ((Below.refl _ _).alloc (Nat.le_refl _) _).alloc (by simp) _
   obtain ⟨j,rfl,hj⟩:∃ j:Nat,bb=j∧j < t.size:=by
    rcases hB with ⟨rfl,_⟩ | ⟨j,rfl,_,h,_⟩
    ·omega
    ·exact ⟨j,rfl,h⟩
   have g0:0 < t.size:=by omega
   have hj1:1≤j:=by omega
   cases am':(decide (65≤nextB t 0) && decide (nextB t 0≤90)) with
   | false =>
    have HR:Hid (gfClass t p=none):=gfClass_letter (by simp at am'; omega)
    have am:=am'
    rw [nextB_in g0] at am
    clear hB am'
    go_wp2_with (go_at_call 110; refine (among_any _ _ _ _ false am).mono ?_; rintro e w' ⟨rfl,rfl⟩)
    refine bodyPost_ret (v:=.tuple #[.agg #[.int .u8 0,.int .u8 0,.int .i64 p,.int .i64 0,.slice none 0 0],.bool false]) (by simp [results,Tryz.results90,go_sem]) rfl ⟨_,_,_,_,by rw [HR.out]; rfl,?_,?_⟩
    ·intro r hr; rw [HR.out] at hr; cases hr
    ·exact ((Below.refl _ _).alloc (Nat.le_refl _) _).alloc (by simp) _
   | true =>
    have am:=am'
    rw [nextB_in g0] at am
    by_cases hj2:2≤j
    ·have HR:Hid (gfClass t p=none):=gfClass_far hB (by omega)
     have hne:(t.extract 1 j).toList.isEmpty=false:=by rw [empty_size]; exact decide_eq_false (by simp; omega)
     clear hB am'
     go_wp2_with (go_at_call 110; refine (among_any _ _ _ _ true am).mono ?_; rintro e w' ⟨rfl,rfl⟩)
     refine bodyPost_ret (v:=.tuple #[.agg #[.int .u8 (t[0]'g0).toNat,.int .u8 0,.int .i64 p,.int .i64 0,.slice none 0 0],.bool false]) (by simp [results,Tryz.results90,go_sem]) rfl ⟨_,_,_,_,by rw [HR.out]; rfl,?_,?_⟩
     ·intro r hr; rw [HR.out] at hr; cases hr
     ·exact ((Below.refl _ _).alloc (Nat.le_refl _) _).alloc (by simp) _
    ·have hj3:j=1:=by omega
     subst hj3
     have h123:nextB t 1=123:=by
      rcases hB with ⟨h,_⟩ | ⟨j,h,_,_,h4,_⟩
      ·omega
      ·have:j=1:=by omega
       subst this; exact h4
     have HR:Hid (gfClass t p=(gfFields (t.extract 2 t.size) (p+1+1)).map (fun l=>(nextB t 0,l))):=by
      show gfClass t p=_
      simp only [gfClass]
      rw [if_pos (by simp at am'; exact ⟨am'.1,am'.2,h123⟩)]
     have e0:Hid (nextB t 0=((t[0]'g0).toNat:Int)):=nextB_in g0
     have hne:(t.extract 1 1).toList.isEmpty=true:=by rw [empty_size]; simp
     clear hB am' h123 hb1 hj2
     go_wp2_with (first | (go_at_call 110; refine (among_any _ _ _ _ true am).mono ?_; rintro e w' ⟨rfl,rfl⟩) | (go_at_call 111; refine (rfields_any (t.extract 2 t.size) (p+1+1) _ (by simp; omega) (by omega) (by omega)).mono ?_; rintro e w1 ⟨a,n,c,rfl,V1,hb1⟩; obtain ⟨lc1,lf1⟩:=bcell hb1; have hz1:w.heap.size+1 < w1.heap.size:=by have:=hb1.size; simp at this; omega))
     have d0:w1.cell? ⟨w.heap.size,0,none⟩=some (.int .u8 0):=by go_simp
     have d1:w1.cell? ⟨w.heap.size,1,none⟩=some (.int .u8 0):=by go_simp
     have d2:w1.cell? ⟨w.heap.size,2,none⟩=some (.int .i64 0):=by go_simp
     have d3:w1.cell? ⟨w.heap.size,3,none⟩=some (.int .i64 0):=by go_simp
     have d4:w1.cell? ⟨w.heap.size,4,none⟩=some (.slice none 0 0):=by go_simp
     have B1:Below w.heap.size w w1:=(((Below.refl _ _).alloc (Nat.le_refl _) _).alloc (by simp) _).trans (hb1.mono (by simp; omega))
     refine bodyPost_ret (v:=.tuple #[.agg #[.int .u8 (t[0]'g0).toNat,.int .u8 0,.int .i64 p,.int .i64 0,.slice a n c],.bool (gfFields (t.extract 2 t.size) (p+1+1)).isSome]) (by simp [results,Tryz.results90,go_sem,d0,d1,d2,d3,d4]) rfl ⟨(t[0]'g0).toNat,a,n,c,by rw [HR.out]; simp,?_,?_⟩
     ·intro r hr
      rw [HR.out] at hr
      obtain ⟨l,hl,rfl⟩:=Option.map_eq_some_iff.1 hr
      refine ⟨e0.out.symm,?_⟩
      rw [hl] at V1
      have V2:RV w1 (w.heap.size+2) (.slice a n c) l:=by simpa using V1
      exact row_mono (row_kept (row_kept (row_kept (row_kept (row_kept (row_kept V2 (gb_set _ _ _ _) (by omega)) (gb_set _ _ _ _) (by omega)) (gb_set _ _ _ _) (by omega)) (gb_set _ _ _ _) (by omega)) (gb_set _ _ _ _) (by omega)) (gb_set _ _ _ _) (by omega)) (by omega)
     ·exact (((((B1.setCell (by show _≤w.heap.size+1; omega) _).setCell (Nat.le_refl _) _).setCell (Nat.le_refl _) _).setCell (Nat.le_refl _) _).setCell (Nat.le_refl _) _).setCell (Nat.le_refl _) _
  ·have hlt:k < t.size:=by omega
   by_cases h:nextB t k=123
   ·have hB':=Brace.hit hlt h
    rw [nextB_in hlt] at h
    go_wp2
    go_round
    case rel=>exact ⟨k,k,by omega,rfl,by go_num,hB'⟩
    case measure=>simp [intOf]
   ·have hB':=hB.miss h
    rw [nextB_in hlt] at h
    have h':(((t[k]'hlt).toNat:Int)==123)=false:=by simpa using h
    go_wp2
    go_round
    case rel=>exact ⟨k,bb,by omega,by go_num,rfl,hB'⟩
    case measure=>simp [intOf]
end Go.Proofs.YtbgilndohccicaaGreatDoor
namespace Go.Proofs.YtbgilndohccicaaGreatDoor
open Go.RowKit
theorem Tryz.infoRClass:(Tryz.prog.info? 140).map (fun i=>(i.zero,i.size,i.bytes))=some (some (.agg #[.int .u8 0,.int .u8 0,.int .i64 0,.int .i64 0,.slice none 0 0]),5,48):=by kernel_rfl
structure GC where
 n:Int
 p:Nat
 l:List GF
structure GV where
 n:Int
 p:Nat
 v:SV
def GV.cells (f:GV):List Value:=[.int .u8 f.n,.int .u8 0,.int .i64 f.p,.int .i64 0,.slice f.v.a f.v.n f.v.c]
def flatG (l:List GV):List Value:=l.flatMap GV.cells
theorem flatG_app (a b:List GV):flatG (a++b)=flatG a++flatG b:=by simp [flatG]
structure RCls (w:World) (base:Nat) (v:Value) (vs:List GV) (cs:List GC):Prop where
 row:w.ownsRow base 140 5 v vs.length (flatG vs)
 len:vs.length=cs.length
 fld:∀ (i:Nat) (p:GV) (c:GC),vs[i]?=some p→cs[i]?=some c→p.n=c.n∧p.p=c.p∧RV w base p.v.val c.l
theorem RCls.nil (w:World) (base:Nat):RCls w base (.slice none 0 0) [] []:=⟨World.ownsRow_nil _ _ _ _,rfl,fun i p c h1 _=>by simp at h1⟩
theorem RCls.below {w w':World} {base:Nat} {v:Value} {vs:List GV} {cs:List GC} (h:RCls w base v vs cs) (hb:Below w.heap.size w w'):RCls w' base v vs cs :=
 ⟨World.ownsRow.kept h.row (gb_below hb none) (by cases hv:v.ownBlock <;> simp),h.len,fun i p c h1 h2=>⟨(h.fld i p c h1 h2).1,(h.fld i p c h1 h2).2.1,(h.fld i p c h1 h2).2.2.below hb⟩⟩
theorem RCls.shape {w:World} {base:Nat} {v:Value} {vs:List GV} {cs:List GC} (h:RCls w base v vs cs):∃ a c,v=.slice a cs.length c:=by
 rw [← h.len]
 rcases h.row.2 with ⟨rfl,hn⟩ | ⟨g,cap,cur,rfl,_⟩
 ·exact ⟨none,0,by rw [hn]⟩
 ·exact ⟨_,_,rfl⟩
theorem gapp_step {w wr w1 w2:World} {v v':Value} {vs:List GV} {cs:List GC} {x:Int} {fr:Nat} {sv:SV} {l:List GF} {o1 o2:Obj} (V1:RCls w1 w.heap.size v vs cs) (B1:Below w.heap.size w w1) (hwr:w.heap.size≤wr.heap.size) (F1:RV w1 wr.heap.size sv.val l)
  (hown:w2.ownsRow w.heap.size 140 5 v' (vs.length+1) (flatG vs++[.int .u8 x,.int .u8 0,.int .i64 fr,.int .i64 0,.slice sv.a sv.n sv.c])) (hg:((w1.alloc o1).alloc o2).grownBy w2 v.ownBlock) :
  RCls w2 w.heap.size v' (vs++[⟨x,fr,sv⟩]) (cs++[⟨x,fr,l⟩])∧Below w.heap.size w w2:=by
 have hg1:w1.grownBy w2 v.ownBlock:=gb_trans (gb_trans (World.grownBy_alloc w1 o1 _) (World.grownBy_alloc _ o2 _)) hg
 have hfk:∀ (x:SV) f,RV w1 w.heap.size x.val f→RV w2 w.heap.size x.val f:=fun x f h=>World.ownsRow.kept h hg1 (row_apart h V1.row (by decide))
 refine ⟨⟨?_,by simp [V1.len],?_⟩,((B1.alloc B1.size o1).alloc (by have:=B1.size; simp; omega) o2).grown hg (by have:=B1.size; simp; omega) (fun k hk=>(World.ownsRow.lt V1.row k hk).1)⟩
 ·simpa [flatG_app,flatG,GV.cells] using hown
 ·intro i p c h1 h2
  have hl:=V1.len
  rcases Nat.lt_or_ge i vs.length with hi | hi
  ·rw [List.getElem?_append_left hi] at h1
   rw [List.getElem?_append_left (by omega)] at h2
   have:=V1.fld i p c h1 h2
   exact ⟨this.1,this.2.1,hfk _ _ this.2.2⟩
  ·rw [List.getElem?_append_right hi] at h1
   rw [List.getElem?_append_right (by omega)] at h2
   have hi0:i - vs.length=0:=by
    have:=(List.getElem?_eq_some_iff.1 h1).1; simp at this; omega
   have hj0:i - cs.length=0:=by omega
   rw [hi0] at h1; rw [hj0] at h2
   simp at h1 h2
   subst h1; subst h2
   exact ⟨rfl,rfl,hfk _ _ (row_mono F1 hwr)⟩
def gaLoop (s:ByteArray):Nat→Nat→Nat→List GC→Option (List GC×Nat)
 | 0,_,fr,l=>some (l,fr)
 | n+1,i,fr,l =>
  if nextB s i=125 then
   match gfClass (s.extract fr i) fr with
   | none=>none
   | some r=>if l.length=6 then none else gaLoop s n (i+1) (i+1) (l++[⟨r.1,fr,r.2⟩])
  else gaLoop s n (i+1) fr l
def gaAll (s:ByteArray):Option (List GC) :=
 match gaLoop s s.size 0 0 [] with
 | none=>none
 | some r=>if 0 < r.1.length∧r.2=s.size then some r.1 else none
def AllPost (R:Option (List GC)) (w:World) (e:Ending) (w':World):Prop:=∃ (a:Option Addr) (n c:Nat),
 e=.returned (.tuple #[.slice a n c,.bool R.isSome])∧(∀ cs,R=some cs→∃ vs,RCls w' w.heap.size (.slice a n c) vs cs)∧Below w.heap.size w w'
theorem gaAll_none {s:ByteArray} (h:gaLoop s s.size 0 0 []=none):gaAll s=none:=by simp only [gaAll]; rw [h]
theorem gaAll_some {s:ByteArray} {l:List GC} {fr:Nat} (h:gaLoop s s.size 0 0 []=some (l,fr)):gaAll s=if 0 < l.length∧fr=s.size then some l else none:=by simp only [gaAll]; rw [h]
set_option maxHeartbeats 1000000 in
set_option maxRecDepth 20000 in
theorem all_any (s:ByteArray) (w:World) (hm:s.size≤800) :
  Calls Tryz.prog 55 #[.string s,.bool false] w (AllPost (gaAll s) w):=by
 obtain ⟨i0,hi,hz0,hz1,hz2⟩:=info_parts Tryz.infoRClass
 go_enter Tryz.func55,Tryz.ntmps55
 go_wp2
 go_loopw [6,7,8] (fun v f i wr=>∃ (k fr:Nat) (vs:List GV) (l:List GC),k≤s.size∧fr≤k∧l.length≤6∧i=.int .i64 k∧f=.int .i64 fr∧Hid (gaLoop s s.size 0 0 []=gaLoop s (s.size - k) k fr l)∧RCls wr w.heap.size v vs l∧Below w.heap.size w wr) (fun _ _ i _=>s.size - (intOf i).toNat)
 case atStart=>exact ⟨0,0,[],[],by omega,by omega,by simp,rfl,rfl,rfl,RCls.nil _ _,Below.refl _ _⟩
 case round =>
  obtain ⟨k,fr,vs,l,hk,hfr,hl,rfl,rfl,HR',V0,hb⟩:=hrel
  obtain ⟨ad,cp,rfl⟩:=V0.shape
  by_cases hend:k=s.size
  ·have HR2:=HR'.out
   have e:s.size - k=0:=by omega
   rw [e,gaLoop] at HR2
   have HA:Hid _:=gaAll_some HR2
   have h2:s.size≤k:=by omega
   clear hend e HR' HR2
   by_cases hl0:0 < l.length
   ·by_cases hfe:fr=s.size
    ·have hfe':((fr:Int)==(s.size:Int))=true:=by simp [hfe]
     have HA2:Hid (gaAll s=some l):=by show gaAll s=some l; rw [HA.out,if_pos ⟨hl0,hfe⟩]
     clear hfe HA
     go_wp2
     go_ret2
     exact ⟨_,_,_,by rw [HA2.out]; rfl,fun cs hcs=>by rw [HA2.out] at hcs; injection hcs with hcs; subst hcs; exact ⟨vs,V0⟩,hb⟩
    ·have hfe':((fr:Int)==(s.size:Int))=false:=by simp; omega
     have HA2:Hid (gaAll s=none):=by show gaAll s=none; rw [HA.out,if_neg (fun h=>hfe h.2)]
     clear hfe HA
     go_wp2
     go_ret2
     exact ⟨_,_,_,by rw [HA2.out]; rfl,(fun cs hcs=>by rw [HA2.out] at hcs; cases hcs),hb⟩
   ·have HA2:Hid (gaAll s=none):=by show gaAll s=none; rw [HA.out,if_neg (fun h=>hl0 h.1)]
    have hl1:l.length≤0:=by omega
    clear HA hl0
    go_wp2
    go_ret2
    exact ⟨_,_,_,by rw [HA2.out]; rfl,(fun cs hcs=>by rw [HA2.out] at hcs; cases hcs),hb⟩
  have hlt:k < s.size:=by omega
  obtain ⟨n',hn'⟩:∃ n',s.size - k=n'+1:=⟨s.size - k - 1,by omega⟩
  have HR2:=HR'.out
  rw [hn',gaLoop] at HR2
  clear HR' hend
  have HN:Hid (s.size - k=n'+1):=hn'
  clear hn'
  by_cases hc:nextB s k=125
  ·rw [if_pos hc] at HR2
   have hc1:(((s[k]'hlt).toNat:Int) != 125)=false:=by rw [nextB_in hlt] at hc; simp [hc]
   clear hc
   cases hcl':gfClass (s.extract fr k) fr with
   | none =>
    rw [hcl'] at HR2
    have HA2:Hid (gaAll s=none):=gaAll_none HR2
    have hcl:Hid (gfClass (s.extract fr k) fr=none):=hcl'
    clear HR2 hcl'
    go_wp2_with (go_at_call 90; refine (rclass_any (s.extract fr k) fr wr (by simp; omega) (by omega) (by omega)).mono ?_; rw [hcl.out]; rintro e w1 ⟨x0,sa,sn,sc,rfl,hx,hb1⟩; have V1:=V0.below hb1; have B1:=hb.trans (hb1.mono hb.size); have hs1:w.heap.size≤w1.heap.size:=B1.size; have hs2:Hid (wr.heap.size≤w1.heap.size):=hb1.size; have HX:Hid _:=hx; clear hb1 hx)
    go_ret2
    exact ⟨_,_,_,by rw [HA2.out]; rfl,(fun cs hcs=>by rw [HA2.out] at hcs; cases hcs),B1.alloc hs1 _⟩
   | some r =>
    rw [hcl'] at HR2
    have hcl:Hid (gfClass (s.extract fr k) fr=some r):=hcl'
    clear hcl'
    by_cases h6:l.length=6
    ·simp only [h6,if_true] at HR2
     have HA2:Hid (gaAll s=none):=gaAll_none HR2
     have h6':6≤l.length:=by omega
     clear HR2 h6
     go_wp2_with (go_at_call 90; refine (rclass_any (s.extract fr k) fr wr (by simp; omega) (by omega) (by omega)).mono ?_; rw [hcl.out]; rintro e w1 ⟨x0,sa,sn,sc,rfl,hx,hb1⟩; have V1:=V0.below hb1; have B1:=hb.trans (hb1.mono hb.size); have hs1:w.heap.size≤w1.heap.size:=B1.size; have hs2:Hid (wr.heap.size≤w1.heap.size):=hb1.size; have HX:Hid _:=hx; clear hb1 hx)
     go_ret2
     exact ⟨_,_,_,by rw [HA2.out]; rfl,(fun cs hcs=>by rw [HA2.out] at hcs; cases hcs),B1.alloc hs1 _⟩
    ·simp only [h6,if_false] at HR2
     have HR3:Hid _:=HR2
     have h6':l.length < 6:=by omega
     have hvl:=V0.len
     have HVL:Hid (vs.length=l.length):=hvl
     clear HR2 h6 hvl
     go_wp2_with (first | (go_at_call 90; refine (rclass_any (s.extract fr k) fr wr (by simp; omega) (by omega) (by omega)).mono ?_; rw [hcl.out]; rintro e w1 ⟨x0,sa,sn,sc,rfl,hx,hb1⟩; have V1:=V0.below hb1; have B1:=hb.trans (hb1.mono hb.size); have hs1:w.heap.size≤w1.heap.size:=B1.size; have hs2:Hid (wr.heap.size≤w1.heap.size):=hb1.size; have HX:Hid _:=hx; clear hb1 hx) | (at_builtin; refine wpList_append_own _ rfl _ _ 59 rfl w.heap.size 140 i0 (.agg #[.int .u8 0,.int .u8 0,.int .i64 0,.int .i64 0,.slice none 0 0]) 5 48 Tryz.underlying59 hi hz0 hz1 hz2 rfl (by decide) _ vs.length (flatG vs) rfl ((V1.row.alloc _).alloc _) ⟨w1.heap.size+1,0,none⟩ 1 1 [.int .u8 x0,.int .u8 0,.int .i64 fr,.int .i64 0,.slice sa sn sc] rfl rfl ?c1 ?c2 ?c3 ?c4 ?c5 ?_))
     case c1=>exact cell_seven _ _ _ _
     case c2=>intro u hu; simp at hu; rcases hu with rfl | rfl | rfl | rfl | rfl <;> rfl
     case c3=>have:=HVL.out; unfold maxLen; omega
     case c4=>have:=HVL.out; omega
     case c5=>simp; omega
     intro v' w2 hown hgr _
     obtain ⟨hx0,hxv⟩:=HX.out r rfl
     obtain ⟨V2,B2⟩:=gapp_step (sv:=⟨sa,sn,sc⟩) V1 B1 hb.size hxv hown hgr
     clear hown hgr V1 B1 V0 hb HX hxv
     go_wp2
     go_roundw
     case rel=>exact ⟨k+1,k+1,_,_,by omega,by omega,by simp; omega,by go_num,by go_num,by have:=HN.out; rw [show s.size - (k+1)=n' by omega,hx0]; exact HR3,V2,B2⟩
     case measure=>simp [intOf]; omega
  ·rw [if_neg hc] at HR2
   have HR:Hid _:=HR2
   clear HR2
   rw [nextB_in hlt] at hc
   have hc3:(((s[k]'hlt).toNat:Int) != 125)=true:=by simpa using hc
   clear hc
   go_wp2
   go_roundw
   case rel=>exact ⟨k+1,fr,vs,l,by omega,by omega,hl,by go_num,rfl,by have:=HN.out; rw [show s.size - (k+1)=n' by omega]; exact HR,V0,hb⟩
   case measure=>simp [intOf]; omega
end Go.Proofs.YtbgilndohccicaaGreatDoor
