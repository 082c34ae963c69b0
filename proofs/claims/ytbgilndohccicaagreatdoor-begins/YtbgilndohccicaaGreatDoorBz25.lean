import Derived.Test.YtbgilndohccicaaGreatDoorBz24
import Derived.Test.YtbgilndohccicaaGreatDoorBz07
namespace Go.Proofs.YtbgilndohccicaaGreatDoor
open Go.RowKit
theorem ufield_some (t:ByteArray) (p:Int) (w:World) (hm:t.size≤1000) (hp:0≤p) (hp':p≤1000) (g:GU) (hf:fieldU t p=some g) :
  Calls Tryz.prog 125 #[.string t,.int .i64 p,.bool true] w fun e w'=>e=.returned (.tuple #[.agg #[.int .u8 g.n,.int .u8 g.k,.int .i64 g.p,.int .i64 g.sa,.bool g.sm,.bool g.bg,.string g.su],.bool true])∧Below w.heap.size w w':=by
 refine (ufield_any t p w hm hp hp').mono ?_
 rw [hf]
 rintro e w' ⟨g',rfl,hg,hb⟩
 rw [hg g rfl]
 exact ⟨rfl,hb⟩
theorem ufield_none (t:ByteArray) (p:Int) (w:World) (hm:t.size≤1000) (hp:0≤p) (hp':p≤1000) (hf:fieldU t p=none) :
  Calls Tryz.prog 125 #[.string t,.int .i64 p,.bool true] w fun e w'=>∃ (x0 x1 x2 x3:Int) (x4 x5:Bool) (x6:ByteArray),e=.returned (.tuple #[.agg #[.int .u8 x0,.int .u8 x1,.int .i64 x2,.int .i64 x3,.bool x4,.bool x5,.string x6],.bool false])∧Below w.heap.size w w':=by
 refine (ufield_any t p w hm hp hp').mono ?_
 rw [hf]
 rintro e w' ⟨g',rfl,hg,hb⟩
 exact ⟨g'.n,g'.k,g'.p,g'.sa,g'.sm,g'.bg,g'.su,rfl,hb⟩
def flatU (l:List GU):List Value:=l.flatMap GU.cells
theorem flatU_app (a b:List GU):flatU (a++b)=flatU a++flatU b:=by simp [flatU]
def UV (w:World) (base:Nat) (v:Value) (l:List GU):Prop:=w.ownsRow base 124 7 v l.length (flatU l)
def ufLoop (t:ByteArray) (p:Int):Nat→Nat→Nat→List GU→Option (List GU)
 | 0,_,_,l=>some l
 | n+1,i,fr,l =>
  if i < t.size∧nextB t i≠44 then ufLoop t p n (i+1) fr l
  else match fieldU (t.extract fr i) (p+fr) with
   | none=>none
   | some g=>if l.length=6 then none else ufLoop t p n (i+1) (i+1) (l++[g])
def ufFields (t:ByteArray) (p:Int):Option (List GU):=if t.size=0 then some [] else ufLoop t p (t.size+1) 0 0 []
def UsPost (R:Option (List GU)) (w:World) (e:Ending) (w':World):Prop:=∃ (a:Option Addr) (n c:Nat),
 e=.returned (.tuple #[.slice a n c,.bool R.isSome])∧UV w' w.heap.size (.slice a n c) (R.getD [])∧Below w.heap.size w w'
theorem UV.shape {w:World} {base:Nat} {v:Value} {l:List GU} (h:UV w base v l):∃ a c,v=.slice a l.length c:=by
 rcases h.2 with ⟨rfl,hn⟩ | ⟨g,cap,cur,rfl,_⟩
 ·exact ⟨none,0,by rw [hn]⟩
 ·exact ⟨_,_,rfl⟩
theorem UV.nil (w:World) (base:Nat):UV w base (.slice none 0 0) []:=World.ownsRow_nil _ _ _ _
theorem UV.below {w w':World} {base:Nat} {v:Value} {l:List GU} (h:UV w base v l) (hb:Below w.heap.size w w'):UV w' base v l:=World.ownsRow.kept h (gb_below hb none) (by cases hv:v.ownBlock <;> simp)
theorem UV.alloc {w:World} {base:Nat} {v:Value} {l:List GU} (h:UV w base v l) (o:Obj):UV (w.alloc o) base v l:=World.ownsRow.alloc h o
set_option maxHeartbeats 400000 in
set_option maxRecDepth 20000 in
theorem ufields_empty (t:ByteArray) (p:Int) (w:World) (hs:t.size=0) :
  Calls Tryz.prog 111 #[.string t,.int .i64 p,.bool true] w (UsPost (ufFields t p) w):=by
 have e:ufFields t p=some []:=by simp [ufFields,hs]
 rw [e]
 have he:t.toList.isEmpty=true:=by rw [empty_size,hs]; rfl
 clear hs e
 go_enter Tryz.func111,Tryz.ntmps111
 go_wp2
 go_ret2
 exact ⟨_,_,_,rfl,UV.nil _ _,Below.refl _ _⟩
theorem uapp_step {w w1 w2:World} {v v':Value} {l:List GU} {f:GU} {o1 o2:Obj} (V1:UV w1 w.heap.size v l) (B1:Below w.heap.size w w1)
  (hown:w2.ownsRow w.heap.size 124 7 v' (l.length+1) (flatU l++f.cells)) (hg:((w1.alloc o1).alloc o2).grownBy w2 v.ownBlock) :
  UV w2 w.heap.size v' (l++[f])∧Below w.heap.size w w2:=by
 have V2:UV w2 w.heap.size v' (l++[f]):=by simpa [UV,flatU_app,flatU] using hown
 refine ⟨V2,((B1.alloc B1.size o1).alloc (by have:=B1.size; simp; omega) o2).grown hg (by have:=B1.size; simp; omega) (fun k hk=>(World.ownsRow.lt V1 k hk).1)⟩
set_option maxHeartbeats 1000000 in
set_option maxRecDepth 20000 in
theorem ufields_row (t:ByteArray) (p:Int) (w:World) (hs:0 < t.size) (hm:t.size≤400) (hp:0≤p) (hp':p≤500) :
  Calls Tryz.prog 111 #[.string t,.int .i64 p,.bool true] w (UsPost (ufFields t p) w):=by
 obtain ⟨i0,hi,hz0,hz1,hz2⟩:=info_parts Tryz.infoRField
 have he:t.toList.isEmpty=false:=by rw [empty_size]; exact decide_eq_false (by omega)
 obtain ⟨R,hR⟩:∃ R,R=ufLoop t p (t.size+1) 0 0 []:=⟨_,rfl⟩
 have e:ufFields t p=R:=by simp only [ufFields]; rw [if_neg (by omega),hR]
 rw [e]
 have HR:Hid (R=ufLoop t p (t.size+1) 0 0 []):=hR
 clear e hR
 go_enter Tryz.func111,Tryz.ntmps111
 go_wp2
 go_loopw [8,9,10] (fun v f i wr=>∃ (k fr:Nat) (l:List GU),k≤t.size+1∧fr≤k∧l.length≤6∧i=.int .i64 k∧f=.int .i64 fr∧Hid (R=ufLoop t p (t.size+1 - k) k fr l)∧UV wr w.heap.size v l∧Below w.heap.size w wr) (fun _ _ i _=>t.size+1 - (intOf i).toNat)
 case atStart=>exact ⟨0,0,[],by omega,by omega,by simp,rfl,rfl,HR,UV.nil _ _,Below.refl _ _⟩
 case round =>
  obtain ⟨k,fr,l,hk,hfr,hl,rfl,rfl,HR',V0,hb⟩:=hrel
  clear HR
  by_cases hend:k=t.size+1
  ·have h2:t.size < k:=by omega
   have HR2:=HR'.out
   have e:t.size+1 - k=0:=by omega
   rw [e,ufLoop] at HR2
   subst HR2
   obtain ⟨ad,cp,rfl⟩:=V0.shape
   clear hend e HR'
   go_wp2
   go_ret2
   exact ⟨_,_,_,rfl,V0,hb⟩
  have hk':k≤t.size:=by omega
  obtain ⟨n',hn'⟩:∃ n',t.size+1 - k=n'+1:=⟨t.size - k,by omega⟩
  have HR2:=HR'.out
  rw [hn',ufLoop] at HR2
  clear HR' hend
  have HN:Hid (t.size+1 - k=n'+1):=hn'
  clear hn'
  by_cases hc:k < t.size∧nextB t k≠44
  ·rw [if_pos hc] at HR2
   have HR:Hid (R=ufLoop t p n' (k+1) fr l):=HR2
   clear HR2
   obtain ⟨hc1,hc2⟩:=hc
   rw [nextB_in hc1] at hc2
   have hc3:(((t[k]'hc1).toNat:Int) != 44)=true:=by simpa using hc2
   clear hc2
   go_wp2
   go_roundw
   case rel=>exact ⟨k+1,fr,l,by omega,by omega,hl,by go_num,rfl,by have:=HN.out; rw [show t.size+1 - (k+1)=n' by omega]; exact HR,V0,hb⟩
   case measure=>simp [intOf]; omega
  ·rw [if_neg hc] at HR2
   have HR:Hid (R=_):=HR2
   clear HR2
   obtain ⟨ad,cp,rfl⟩:=V0.shape
   by_cases hlt:k < t.size
   ·have hc1:(((t[k]'hlt).toNat:Int) != 44)=false:=by
     have:nextB t k=44:=by
      by_cases h:nextB t k=44
      ·exact h
      ·exact absurd ⟨hlt,h⟩ hc
     rw [nextB_in hlt] at this; simp [this]
    clear hc
    cases hfb':fieldU (t.extract fr k) (p+fr) with
    | none =>
     have hfb:Hid (fieldU (t.extract fr k) (p+fr)=none):=hfb'
     have HR2:=HR.out
     rw [hfb'] at HR2
     simp only [] at HR2
     subst HR2
     clear hfb' HR
     go_wp2_with (go_at_call 125; refine (ufield_none (t.extract fr k) (p+fr) wr (by simp; omega) (by omega) (by omega) hfb.out).mono ?_; rintro e w1 ⟨x0,x1,x2,x3,x4,x5,x6,rfl,hb1⟩; have V1:=V0.below hb1; have B1:=hb.trans (hb1.mono hb.size); have hs1:w.heap.size≤w1.heap.size:=B1.size; clear hb1)
     go_ret2
     exact ⟨_,_,_,rfl,UV.nil _ _,B1.alloc hs1 _⟩
    | some g =>
     have hfb:Hid (fieldU (t.extract fr k) (p+fr)=some g):=hfb'
     by_cases h6:l.length=6
     ·have HR2:=HR.out
      rw [hfb'] at HR2
      simp only [h6,if_true] at HR2
      subst HR2
      have h6':6≤l.length:=by omega
      clear hfb' HR h6
      go_wp2_with (go_at_call 125; refine (ufield_some (t.extract fr k) (p+fr) wr (by simp; omega) (by omega) (by omega) g hfb.out).mono ?_; rintro e w1 ⟨rfl,hb1⟩; have V1:=V0.below hb1; have B1:=hb.trans (hb1.mono hb.size); have hs1:w.heap.size≤w1.heap.size:=B1.size; clear hb1)
      go_ret2
      exact ⟨_,_,_,rfl,UV.nil _ _,B1.alloc hs1 _⟩
     ·have HR2:=HR.out
      rw [hfb'] at HR2
      simp only [h6,if_false] at HR2
      have HR3:Hid (R=_):=HR2
      have h6':l.length < 6:=by omega
      clear hfb' HR h6 HR2
      go_wp2_with (first | (go_at_call 125; refine (ufield_some (t.extract fr k) (p+fr) wr (by simp; omega) (by omega) (by omega) g hfb.out).mono ?_; rintro e w1 ⟨rfl,hb1⟩; have V1:=V0.below hb1; have B1:=hb.trans (hb1.mono hb.size); have hs1:w.heap.size≤w1.heap.size:=B1.size; clear hb1) | (at_builtin; refine wpList_append_own _ rfl _ _ 108 rfl w.heap.size 124 i0 (.agg #[.int .u8 0,.int .u8 0,.int .i64 0,.int .i64 0,.bool false,.bool false,.string ⟨#[]⟩]) 7 48 Tryz.underlying108 hi hz0 hz1 hz2 rfl (by decide) _ l.length (flatU l) rfl ((V1.alloc _).alloc _) ⟨w1.heap.size+1,0,none⟩ 1 1 [.int .u8 g.n,.int .u8 g.k,.int .i64 g.p,.int .i64 g.sa,.bool g.sm,.bool g.bg,.string g.su] rfl rfl ?c1 ?c2 ?c3 ?c4 ?c5 ?_))
      case c1=>exact cell_seven _ _ _ _
      case c2=>intro u hu; simp at hu; rcases hu with rfl | rfl | rfl | rfl | rfl | rfl | rfl <;> rfl
      case c3=>unfold maxLen; omega
      case c4=>omega
      case c5=>simp; omega
      intro v' w2 hown hgr _
      obtain ⟨V2,B2⟩:=uapp_step (f:=g) V1 B1 hown hgr
      clear hown hgr V1 B1 V0 hb
      go_wp2
      go_roundw
      case rel=>exact ⟨k+1,k+1,l++[g],by omega,by omega,by simp; omega,by go_num,by go_num,by have:=HN.out; rw [show t.size+1 - (k+1)=n' by omega]; exact HR3,V2,B2⟩
      case measure=>simp [intOf]; omega
   ·have hge:t.size≤k:=by omega
    clear hc hlt
    cases hfb':fieldU (t.extract fr k) (p+fr) with
    | none =>
     have hfb:Hid (fieldU (t.extract fr k) (p+fr)=none):=hfb'
     have HR2:=HR.out
     rw [hfb'] at HR2
     simp only [] at HR2
     subst HR2
     clear hfb' HR
     go_wp2_with (go_at_call 125; refine (ufield_none (t.extract fr k) (p+fr) wr (by simp; omega) (by omega) (by omega) hfb.out).mono ?_; rintro e w1 ⟨x0,x1,x2,x3,x4,x5,x6,rfl,hb1⟩; have V1:=V0.below hb1; have B1:=hb.trans (hb1.mono hb.size); have hs1:w.heap.size≤w1.heap.size:=B1.size; clear hb1)
     go_ret2
     exact ⟨_,_,_,rfl,UV.nil _ _,B1.alloc hs1 _⟩
    | some g =>
     have hfb:Hid (fieldU (t.extract fr k) (p+fr)=some g):=hfb'
     by_cases h6:l.length=6
     ·have HR2:=HR.out
      rw [hfb'] at HR2
      simp only [h6,if_true] at HR2
      subst HR2
      have h6':6≤l.length:=by omega
      clear hfb' HR h6
      go_wp2_with (go_at_call 125; refine (ufield_some (t.extract fr k) (p+fr) wr (by simp; omega) (by omega) (by omega) g hfb.out).mono ?_; rintro e w1 ⟨rfl,hb1⟩; have V1:=V0.below hb1; have B1:=hb.trans (hb1.mono hb.size); have hs1:w.heap.size≤w1.heap.size:=B1.size; clear hb1)
      go_ret2
      exact ⟨_,_,_,rfl,UV.nil _ _,B1.alloc hs1 _⟩
     ·have HR2:=HR.out
      rw [hfb'] at HR2
      simp only [h6,if_false] at HR2
      have HR3:Hid (R=_):=HR2
      have h6':l.length < 6:=by omega
      clear hfb' HR h6 HR2
      go_wp2_with (first | (go_at_call 125; refine (ufield_some (t.extract fr k) (p+fr) wr (by simp; omega) (by omega) (by omega) g hfb.out).mono ?_; rintro e w1 ⟨rfl,hb1⟩; have V1:=V0.below hb1; have B1:=hb.trans (hb1.mono hb.size); have hs1:w.heap.size≤w1.heap.size:=B1.size; clear hb1) | (at_builtin; refine wpList_append_own _ rfl _ _ 108 rfl w.heap.size 124 i0 (.agg #[.int .u8 0,.int .u8 0,.int .i64 0,.int .i64 0,.bool false,.bool false,.string ⟨#[]⟩]) 7 48 Tryz.underlying108 hi hz0 hz1 hz2 rfl (by decide) _ l.length (flatU l) rfl ((V1.alloc _).alloc _) ⟨w1.heap.size+1,0,none⟩ 1 1 [.int .u8 g.n,.int .u8 g.k,.int .i64 g.p,.int .i64 g.sa,.bool g.sm,.bool g.bg,.string g.su] rfl rfl ?c1 ?c2 ?c3 ?c4 ?c5 ?_))
      case c1=>exact cell_seven _ _ _ _
      case c2=>intro u hu; simp at hu; rcases hu with rfl | rfl | rfl | rfl | rfl | rfl | rfl <;> rfl
      case c3=>unfold maxLen; omega
      case c4=>omega
      case c5=>simp; omega
      intro v' w2 hown hgr _
      obtain ⟨V2,B2⟩:=uapp_step (f:=g) V1 B1 hown hgr
      clear hown hgr V1 B1 V0 hb
      go_wp2
      go_roundw
      case rel=>exact ⟨k+1,k+1,l++[g],by omega,by omega,by simp; omega,by go_num,by go_num,by have:=HN.out; rw [show t.size+1 - (k+1)=n' by omega]; exact HR3,V2,B2⟩
      case measure=>simp [intOf]; omega
theorem ufields_any (t:ByteArray) (p:Int) (w:World) (hm:t.size≤400) (hp:0≤p) (hp':p≤500) :
  Calls Tryz.prog 111 #[.string t,.int .i64 p,.bool true] w (UsPost (ufFields t p) w):=by
 by_cases h:t.size=0
 ·exact ufields_empty t p w h
 ·exact ufields_row t p w (by omega) hm hp hp'
end Go.Proofs.YtbgilndohccicaaGreatDoor
namespace Go.Proofs.YtbgilndohccicaaGreatDoor
open Go.RowKit
structure UR where
 n:Int
 s:Int
 sa:Int
 l:List GU
def ugClass (t:ByteArray) (p:Int):Option UR :=
 if 65≤nextB t 0∧nextB t 0≤90 then
  if nextB t 1=123 then (ufFields (t.extract 2 t.size) (p+1+1)).map (fun l=>⟨nextB t 0,0,0,l⟩)
  else if nextB t 1=60∧(65≤nextB t 2∧nextB t 2≤90)∧nextB t 3=123 then (ufFields (t.extract 4 t.size) (p+3+1)).map (fun l=>⟨nextB t 0,nextB t 2,p+2,l⟩)
  else none
 else none
def UcPost (R:Option UR) (p:Int) (w:World) (e:Ending) (w':World):Prop:=∃ (x0 x1 x3:Int) (a:Option Addr) (n c:Nat),
 e=.returned (.tuple #[.agg #[.int .u8 x0,.int .u8 x1,.int .i64 p,.int .i64 x3,.slice a n c],.bool R.isSome]) ∧
  (∀ r,R=some r→x0=r.n∧x1=r.s∧x3=r.sa∧UV w' w.heap.size (.slice a n c) r.l)∧Below w.heap.size w w'
theorem ugClass_low {t:ByteArray} {p b:Int} (hb:Brace t 0 b) (h:b < 1):ugClass t p=none:=by
 unfold ugClass
 by_cases h0:65≤nextB t 0∧nextB t 0≤90
 ·rw [if_pos h0]
  rcases hb with ⟨rfl,hn⟩ | ⟨j,rfl,_,_,h4,_⟩
  ·rw [if_neg (hn 1 (by omega)),if_neg (fun h=>hn 3 (by omega) h.2.2)]
  ·have:j=0:=by omega
   subst this; omega
 ·rw [if_neg h0]
theorem ugClass_letter {t:ByteArray} {p:Int} (h:¬ (65≤nextB t 0∧nextB t 0≤90)):ugClass t p=none:=by
 unfold ugClass; rw [if_neg h]
theorem brace_not {t:ByteArray} {j i:Nat} (hb:Brace t 0 j) (h:i < j):nextB t i≠123:=by
 rcases hb with ⟨h1,_⟩ | ⟨j',e,_,_,_,h5⟩
 ·omega
 ·exact h5 i (by omega) (by omega)
theorem brace_at {t:ByteArray} {j:Nat} (hb:Brace t 0 j):nextB t j=123:=by
 rcases hb with ⟨h1,_⟩ | ⟨j',e,_,_,h4,_⟩
 ·omega
 ·have:j'=j:=by omega
  rw [← this]; exact h4
theorem ugClass_head {t:ByteArray} {p:Int} {j:Nat} (hb:Brace t 0 j) (h:2≤j) (hn:¬ (j=3∧nextB t 1=60∧65≤nextB t 2∧nextB t 2≤90)):ugClass t p=none:=by
 unfold ugClass
 by_cases h0:65≤nextB t 0∧nextB t 0≤90
 ·rw [if_pos h0,if_neg (brace_not hb (by omega)),if_neg]
  rintro ⟨h1,h2,h3⟩
  apply hn
  refine ⟨?_,h1,h2.1,h2.2⟩
  rcases Nat.lt_trichotomy j 3 with h | h | h
  ·have:j=2:=by omega
   subst this
   have:=brace_at hb; omega
  ·exact h
  ·exact absurd h3 (brace_not hb h)
 ·rw [if_neg h0]
theorem ext_at {t:ByteArray} {a b i:Nat} (hb:b≤t.size) (h:i < (t.extract a b).size):(((t.extract a b)[i]'h).toNat:Int)=nextB t (a+i):=by
 have hsz:(t.extract a b).size=min b t.size - a:=ByteArray.size_extract
 rw [nextB_in (show a+i < t.size by omega),ByteArray.getElem_extract]
set_option maxHeartbeats 4000000 in
set_option maxRecDepth 20000 in
theorem uclass_any (t:ByteArray) (p:Int) (w:World) (hm:t.size≤400) (hp:0≤p) (hp':p≤400) :
  Calls Tryz.prog 90 #[.string t,.int .i64 p,.bool true] w (UcPost (ugClass t p) p w):=by
 go_enter Tryz.func90,Tryz.ntmps90
 go_wp2
 go_loop [9,10] (fun b i=>∃ (k:Nat) (bb:Int),k≤t.size∧i=.int .i64 ((k:Int) - 1)∧b=.int .i64 bb∧Brace t k bb) (fun _ i=>(intOf i+1).toNat)
 case atStart=>exact ⟨t.size,-1,Nat.le_refl _,rfl,rfl,Brace.start t⟩
 case round =>
  obtain ⟨k,bb,hk,rfl,rfl,hB⟩:=hrel
  rcases k with _ | k
  ·clear hk
   by_cases hb1:bb < 1
   ·have HR:Hid (ugClass t p=none):=ugClass_low hB hb1
    clear hB
    go_wp2
    refine bodyPost_ret (v:=.tuple #[.agg #[.int .u8 0,.int .u8 0,.int .i64 p,.int .i64 0,.slice none 0 0],.bool false]) (by simp [results,Tryz.results90,go_sem]) rfl ⟨_,_,_,_,_,_,by rw [HR.out]; rfl,?_,?_⟩
    ·intro r hr; rw [HR.out] at hr; cases hr
    ·exact ((Below.refl _ _).alloc (Nat.le_refl _) _).alloc (by simp) _
   obtain ⟨j,rfl,hj⟩:∃ j:Nat,bb=j∧j < t.size:=by
    rcases hB with ⟨rfl,_⟩ | ⟨j,rfl,_,h,_⟩
    ·omega
    ·exact ⟨j,rfl,h⟩
   have g0:0 < t.size:=by omega
   have hj1:1≤j:=by omega
   cases am':(decide (65≤nextB t 0) && decide (nextB t 0≤90)) with
   | false =>
    have HR:Hid (ugClass t p=none):=ugClass_letter (by simp at am'; omega)
    have am:=am'
    rw [nextB_in g0] at am
    clear hB am'
    go_wp2_with (go_at_call 110; refine (among_any _ _ _ _ false am).mono ?_; rintro e w' ⟨rfl,rfl⟩)
    refine bodyPost_ret (v:=.tuple #[.agg #[.int .u8 0,.int .u8 0,.int .i64 p,.int .i64 0,.slice none 0 0],.bool false]) (by simp [results,Tryz.results90,go_sem]) rfl ⟨_,_,_,_,_,_,by rw [HR.out]; rfl,?_,?_⟩
    ·intro r hr; rw [HR.out] at hr; cases hr
    ·exact ((Below.refl _ _).alloc (Nat.le_refl _) _).alloc (by simp) _
   | true =>
    have am:=am'
    rw [nextB_in g0] at am
    by_cases hj2:2≤j
    ·have hne:(t.extract 1 j).toList.isEmpty=false:=by rw [empty_size]; exact decide_eq_false (by simp; omega)
     by_cases hj3:j=3
     ·subst hj3
      have hsz:(t.extract 1 3).size=2:=by rw [ByteArray.size_extract]; omega
      have hz0:0 < (t.extract 1 3).size:=by omega
      have hz1:1 < (t.extract 1 3).size:=by omega
      have q0:=ext_at (t:=t) (a:=1) (b:=3) (i:=0) (by omega) hz0
      have q1:=ext_at (t:=t) (a:=1) (b:=3) (i:=1) (by omega) hz1
      by_cases h60:nextB t 1=60
      ·have q0':((((t.extract 1 3)[0]'hz0).toNat:Int) != 60)=false:=by rw [q0,h60]; rfl
       cases am2':(decide (65≤nextB t 2) && decide (nextB t 2≤90)) with
       | false =>
        have HR:Hid (ugClass t p=none):=ugClass_head hB (by omega) (by simp at am2'; omega)
        have am2:(decide (65≤(((t.extract 1 3)[1]'hz1).toNat:Int)) && decide ((((t.extract 1 3)[1]'hz1).toNat:Int)≤90))=false:=by rw [q1]; exact am2'
        clear hB am' am2' q0 q1 h60
        go_wp2_with fail
        refine (among_any _ _ _ _ true am).mono ?_
        rintro e w' ⟨rfl,rfl⟩
        go_wp2_with fail
        refine (among_any _ _ _ _ false am2).mono ?_
        rintro e w' ⟨rfl,rfl⟩
        go_wp2
        refine bodyPost_ret (v:=.tuple #[.agg #[.int .u8 (t[0]'g0).toNat,.int .u8 0,.int .i64 p,.int .i64 0,.slice none 0 0],.bool false]) (by simp [results,Tryz.results90,go_sem]) rfl ⟨_,_,_,_,_,_,by rw [HR.out]; rfl,?_,?_⟩
        ·intro r hr; rw [HR.out] at hr; cases hr
        ·exact ((Below.refl _ _).alloc (Nat.le_refl _) _).alloc (by simp) _
       | true =>
        have am2:(decide (65≤(((t.extract 1 3)[1]'hz1).toNat:Int)) && decide ((((t.extract 1 3)[1]'hz1).toNat:Int)≤90))=true:=by rw [q1]; exact am2'
        have h123:=brace_at hB
        have HR:Hid (ugClass t p=(ufFields (t.extract 4 t.size) (p+3+1)).map (fun l=>⟨nextB t 0,nextB t 2,p+2,l⟩)):=by
         show ugClass t p=_
         unfold ugClass
         rw [if_pos (by simpa using am'),if_neg (brace_not hB (by omega)),if_pos ⟨h60,by simpa using am2',h123⟩]
        have e0:Hid (nextB t 0=((t[0]'g0).toNat:Int)):=nextB_in g0
        have e2:Hid ((((t.extract 1 3)[1]'hz1).toNat:Int)=nextB t 2):=q1
        clear hB am' am2' q0 q1 h60 h123 hb1 hj2
        go_wp2_with fail
        refine (among_any _ _ _ _ true am).mono ?_
        rintro e w' ⟨rfl,rfl⟩
        go_wp2_with fail
        refine (among_any _ _ _ _ true am2).mono ?_
        rintro e w' ⟨rfl,rfl⟩
        go_wp2_with fail
        refine (ufields_any (t.extract 4 t.size) (p+3+1) _ (by simp; omega) (by omega) (by omega)).mono ?_
        rintro e w1 ⟨a,n,c,rfl,V1,hb1⟩
        obtain ⟨lc1,lf1⟩:=bcell hb1
        have hzz:w.heap.size+1 < w1.heap.size:=by have:=hb1.size; simp at this; omega
        have B1:Below w.heap.size w w1:=(((Below.refl _ _).alloc (Nat.le_refl _) _).alloc (by simp) _).trans (hb1.mono (by simp; omega))
        go_wp2
        have d0:w1.cell? ⟨w.heap.size,0,none⟩=some (.int .u8 0):=by go_simp
        have d1:w1.cell? ⟨w.heap.size,1,none⟩=some (.int .u8 0):=by go_simp
        have d2:w1.cell? ⟨w.heap.size,2,none⟩=some (.int .i64 0):=by go_simp
        have d3:w1.cell? ⟨w.heap.size,3,none⟩=some (.int .i64 0):=by go_simp
        have d4:w1.cell? ⟨w.heap.size,4,none⟩=some (.slice none 0 0):=by go_simp
        refine bodyPost_ret (v:=.tuple #[.agg #[.int .u8 (t[0]'g0).toNat,.int .u8 ((t.extract 1 3)[1]'hz1).toNat,.int .i64 p,.int .i64 (p+2),.slice a n c],.bool (ufFields (t.extract 4 t.size) (p+3+1)).isSome]) (by simp [results,Tryz.results90,go_sem,d0,d1,d2,d3,d4]) rfl ⟨(t[0]'g0).toNat,((t.extract 1 3)[1]'hz1).toNat,p+2,a,n,c,by rw [HR.out]; simp,?_,?_⟩
        ·intro r hr
         rw [HR.out] at hr
         obtain ⟨l,hl,rfl⟩:=Option.map_eq_some_iff.1 hr
         refine ⟨e0.out.symm,e2.out,rfl,?_⟩
         rw [hl] at V1
         have V2:UV w1 (w.heap.size+2) (.slice a n c) l:=by simpa using V1
         exact row_mono (row_kept (row_kept (row_kept (row_kept (row_kept (row_kept V2 (gb_set _ _ _ _) (by omega)) (gb_set _ _ _ _) (by omega)) (gb_set _ _ _ _) (by omega)) (gb_set _ _ _ _) (by omega)) (gb_set _ _ _ _) (by omega)) (gb_set _ _ _ _) (by omega)) (by omega)
        ·exact (((((B1.setCell (by show _≤w.heap.size+1; omega) _).setCell (Nat.le_refl _) _).setCell (Nat.le_refl _) _).setCell (Nat.le_refl _) _).setCell (Nat.le_refl _) _).setCell (Nat.le_refl _) _
      ·have q0':((((t.extract 1 3)[0]'hz0).toNat:Int) != 60)=true:=by rw [q0]; simpa using h60
       have HR:Hid (ugClass t p=none):=ugClass_head hB (by omega) (by omega)
       clear hB am' q0 q1 h60
       go_wp2_with fail
       refine (among_any _ _ _ _ true am).mono ?_
       rintro e w' ⟨rfl,rfl⟩
       go_wp2
       refine bodyPost_ret (v:=.tuple #[.agg #[.int .u8 (t[0]'g0).toNat,.int .u8 0,.int .i64 p,.int .i64 0,.slice none 0 0],.bool false]) (by simp [results,Tryz.results90,go_sem]) rfl ⟨_,_,_,_,_,_,by rw [HR.out]; rfl,?_,?_⟩
       ·intro r hr; rw [HR.out] at hr; cases hr
       ·exact ((Below.refl _ _).alloc (Nat.le_refl _) _).alloc (by simp) _
     ·have HR:Hid (ugClass t p=none):=ugClass_head hB (by omega) (by omega)
      have hsz:(((t.extract 1 j).size:Int) != 2)=true:=by rw [ByteArray.size_extract]; simp; omega
      clear hB am'
      go_wp2_with fail
      refine (among_any _ _ _ _ true am).mono ?_
      rintro e w' ⟨rfl,rfl⟩
      go_wp2
      refine bodyPost_ret (v:=.tuple #[.agg #[.int .u8 (t[0]'g0).toNat,.int .u8 0,.int .i64 p,.int .i64 0,.slice none 0 0],.bool false]) (by simp [results,Tryz.results90,go_sem]) rfl ⟨_,_,_,_,_,_,by rw [HR.out]; rfl,?_,?_⟩
      ·intro r hr; rw [HR.out] at hr; cases hr
      ·exact ((Below.refl _ _).alloc (Nat.le_refl _) _).alloc (by simp) _
    ·have hj3:j=1:=by omega
     subst hj3
     have h123:nextB t 1=123:=by
      rcases hB with ⟨h,_⟩ | ⟨j,h,_,_,h4,_⟩
      ·omega
      ·have:j=1:=by omega
       subst this; exact h4
     have HR:Hid (ugClass t p=(ufFields (t.extract 2 t.size) (p+1+1)).map (fun l=>⟨nextB t 0,0,0,l⟩)):=by
      show ugClass t p=_
      unfold ugClass
      rw [if_pos (by simpa using am'),if_pos h123]
     have e0:Hid (nextB t 0=((t[0]'g0).toNat:Int)):=nextB_in g0
     have hne:(t.extract 1 1).toList.isEmpty=true:=by rw [empty_size]; simp
     clear hB am' h123 hb1 hj2
     go_wp2_with (first | (go_at_call 110; refine (among_any _ _ _ _ true am).mono ?_; rintro e w' ⟨rfl,rfl⟩) | (go_at_call 111; refine (ufields_any (t.extract 2 t.size) (p+1+1) _ (by simp; omega) (by omega) (by omega)).mono ?_; rintro e w1 ⟨a,n,c,rfl,V1,hb1⟩; obtain ⟨lc1,lf1⟩:=bcell hb1; have hz1:w.heap.size+1 < w1.heap.size:=by have:=hb1.size; simp at this; omega))
     have d0:w1.cell? ⟨w.heap.size,0,none⟩=some (.int .u8 0):=by go_simp
     have d1:w1.cell? ⟨w.heap.size,1,none⟩=some (.int .u8 0):=by go_simp
     have d2:w1.cell? ⟨w.heap.size,2,none⟩=some (.int .i64 0):=by go_simp
     have d3:w1.cell? ⟨w.heap.size,3,none⟩=some (.int .i64 0):=by go_simp
     have d4:w1.cell? ⟨w.heap.size,4,none⟩=some (.slice none 0 0):=by go_simp
     have B1:Below w.heap.size w w1:=(((Below.refl _ _).alloc (Nat.le_refl _) _).alloc (by simp) _).trans (hb1.mono (by simp; omega))
     refine bodyPost_ret (v:=.tuple #[.agg #[.int .u8 (t[0]'g0).toNat,.int .u8 0,.int .i64 p,.int .i64 0,.slice a n c],.bool (ufFields (t.extract 2 t.size) (p+1+1)).isSome]) (by simp [results,Tryz.results90,go_sem,d0,d1,d2,d3,d4]) rfl ⟨(t[0]'g0).toNat,0,0,a,n,c,by rw [HR.out]; simp,?_,?_⟩
     ·intro r hr
      rw [HR.out] at hr
      obtain ⟨l,hl,rfl⟩:=Option.map_eq_some_iff.1 hr
      refine ⟨e0.out.symm,rfl,rfl,?_⟩
      rw [hl] at V1
      have V2:UV w1 (w.heap.size+2) (.slice a n c) l:=by simpa using V1
      exact row_mono (row_kept (row_kept (row_kept (row_kept (row_kept (row_kept V2 (gb_set _ _ _ _) (by omega)) (gb_set _ _ _ _) (by omega)) (gb_set _ _ _ _) (by omega)) (gb_set _ _ _ _) (by omega)) (gb_set _ _ _ _) (by omega)) (gb_set _ _ _ _) (by omega)) (by omega)
     ·exact (((((B1.setCell (by show _≤w.heap.size+1; omega) _).setCell (Nat.le_refl _) _).setCell (Nat.le_refl _) _).setCell (Nat.le_refl _) _).setCell (Nat.le_refl _) _).setCell (Nat.le_refl _) _
  ·have hlt:k < t.size:=by omega
   by_cases h:nextB t k=123
   ·have hB':=Brace.hit hlt h
    rw [nextB_in hlt] at h
    go_wp2
    go_round
    case rel=>exact ⟨k,k,by omega,rfl,by go_num,hB'⟩
    case measure=>simp [intOf]
   ·have hB':=hB.miss h
    rw [nextB_in hlt] at h
    have h':(((t[k]'hlt).toNat:Int)==123)=false:=by simpa using h
    go_wp2
    go_round
    case rel=>exact ⟨k,bb,by omega,by go_num,rfl,hB'⟩
    case measure=>simp [intOf]
end Go.Proofs.YtbgilndohccicaaGreatDoor
