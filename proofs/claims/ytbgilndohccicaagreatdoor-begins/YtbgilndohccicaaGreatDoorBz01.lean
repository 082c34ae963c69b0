import Derived.Test.YtbgilndohccicaaGreatDoorProg
import Derived.WalkKit
import Derived.WalkSpells
import Derived.WalkLawsBesides
import Derived.Deep.QuietTactic
import Derived.BigQuiet
import Derived.Deep.LoopGhost
import Derived.RegionTactic
import Derived.ChangeAlike
namespace Go.Proofs.YtbgilndohccicaaGreatDoor
open Go.RowKit
def nextB (s:ByteArray) (k:Nat):Int:=if h:k < s.size then (s[k].toNat:Int) else 0
theorem nextB_in {s:ByteArray} {k:Nat} (h:k < s.size):nextB s k=(s[k].toNat:Int):=by simp [nextB,h]
theorem nextB_out {s:ByteArray} {k:Nat} (h:¬ k < s.size):nextB s k=0:=by simp [nextB,h]
theorem gb_set (w:World) (b o:Nat) (v:Value):w.grownBy (w.setCell ⟨b,o,none⟩ v) (some b) :=
 ⟨rfl,rfl,rfl,by simp [World.setCell],fun k _ hne=>Below.heap_setCell _ _ _ _ (fun e=>hne (by rw [e]))⟩
theorem gb_drewN (w:World) (n:Nat) (r:Option Nat):w.grownBy (w.drewN n) r:=⟨rfl,rfl,rfl,Nat.le_refl _,fun _ _ _=>rfl⟩
theorem gb_trans {a b c:World} {row:Option Nat} (h:a.grownBy b row) (k:b.grownBy c row):a.grownBy c row :=
 ⟨k.os.trans h.os,k.tape.trans h.tape,k.output.trans h.output,Nat.le_trans h.size k.size,fun i hi hne=>(k.block i (Nat.lt_of_lt_of_le hi h.size) hne).trans (h.block i hi hne)⟩
theorem gb_below {w w':World} (h:Below w.heap.size w w') (r:Option Nat):w.grownBy w' r:=⟨h.os,h.tape,h.output,h.size,fun k hk _=>h.block k hk⟩
def noteI (tw:Int) (k:Nat):Int:=if tw=-1 then k else tw
def isKindB (x:Int):Bool:=x==98 || x==104 || x==119 || x==108 || x==114
def flatF:List (Int×Int)→List Value
 | []=>[]
 | p :: r=>.int .u8 p.1 :: .int .u8 p.2 :: flatF r
theorem flatF_app (a b:List (Int×Int)):flatF (a++b)=flatF a++flatF b:=by
 induction a with
 | nil=>rfl
 | cons p r ih=>simp [flatF,ih]
theorem flatF_even (fs:List (Int×Int)):∀ i,i < fs.length→(flatF fs)[i * 2]?=some (.int .u8 (fs[i]?.getD (0,0)).1):=by
 induction fs with
 | nil=>intro i h; simp at h
 | cons p r ih =>
  intro i h
  match i with
  | 0=>simp [flatF]
  | j+1=>have:=ih j (by simpa using h); simpa [flatF,Nat.add_mul] using this
theorem flatF_odd (fs:List (Int×Int)):∀ i,i < fs.length→(flatF fs)[i * 2+1]?=some (.int .u8 (fs[i]?.getD (0,0)).2):=by
 induction fs with
 | nil=>intro i h; simp at h
 | cons p r ih =>
  intro i h
  match i with
  | 0=>simp [flatF]
  | j+1=>have:=ih j (by simpa using h); simpa [flatF,Nat.add_mul] using this
def FV (w:World) (v:Value) (fs:List (Int×Int)):Prop:=w.ownsRow 0 174 2 v fs.length (flatF fs)
theorem FV.nil (w:World):FV w (.slice none 0 0) []:=World.ownsRow_nil _ _ _ _
theorem FV.shape {w:World} {v:Value} {fs:List (Int×Int)} (h:FV w v fs) :
  (v=.slice none 0 0∧fs=[])∨∃ g cap,v=.slice (some ⟨g,0,none⟩) fs.length cap∧g < w.heap.size∧fs.length≤maxLen ∧
   (∀ i,i < fs.length→w.cell? ⟨g,i * 2,none⟩=some (.int .u8 (fs[i]?.getD (0,0)).1)∧w.cell? ⟨g,i * 2+1,none⟩=some (.int .u8 (fs[i]?.getD (0,0)).2)):=by
 rcases h.2 with ⟨rfl,hn⟩ | ⟨g,cap,cur,rfl,_,hg,h1,h2,_⟩
 ·exact .inl ⟨rfl,List.length_eq_zero_iff.1 hn⟩
 ·refine .inr ⟨g,cap,rfl,(Array.getElem?_eq_some_iff.1 hg).1,by omega,fun i hi=>?_⟩
  have c:=World.ownsRow.cells h (g:=g) rfl
  have e:∀ j,(⟨g,0,none⟩:Addr).add j=⟨g,j,none⟩:=fun j=>by unfold Addr.add; split <;> simp_all
  have c0:=c (i * 2) _ (flatF_even fs i hi)
  have c1:=c (i * 2+1) _ (flatF_odd fs i hi)
  rw [e] at c0 c1
  exact ⟨c0,c1⟩
def idxF (fs:List (Int×Int)) (x:Int):Int:=match fs.findIdx? (fun p=>p.1==x) with | some i=>i | none=>-1
theorem ret_int {k:IntKind} {a b:Int} (h:a=b):Ending.returned (.int k a)=.returned (.int k b):=by rw [h]
theorem idxF_hit (fs:List (Int×Int)) (x:Int) (k:Nat) (hk:k < fs.length) (hno:∀ j,j < k→¬ (fs[j]?.getD (0,0)).1=x) (h:((fs[k]?.getD (0,0)).1==x)=true):idxF fs x=k:=by
 have:fs.findIdx? (fun p=>p.1==x)=some k:=by
  rw [List.findIdx?_eq_some_iff_getElem]
  refine ⟨hk,by simpa [List.getElem?_eq_getElem hk] using h,fun j hj=>?_⟩
  have:=hno j hj
  have hj':j < fs.length:=by omega
  simpa [List.getElem?_eq_getElem hj'] using this
 simp [idxF,this]
theorem idxF_none (fs:List (Int×Int)) (x:Int) (hno:∀ j,j < fs.length→¬ (fs[j]?.getD (0,0)).1=x):idxF fs x=-1:=by
 have:fs.findIdx? (fun p=>p.1==x)=none:=by
  rw [List.findIdx?_eq_none_iff]
  intro p hp
  obtain ⟨j,hj,rfl⟩:=List.getElem_of_mem hp
  have:=hno j hj
  simpa [List.getElem?_eq_getElem hj] using this
 simp [idxF,this]
theorem no_step {fs:List (Int×Int)} {x:Int} {k:Nat} (hno:∀ j,j < k→¬ (fs[j]?.getD (0,0)).1=x) (h1:((fs[k]?.getD (0,0)).1==x)=false):∀ j,j < k+1→¬ (fs[j]?.getD (0,0)).1=x:=by
 intro j hj
 rcases Nat.lt_succ_iff_lt_or_eq.1 hj with h | rfl
 ·exact hno j h
 ·simpa using h1
theorem bcell {W w1:World} (hb:Below W.heap.size W w1):(∀ b o,b < W.heap.size→w1.cell? ⟨b,o,none⟩=W.cell? ⟨b,o,none⟩)∧(∀ b o,b < W.heap.size→w1.frozen? ⟨b,o,none⟩=W.frozen? ⟨b,o,none⟩) :=
 ⟨fun b o h=>hb.cell (p:=⟨b,o,none⟩) h,fun b o h=>hb.frozen (p:=⟨b,o,none⟩) h⟩
structure SV where
 a:Option Addr
 n:Nat
 c:Nat
def SV.val (x:SV):Value:=.slice x.a x.n x.c
def flatC:List (Int×SV)→List Value
 | []=>[]
 | p :: r=>.int .u8 p.1 :: .slice p.2.a p.2.n p.2.c :: flatC r
def noC:Int×SV:=(0,⟨none,0,0⟩)
theorem flatC_app (a b:List (Int×SV)):flatC (a++b)=flatC a++flatC b:=by
 induction a with
 | nil=>rfl
 | cons p r ih=>simp [flatC,ih]
theorem flatC_even (fs:List (Int×SV)):∀ i,i < fs.length→(flatC fs)[i * 2]?=some (.int .u8 (fs[i]?.getD noC).1):=by
 induction fs with
 | nil=>intro i h; simp at h
 | cons p r ih =>
  intro i h
  match i with
  | 0=>simp [flatC]
  | j+1=>have:=ih j (by simpa using h); simpa [flatC,Nat.add_mul] using this
theorem flatC_odd (fs:List (Int×SV)):∀ i,i < fs.length→(flatC fs)[i * 2+1]?=some (.slice (fs[i]?.getD noC).2.a (fs[i]?.getD noC).2.n (fs[i]?.getD noC).2.c):=by
 induction fs with
 | nil=>intro i h; simp at h
 | cons p r ih =>
  intro i h
  match i with
  | 0=>simp [flatC]
  | j+1=>have:=ih j (by simpa using h); simpa [flatC,Nat.add_mul] using this
def CV (w:World) (v:Value) (vs:List (Int×SV)):Prop:=w.ownsRow 0 99 2 v vs.length (flatC vs)
theorem CV.shape {w:World} {v:Value} {fs:List (Int×SV)} (h:CV w v fs) :
  (v=.slice none 0 0∧fs=[])∨∃ g cap,v=.slice (some ⟨g,0,none⟩) fs.length cap∧g < w.heap.size∧fs.length≤maxLen ∧
   (∀ i,i < fs.length→w.cell? ⟨g,i * 2,none⟩=some (.int .u8 (fs[i]?.getD noC).1)∧w.cell? ⟨g,i * 2+1,none⟩=some (.slice (fs[i]?.getD noC).2.a (fs[i]?.getD noC).2.n (fs[i]?.getD noC).2.c)):=by
 rcases h.2 with ⟨rfl,hn⟩ | ⟨g,cap,cur,rfl,_,hg,h1,h2,_⟩
 ·exact .inl ⟨rfl,List.length_eq_zero_iff.1 hn⟩
 ·refine .inr ⟨g,cap,rfl,(Array.getElem?_eq_some_iff.1 hg).1,by omega,fun i hi=>?_⟩
  have c:=World.ownsRow.cells h (g:=g) rfl
  have e:∀ j,(⟨g,0,none⟩:Addr).add j=⟨g,j,none⟩:=fun j=>by unfold Addr.add; split <;> simp_all
  have c0:=c (i * 2) _ (flatC_even fs i hi)
  have c1:=c (i * 2+1) _ (flatC_odd fs i hi)
  rw [e] at c0 c1
  exact ⟨c0,c1⟩
def findC (vs:List (Int×SV)) (x:Int):Int×SV:=(vs.find? (fun p=>p.1==x)).getD noC
def hasC (vs:List (Int×SV)) (x:Int):Bool:=vs.any (fun p=>p.1==x)
theorem findC_hit (fs:List (Int×SV)) (x:Int) (k:Nat) (hk:k < fs.length) (hno:∀ j,j < k→¬ (fs[j]?.getD noC).1=x) (h:((fs[k]?.getD noC).1==x)=true):findC fs x=fs[k]?.getD noC∧hasC fs x=true:=by
 constructor
 ·have:fs.find? (fun p=>p.1==x)=some fs[k]:=by
   rw [List.find?_eq_some_iff_getElem]
   refine ⟨by simpa [List.getElem?_eq_getElem hk] using h,k,hk,rfl,fun j hj=>?_⟩
   have:=hno j hj
   have hj':j < fs.length:=by omega
   simpa [List.getElem?_eq_getElem hj'] using this
  simp [findC,this,List.getElem?_eq_getElem hk]
 ·simp only [hasC,List.any_eq_true]
  exact ⟨fs[k],List.getElem_mem hk,by simpa [List.getElem?_eq_getElem hk] using h⟩
theorem findC_none (fs:List (Int×SV)) (x:Int) (hno:∀ j,j < fs.length→¬ (fs[j]?.getD noC).1=x):findC fs x=noC∧hasC fs x=false:=by
 have h:∀ p∈fs,(p.1==x)=false:=by
  intro p hp
  obtain ⟨j,hj,rfl⟩:=List.getElem_of_mem hp
  have:=hno j hj
  simpa [List.getElem?_eq_getElem hj] using this
 constructor
 ·have:fs.find? (fun p=>p.1==x)=none:=by
   rw [List.find?_eq_none]; intro p hp; simp [h p hp]
  simp [findC,this]
 ·simp only [hasC,List.any_eq_false]
  intro p hp; simp [h p hp]
theorem noC_step {fs:List (Int×SV)} {x:Int} {k:Nat} (hno:∀ j,j < k→¬ (fs[j]?.getD noC).1=x) (h1:((fs[k]?.getD noC).1==x)=false):∀ j,j < k+1→¬ (fs[j]?.getD noC).1=x:=by
 intro j hj
 rcases Nat.lt_succ_iff_lt_or_eq.1 hj with h | rfl
 ·exact hno j h
 ·simpa using h1
def clsV (p:Int×SV):Value:=.agg #[.int .u8 p.1,.slice p.2.a p.2.n p.2.c]
structure RF where
 ok:Bool
 at_:Nat
 tw:Int
 l:Int
 kd:Int
def rdField (s:ByteArray) (fs:List (Int×Int)) (k:Nat) (tw:Int):RF :=
 if nextB s k < 97∨122 < nextB s k then ⟨false,k,tw,0,0⟩
 else if nextB s (k+1)=58 then
  if isKindB (nextB s (k+2))=true then ⟨true,k+3,if 0≤idxF fs (nextB s k) then noteI tw k else tw,nextB s k,nextB s (k+2)⟩
  else ⟨false,k+2,if 0≤idxF fs (nextB s k) then noteI tw k else tw,0,0⟩
 else ⟨false,k+1,if 0≤idxF fs (nextB s k) then noteI tw k else tw,0,0⟩
theorem nextB_pos {s:ByteArray} {k:Nat} (h:0 < nextB s k):k < s.size:=by
 by_cases hk:k < s.size
 ·exact hk
 ·rw [nextB_out hk] at h; omega
theorem isKindB_pos {x:Int} (h:isKindB x=true):0 < x:=by
 simp [isKindB] at h; omega
theorem loc {W w':World} {b r:Nat} (g:W.grownBy w' (some b)) (hr:r < W.heap.size) (hne:r≠b) :
  (∀ o,w'.cell? ⟨r,o,none⟩=W.cell? ⟨r,o,none⟩)∧(∀ o,w'.frozen? ⟨r,o,none⟩=W.frozen? ⟨r,o,none⟩)∧r < w'.heap.size:=by
 have e:=g.block r hr (by simpa using hne)
 exact ⟨fun o=>World.cell?_of_block (a:=⟨r,o,none⟩) e,fun o=>World.frozen?_of_block (a:=⟨r,o,none⟩) e,Nat.lt_of_lt_of_le hr g.size⟩
theorem FV.alloc {w:World} {v:Value} {fs:List (Int×Int)} (h:FV w v fs) (o:Obj):FV (w.alloc o) v fs:=World.ownsRow.alloc h o
theorem FV.below {w w':World} {v:Value} {fs:List (Int×Int)} (h:FV w v fs) (hb:Below w.heap.size w w'):FV w' v fs:=World.ownsRow.kept h (gb_below hb none) (by cases hv:v.ownBlock <;> simp)
theorem gb_setNew {a w:World} {row:Option Nat} (h:a.grownBy w row) {p o:Nat} (hp:a.heap.size≤p) (u:Value):a.grownBy (w.setCell ⟨p,o,none⟩ u) row :=
 ⟨h.os,h.tape,h.output,by simpa [World.setCell] using h.size,fun k hk hne=>(Below.heap_setCell _ _ _ _ (by show k≠p; omega)).trans (h.block k hk hne)⟩
theorem gb_alloc {a w:World} {row:Option Nat} (h:a.grownBy w row) (o:Obj):a.grownBy (w.alloc o) row:=gb_trans h (World.grownBy_alloc w o row)
theorem gb_drew {a w:World} {row:Option Nat} (h:a.grownBy w row) (n:Nat):a.grownBy (w.drewN n) row:=gb_trans h (gb_drewN w n row)
theorem gb_setB {a w:World} {b:Nat} (h:a.grownBy w (some b)) (o:Nat) (u:Value):a.grownBy (w.setCell ⟨b,o,none⟩ u) (some b):=gb_trans h (gb_set w b o u)
structure Loc (W w':World) (r:Nat):Prop where
 c:∀ o,w'.cell? ⟨r,o,none⟩=W.cell? ⟨r,o,none⟩
 f:∀ o,w'.frozen? ⟨r,o,none⟩=W.frozen? ⟨r,o,none⟩
 l:r < w'.heap.size
theorem Loc.of {W w':World} {b r:Nat} (g:W.grownBy w' (some b)) (hr:r < W.heap.size) (hne:r≠b):Loc W w' r:=⟨(loc g hr hne).1,(loc g hr hne).2.1,(loc g hr hne).2.2⟩
theorem Tryz.infoField:(Tryz.prog.info? 174).map (fun i=>(i.zero,i.size,i.bytes))=some (some (.agg #[.int .u8 0,.int .u8 0]),2,2):=by kernel_rfl
structure RFS where
 ok:Bool
 at_:Nat
 tw:Int
 fs:List (Int×Int)
def rdLoop (s:ByteArray):Nat→List (Int×Int)→Nat→Int→RFS
 | 0,_,k,tw=>⟨false,k,tw,[]⟩
 | n+1,fs,k,tw =>
  if (rdField s fs k tw).ok=false then ⟨false,(rdField s fs k tw).at_,(rdField s fs k tw).tw,[]⟩
  else if nextB s (rdField s fs k tw).at_=125 then ⟨true,(rdField s fs k tw).at_+1,(rdField s fs k tw).tw,fs++[((rdField s fs k tw).l,(rdField s fs k tw).kd)]⟩
  else if fs.length=5∨nextB s (rdField s fs k tw).at_≠44 then ⟨false,(rdField s fs k tw).at_,(rdField s fs k tw).tw,[]⟩
  else rdLoop s n (fs++[((rdField s fs k tw).l,(rdField s fs k tw).kd)]) ((rdField s fs k tw).at_+1) (rdField s fs k tw).tw
def rdFields (s:ByteArray) (k:Nat) (tw:Int):RFS:=if nextB s k=125 then ⟨true,k+1,tw,[]⟩ else rdLoop s 6 [] k tw
def FVb (w:World) (base:Nat) (v:Value) (fs:List (Int×Int)):Prop:=w.ownsRow base 174 2 v fs.length (flatF fs)
theorem FVb.fv {w:World} {base:Nat} {v:Value} {fs:List (Int×Int)} (h:FVb w base v fs):FV w v fs:=by
 obtain ⟨h1,h2⟩:=h
 refine ⟨h1,h2.imp id ?_⟩
 rintro ⟨g,cap,cur,e,_,r⟩
 exact ⟨g,cap,cur,e,Nat.zero_le _,r⟩
theorem FVb.mono {w:World} {base base':Nat} {v:Value} {fs:List (Int×Int)} (h:FVb w base v fs) (hb:base'≤base):FVb w base' v fs:=by
 obtain ⟨h1,h2⟩:=h
 refine ⟨h1,h2.imp id ?_⟩
 rintro ⟨g,cap,cur,e,h0,r⟩
 exact ⟨g,cap,cur,e,Nat.le_trans hb h0,r⟩
theorem FVb.kept {w w':World} {base b:Nat} {v:Value} {fs:List (Int×Int)} (h:FVb w base v fs) (g:w.grownBy w' (some b)) (hb:b < base):FVb w' base v fs:=by
 refine World.ownsRow.kept h g ?_
 cases hv:v.ownBlock with
 | none=>exact .inl rfl
 | some x=>right; have:=(World.ownsRow.lt h x hv).1; simp; omega
theorem FVb.shape {w:World} {base:Nat} {v:Value} {fs:List (Int×Int)} (h:FVb w base v fs):∃ a c,v=.slice a fs.length c:=by
 rcases h.2 with ⟨rfl,hn⟩ | ⟨g,cap,cur,rfl,_⟩
 ·exact ⟨none,0,by rw [hn]⟩
 ·exact ⟨_,_,rfl⟩
theorem FVb.set0 {w:World} {base p o:Nat} {v u:Value} {fs:List (Int×Int)} (h:FVb w base v fs) (hp:p < base):FVb (w.setCell ⟨p,o,none⟩ u) base v fs:=h.kept (gb_set w p o u) hp
theorem cell_pair (w1:World) (o:Obj) (x y:Value) (T:TypeId):∀ (j:Nat) (u:Value),[x,y][j]?=some u→((w1.alloc o).alloc (.cells #[x,y] T)).cell? ((⟨w1.heap.size+1,0,none⟩:Addr).add j)=some u:=by
 intro j u hj
 match j,hj with
 | 0,hj=>simp at hj; subst hj; simp [Addr.add]
 | 1,hj=>simp at hj; subst hj; simp [Addr.add]
structure RC where
 ok:Bool
 at_:Nat
 tw:Int
 l:Int
 fs:List (Int×Int)
def rdClass (s:ByteArray) (ls:List Int) (k:Nat) (tw:Int):RC :=
 if nextB s k < 65∨90 < nextB s k then ⟨false,k,tw,0,[]⟩
 else if nextB s (k+1)=123 then
  if (rdFields s (k+2) (if ls.any (fun p=>p==nextB s k)=true then noteI tw k else tw)).ok=true then
   ⟨true,(rdFields s (k+2) (if ls.any (fun p=>p==nextB s k)=true then noteI tw k else tw)).at_,(rdFields s (k+2) (if ls.any (fun p=>p==nextB s k)=true then noteI tw k else tw)).tw,nextB s k,(rdFields s (k+2) (if ls.any (fun p=>p==nextB s k)=true then noteI tw k else tw)).fs⟩
  else ⟨false,(rdFields s (k+2) (if ls.any (fun p=>p==nextB s k)=true then noteI tw k else tw)).at_,(rdFields s (k+2) (if ls.any (fun p=>p==nextB s k)=true then noteI tw k else tw)).tw,0,[]⟩
 else ⟨false,k+1,if ls.any (fun p=>p==nextB s k)=true then noteI tw k else tw,0,[]⟩
theorem CV.alloc {w:World} {v:Value} {vs:List (Int×SV)} (h:CV w v vs) (o:Obj):CV (w.alloc o) v vs:=World.ownsRow.alloc h o
theorem CV.below {w w':World} {v:Value} {vs:List (Int×SV)} (h:CV w v vs) (hb:Below w.heap.size w w'):CV w' v vs:=World.ownsRow.kept h (gb_below hb none) (by cases hv:v.ownBlock <;> simp)
theorem hasC_map (vs:List (Int×SV)) (x:Int):hasC vs x=(vs.map (·.1)).any (fun p=>p==x):=by simp [hasC,List.any_map,Function.comp_def]
theorem Tryz.infoClass:(Tryz.prog.info? 99).map (fun i=>(i.zero,i.size,i.bytes))=some (some (.agg #[.int .u8 0,.slice none 0 0]),2,32):=by kernel_rfl
structure RCS where
 ok:Bool
 at_:Nat
 tw:Int
 cs:List (Int×List (Int×Int))
def rcLoop (s:ByteArray):Nat→List (Int×List (Int×Int))→Nat→Int→RCS
 | 0,_,k,tw=>⟨false,k,tw,[]⟩
 | n+1,cs,k,tw =>
  if (rdClass s (cs.map (·.1)) k tw).ok=false then ⟨false,(rdClass s (cs.map (·.1)) k tw).at_,(rdClass s (cs.map (·.1)) k tw).tw,[]⟩
  else if (rdClass s (cs.map (·.1)) k tw).at_=s.size then ⟨true,(rdClass s (cs.map (·.1)) k tw).at_,(rdClass s (cs.map (·.1)) k tw).tw,cs++[((rdClass s (cs.map (·.1)) k tw).l,(rdClass s (cs.map (·.1)) k tw).fs)]⟩
  else rcLoop s n (cs++[((rdClass s (cs.map (·.1)) k tw).l,(rdClass s (cs.map (·.1)) k tw).fs)]) (rdClass s (cs.map (·.1)) k tw).at_ (rdClass s (cs.map (·.1)) k tw).tw
structure Cls (w:World) (base:Nat) (v:Value) (vs:List (Int×SV)) (cs:List (Int×List (Int×Int))):Prop where
 row:w.ownsRow base 99 2 v vs.length (flatC vs)
 ls:vs.map (·.1)=cs.map (·.1)
 fld:∀ (i:Nat) (p:Int×SV) (c:Int×List (Int×Int)),vs[i]?=some p→cs[i]?=some c→FVb w base p.2.val c.2
theorem row_mono {w:World} {base base':Nat} {e:TypeId} {size:Nat} {v:Value} {n:Nat} {xs:List Value} (h:w.ownsRow base e size v n xs) (hb:base'≤base):w.ownsRow base' e size v n xs:=by
 obtain ⟨h1,h2⟩:=h
 refine ⟨h1,h2.imp id ?_⟩
 rintro ⟨g,cap,cur,e,h0,r⟩
 exact ⟨g,cap,cur,e,Nat.le_trans hb h0,r⟩
theorem row_kept {w w':World} {base b:Nat} {e:TypeId} {size:Nat} {v:Value} {n:Nat} {xs:List Value} (h:w.ownsRow base e size v n xs) (g:w.grownBy w' (some b)) (hb:b < base):w'.ownsRow base e size v n xs:=by
 refine World.ownsRow.kept h g ?_
 cases hv:v.ownBlock with
 | none=>exact .inl rfl
 | some x=>right; have:=(World.ownsRow.lt h x hv).1; simp; omega
theorem row_apart {w:World} {base base':Nat} {e e':TypeId} {size size':Nat} {v v':Value} {n n':Nat} {xs xs':List Value} (h:w.ownsRow base e size v n xs) (h':w.ownsRow base' e' size' v' n' xs') (hne:e≠e') :
  v.ownBlock=none∨v.ownBlock≠v'.ownBlock:=by
 rcases h.2 with ⟨rfl,_⟩ | ⟨g,cap,cur,rfl,_,hg,_⟩
 ·exact .inl rfl
 ·right
  rcases h'.2 with ⟨rfl,_⟩ | ⟨g',cap',cur',rfl,_,hg',_⟩
  ·simp [Value.ownBlock]
  ·simp only [Value.ownBlock,ne_eq,Option.some.injEq]
   rintro rfl
   rw [hg] at hg'
   simp at hg'
   exact hne hg'.2
theorem Cls.cv {w:World} {base:Nat} {v:Value} {vs:List (Int×SV)} {cs:List (Int×List (Int×Int))} (h:Cls w base v vs cs):CV w v vs:=row_mono h.row (Nat.zero_le _)
theorem Cls.mono {w:World} {base base':Nat} {v:Value} {vs:List (Int×SV)} {cs:List (Int×List (Int×Int))} (h:Cls w base v vs cs) (hb:base'≤base):Cls w base' v vs cs:=⟨row_mono h.row hb,h.ls,fun i p c h1 h2=>(h.fld i p c h1 h2).mono hb⟩
theorem Cls.kept {w w':World} {base b:Nat} {v:Value} {vs:List (Int×SV)} {cs:List (Int×List (Int×Int))} (h:Cls w base v vs cs) (g:w.grownBy w' (some b)) (hb:b < base):Cls w' base v vs cs :=
 ⟨row_kept h.row g hb,h.ls,fun i p c h1 h2=>(h.fld i p c h1 h2).kept g hb⟩
theorem Cls.nil (w:World) (base:Nat):Cls w base (.slice none 0 0) [] []:=⟨World.ownsRow_nil _ _ _ _,rfl,fun i p c h1 _=>by simp at h1⟩
theorem Cls.len {w:World} {base:Nat} {v:Value} {vs:List (Int×SV)} {cs:List (Int×List (Int×Int))} (h:Cls w base v vs cs):vs.length=cs.length:=by simpa using congrArg List.length h.ls
theorem Cls.shape {w:World} {base:Nat} {v:Value} {vs:List (Int×SV)} {cs:List (Int×List (Int×Int))} (h:Cls w base v vs cs):∃ a c,v=.slice a cs.length c:=by
 rw [← h.len]
 rcases h.row.2 with ⟨rfl,hn⟩ | ⟨g,cap,cur,rfl,_⟩
 ·exact ⟨none,0,by rw [hn]⟩
 ·exact ⟨_,_,rfl⟩
def readR (s:ByteArray):RCS:=rcLoop s 6 [] 0 (-1)
def readE (s:ByteArray):Int:=if 200 < s.size then 1 else if (readR s).ok=false then 2 else if (readR s).tw=-1 then 0 else 3
def readP (s:ByteArray):Int:=if 200 < s.size then 0 else if (readR s).ok=false then (readR s).at_ else if (readR s).tw=-1 then 0 else (readR s).tw
def readC (s:ByteArray):List (Int×List (Int×Int)):=if 200 < s.size then [] else if (readR s).ok=false then [] else if (readR s).tw=-1 then (readR s).cs else []
def RPost (s:ByteArray) (w:World) (e:Ending) (w':World):Prop:=∃ (a:Option Addr) (n c:Nat) (vs:List (Int×SV)),
 e=.returned (.tuple #[.agg #[.slice a n c],.int .i64 (readE s),.int .i64 (readP s)])∧Cls w' w.heap.size (.slice a n c) vs (readC s)∧Below w.heap.size w w'
theorem below_of_gb {w0 w w':World} {b:Nat} (g:w0.grownBy w' (some b)) (h:Below w.heap.size w w0) (hb:w.heap.size≤b):Below w.heap.size w w' :=
 h.trans ⟨g.os,g.tape,g.output,g.size,fun k hk=>g.block k (Nat.lt_of_lt_of_le hk h.size) (by simp; omega)⟩
theorem Cls.below {w w':World} {base:Nat} {v:Value} {vs:List (Int×SV)} {cs:List (Int×List (Int×Int))} (h:Cls w base v vs cs) (hb:Below w.heap.size w w'):Cls w' base v vs cs :=
 ⟨World.ownsRow.kept h.row (gb_below hb none) (by cases hv:v.ownBlock <;> simp),h.ls,fun i p c h1 h2=>World.ownsRow.kept (h.fld i p c h1 h2) (gb_below hb none) (by cases hv:Value.ownBlock (p.2.val) <;> simp)⟩
end Go.Proofs.YtbgilndohccicaaGreatDoor
namespace Go.Proofs.YtbgilndohccicaaGreatDoor
inductive Rch (rt:Nat→Prop) (ed:Nat→Nat→Prop):Nat→Prop where
 | root {x:Nat} (h:rt x):Rch rt ed x
 | step {x y:Nat} (h:Rch rt ed x) (e:ed x y):Rch rt ed y
theorem Rch.least {rt:Nat→Prop} {ed:Nat→Nat→Prop} {P:Nat→Prop} (h1:∀ x,rt x→P x) (h2:∀ x y,P x→ed x y→P y) {x:Nat} (h:Rch rt ed x):P x:=by
 induction h with
 | root h=>exact h1 _ h
 | step _ e ih=>exact h2 _ _ ih e
theorem nodup_le:∀ (n:Nat) (L:List Nat),L.Nodup→(∀ x∈L,x < n)→L.length≤n:=by
 intro n
 induction n with
 | zero=>intro L _ h; cases L with
  | nil=>simp
  | cons x L=>have:=h x (by simp); omega
 | succ n ih =>
  intro L hd h
  by_cases hn:n∈L
  ·have hd':(L.erase n).Nodup:=hd.erase n
   have:=ih (L.erase n) hd' (fun x hx=>by
    have h1:=h x (List.mem_of_mem_erase hx)
    have h2:x≠n:=fun e=>by subst e; exact (List.Nodup.not_mem_erase hd) hx
    omega)
   rw [List.length_erase_of_mem hn] at this
   have:0 < L.length:=List.length_pos_of_mem hn
   omega
  ·have:=ih L hd (fun x hx=>by
    have h1:=h x hx
    have h2:x≠n:=fun e=>by subst e; exact hn hx
    omega)
   omega
theorem nodup_snoc {L:List Nat} {x:Nat} (h:L.Nodup) (hx:x ∉ L):(L++[x]).Nodup:=by
 rw [List.nodup_append]
 refine ⟨h,by simp,fun a ha b hb=>?_⟩
 simp at hb; subst hb
 exact fun e=>hx (e ▸ ha)
theorem sum_meet {M:Nat→Nat→Prop} (fn:∀ a b b',M a b→M a b'→b=b') (inj:∀ a a' b,M a b→M a' b→a=a') (f g:Nat→Nat) (hfg:∀ a b,M a b→f a=g b) :
  ∀ (L1 L2:List Nat),L1.Nodup→L2.Nodup→(∀ a,a∈L1→∃ b,b∈L2∧M a b)→(∀ b,b∈L2→∃ a,a∈L1∧M a b)→(L1.map f).sum=(L2.map g).sum:=by
 intro L1
 induction L1 with
 | nil=>intro L2 _ _ _ h; cases L2 with
  | nil=>rfl
  | cons b L2=>obtain ⟨a,ha,_⟩:=h b (by simp); simp at ha
 | cons a L1 ih =>
  intro L2 h1 h2 h3 h4
  obtain ⟨b,hb,hab⟩:=h3 a (by simp)
  have hp:L2.Perm (b :: L2.erase b):=List.perm_cons_erase hb
  have hs:(L2.map g).sum=g b+((L2.erase b).map g).sum:=by
   rw [(hp.map g).sum_nat]; simp
  have:=ih (L2.erase b) (List.nodup_cons.1 h1).2 (h2.erase b) (fun a' ha'=>?_) (fun b' hb'=>?_)
  ·rw [hs,← this,← hfg a b hab]; simp
  ·obtain ⟨b',hb',hab'⟩:=h3 a' (by simp [ha'])
   refine ⟨b',?_,hab'⟩
   have hne:b'≠b:=fun e=>by
    subst e
    have:=inj _ _ _ hab hab'
    subst this
    exact (List.nodup_cons.1 h1).1 ha'
   exact (List.mem_erase_of_ne hne).2 hb'
  ·obtain ⟨a',ha',hab'⟩:=h4 b' (List.mem_of_mem_erase hb')
   have hne:b'≠b:=fun e=>by subst e; exact (List.Nodup.not_mem_erase h2) hb'
   rcases List.mem_cons.1 ha' with rfl | ha'
   ·exact absurd (fn _ _ _ hab' hab) hne
   ·exact ⟨a',ha',hab'⟩
def cnt (f:Nat→Bool) (n:Nat):Nat:=((List.range n).filter f).length
theorem cnt_succ (f:Nat→Bool) (n:Nat):cnt f (n+1)=cnt f n+(if f n=true then 1 else 0):=by
 unfold cnt; rw [List.range_succ,List.filter_append,List.length_append]
 cases h:f n <;> simp [h]
theorem cnt_le (f:Nat→Bool) (n:Nat):cnt f n≤n:=by
 induction n with
 | zero=>simp [cnt]
 | succ n ih=>rw [cnt_succ]; split <;> omega
theorem cnt_full (f:Nat→Bool) (n:Nat) (h:n≤cnt f n):∀ i,i < n→f i=true:=by
 induction n with
 | zero=>intro i hi; omega
 | succ n ih =>
  rw [cnt_succ] at h
  have:=cnt_le f n
  intro i hi
  split at h
  ·rename_i hn
   rcases Nat.lt_succ_iff_lt_or_eq.1 hi with hi | rfl
   ·exact ih (by omega) i hi
   ·exact hn
  ·omega
theorem cnt_mono (f g:Nat→Bool) (n:Nat) (h:∀ i,i < n→f i=true→g i=true):cnt f n≤cnt g n:=by
 induction n with
 | zero=>simp [cnt]
 | succ n ih =>
  rw [cnt_succ,cnt_succ]
  have:=ih (fun i hi=>h i (by omega))
  have h2:=h n (by omega)
  split
  ·rename_i hf; rw [if_pos (h2 hf)]; omega
  ·split <;> omega
theorem cnt_more (f g:Nat→Bool) (n k:Nat) (h:∀ i,i < n→f i=true→g i=true) (hk:k < n) (h1:f k=false) (h2:g k=true):cnt f n < cnt g n:=by
 induction n with
 | zero=>omega
 | succ n ih =>
  rw [cnt_succ,cnt_succ]
  rcases Nat.lt_succ_iff_lt_or_eq.1 hk with hk | rfl
  ·have:=ih (fun i hi=>h i (by omega)) hk
   have h3:=h n (by omega)
   split
   ·rename_i hf; rw [if_pos (h3 hf)]; omega
   ·split <;> omega
  ·rw [h1,h2]
   have:=cnt_mono f g k (fun i hi=>h i (by omega))
   simp; omega
end Go.Proofs.YtbgilndohccicaaGreatDoor
namespace Go.Proofs.YtbgilndohccicaaGreatDoor
abbrev Sch:=List (Int×List (Int×Int))
def fof (cs:Sch) (x:Int):List (Int×Int):=((cs.find? (fun c=>c.1==x)).getD (0,[])).2
theorem fof_le {cs:Sch} (h6:∀ c∈cs,c.2.length≤6) (x:Int):(fof cs x).length≤6:=by
 unfold fof
 cases hf:cs.find? (fun c=>c.1==x) with
 | none=>simp
 | some c=>exact h6 c (List.mem_of_find?_eq_some hf)
structure PH where
 R:Nat→Nat
 K:Nat→Int
 N:Nat→Nat→Int
 F:Nat→Nat→Nat
structure DH where
 R:Nat→Nat
 K:Nat→Int
 C:Nat→Nat→Int
 n:Nat
def PH.rt (p:PH) (x:Nat):Prop:=∃ i,i < 8∧p.R i=x∧x≠0
def PH.ed (p:PH) (x y:Nat):Prop:=∃ j,j < 6∧p.F x j=y∧y≠0
def PH.in (p:PH):Nat→Prop:=Rch p.rt p.ed
def DH.rt (r:DH) (x:Nat):Prop:=∃ i,i < 8∧r.R i=x∧x≠0
def DH.ed (r:DH) (cs:Sch) (x y:Nat):Prop:=∃ j f,(fof cs (r.K x))[j]?=some f∧f.2=114∧r.C x j=y∧y≠0
def DH.in (r:DH) (cs:Sch):Nat→Prop:=Rch r.rt (r.ed cs)
structure Bis (cs:Sch) (p:PH) (r:DH) (M:Nat→Nat→Prop):Prop where
 fn:∀ a b b',M a b→M a b'→b=b'
 inj:∀ a a' b,M a b→M a' b→a=a'
 pos:∀ a b,M a b→0 < a∧a < 201∧0 < b∧b≤r.n
 root:∀ i,i < 8→(p.R i=0∧r.R i=0)∨M (p.R i) (r.R i)
 cls:∀ a b,M a b→p.K a=r.K b
 has:∀ a b,M a b→(cs.any fun c=>c.1==p.K a)=true
 num:∀ a b,M a b→∀ j f,(fof cs (p.K a))[j]?=some f→f.2≠114→p.N a j=r.C b j
 ref:∀ a b,M a b→∀ j f,(fof cs (p.K a))[j]?=some f→f.2=114→(p.F a j=0∧r.C b j=0)∨∃ c:Nat,r.C b j=c∧M (p.F a j) c
 nor:∀ a b,M a b→∀ j,j < 6→(∀ f,(fof cs (p.K a))[j]?=some f→f.2≠114)→p.F a j=0
def Sim (cs:Sch) (p:PH) (r:DH):Prop:=∃ M,Bis cs p r M
theorem Bis.to {cs:Sch} {p:PH} {r:DH} {M:Nat→Nat→Prop} (h:Bis cs p r M) {a:Nat} (ha:p.in a):∃ b,M a b∧r.in cs b:=by
 refine Rch.least (P:=fun a=>∃ b,M a b∧r.in cs b) ?_ ?_ ha
 ·rintro x ⟨i,hi,rfl,hx⟩
  rcases h.root i hi with ⟨h1,_⟩ | h1
  ·exact absurd h1 hx
  ·exact ⟨_,h1,.root ⟨i,hi,rfl,by have:=(h.pos _ _ h1).2.2.1; omega⟩⟩
 ·rintro x y ⟨b,hb,hr⟩ ⟨j,hj,rfl,hy⟩
  by_cases hf:∃ f,(fof cs (p.K x))[j]?=some f∧f.2=114
  ·obtain ⟨f,hf,hk⟩:=hf
   rcases h.ref x b hb j f hf hk with ⟨h1,_⟩ | ⟨c,hc,hm⟩
   ·exact absurd h1 hy
   ·exact ⟨c,hm,.step hr ⟨j,f,by rw [← h.cls _ _ hb]; exact hf,hk,hc,by have:=(h.pos _ _ hm).2.2.1; omega⟩⟩
  ·exact absurd (h.nor x b hb j hj (fun f hf' hk=>hf ⟨f,hf',hk⟩)) hy
theorem Bis.from {cs:Sch} {p:PH} {r:DH} {M:Nat→Nat→Prop} (h:Bis cs p r M) (h6:∀ c∈cs,c.2.length≤6) {b:Nat} (hb:r.in cs b):∃ a,M a b∧p.in a:=by
 refine Rch.least (P:=fun b=>∃ a,M a b∧p.in a) ?_ ?_ hb
 ·rintro x ⟨i,hi,rfl,hx⟩
  rcases h.root i hi with ⟨_,h1⟩ | h1
  ·exact absurd h1 hx
  ·exact ⟨_,h1,.root ⟨i,hi,rfl,by have:=(h.pos _ _ h1).1; omega⟩⟩
 ·rintro x y ⟨a,ha,hr⟩ ⟨j,f,hf,hk,hc,hy⟩
  rw [← h.cls _ _ ha] at hf
  rcases h.ref a x ha j f hf hk with ⟨_,h1⟩ | ⟨c,hc',hm⟩
  ·rw [h1] at hc; omega
  ·have:c=y:=by omega
   subst this
   have hj:j < 6:=by
    have:=fof_le h6 (p.K a)
    obtain ⟨h',_⟩:=List.getElem?_eq_some_iff.1 hf
    omega
   exact ⟨_,hm,.step hr ⟨j,hj,rfl,by have:=(h.pos _ _ hm).1; omega⟩⟩
def wof (cs:Sch) (x:Int):Nat:=(fof cs x).length+1
theorem Bis.words {cs:Sch} {p:PH} {r:DH} {M:Nat→Nat→Prop} (h:Bis cs p r M) (h6:∀ c∈cs,c.2.length≤6) (L1 L2:List Nat) (n1:L1.Nodup) (n2:L2.Nodup) (m1:∀ a,a∈L1↔p.in a) (m2:∀ b,b∈L2↔r.in cs b) :
  (L1.map (fun a=>wof cs (p.K a))).sum=(L2.map (fun b=>wof cs (r.K b))).sum:=by
 refine sum_meet h.fn h.inj _ _ (fun a b hab=>by rw [h.cls _ _ hab]) L1 L2 n1 n2 (fun a ha=>?_) (fun b hb=>?_)
 ·obtain ⟨b,hb,hr⟩:=h.to ((m1 a).1 ha); exact ⟨b,(m2 b).2 hr,hb⟩
 ·obtain ⟨a,ha,hr⟩:=h.from h6 ((m2 b).1 hb); exact ⟨a,(m1 a).2 hr,ha⟩
def set1 {α:Type} (f:Nat→α) (i:Nat) (v:α):Nat→α:=fun j=>if j=i then v else f j
def set2 {α:Type} (f:Nat→Nat→α) (i k:Nat) (v:α):Nat→Nat→α:=fun a b=>if a=i∧b=k then v else f a b
theorem set1_self {α:Type} (f:Nat→α) (i:Nat) (v:α):set1 f i v i=v:=by simp [set1]
theorem set1_ne {α:Type} (f:Nat→α) {i j:Nat} (v:α) (h:j≠i):set1 f i v j=f j:=by simp [set1,h]
theorem set2_self {α:Type} (f:Nat→Nat→α) (i k:Nat) (v:α):set2 f i k v i k=v:=by simp [set2]
theorem set2_ne {α:Type} (f:Nat→Nat→α) {i k a b:Nat} (v:α) (h:¬ (a=i∧b=k)):set2 f i k v a b=f a b:=by simp [set2,h]
theorem Bis.setRoot {cs:Sch} {p:PH} {r:DH} {M:Nat→Nat→Prop} (h:Bis cs p r M) (i x y:Nat) (hxy:(x=0∧y=0)∨M x y):Bis cs { p with R:=set1 p.R i x } { r with R:=set1 r.R i y } M:=by
 refine ⟨h.fn,h.inj,h.pos,fun k hk=>?_,h.cls,h.has,h.num,h.ref,h.nor⟩
 by_cases e:k=i
 ·subst e; simpa [set1_self] using hxy
 ·simpa [set1_ne _ _ e] using h.root k hk
theorem Bis.setNum {cs:Sch} {p:PH} {r:DH} {M:Nat→Nat→Prop} (h:Bis cs p r M) {a b:Nat} (hab:M a b) (i:Nat) (v:Int) (f:Int×Int) (hf:(fof cs (p.K a))[i]?=some f) (hk:f.2≠114):Bis cs { p with N:=set2 p.N a i v } { r with C:=set2 r.C b i v } M:=by
 refine ⟨h.fn,h.inj,h.pos,h.root,h.cls,h.has,fun x y hxy j g hg hgk=>?_,fun x y hxy j g hg hgk=>?_,h.nor⟩
 ·by_cases e:x=a∧j=i
  ·obtain ⟨rfl,rfl⟩:=e
   have:=h.fn _ _ _ hxy hab
   subst this
   simp [set2_self]
  ·have e2:¬ (y=b∧j=i):=fun ⟨e1,e2⟩=>e ⟨h.inj _ _ _ hxy (e1 ▸ hab),e2⟩
   simp only [set2_ne _ _ e,set2_ne _ _ e2]
   exact h.num x y hxy j g hg hgk
 ·have e2:¬ (y=b∧j=i):=by
   rintro ⟨rfl,rfl⟩
   have:=h.inj _ _ _ hxy hab
   subst this
   rw [hf] at hg
   exact hk (by have:=Option.some.inj hg; rw [this]; exact hgk)
  simp only [set2_ne _ _ e2]
  exact h.ref x y hxy j g hg hgk
theorem Bis.setRef {cs:Sch} {p:PH} {r:DH} {M:Nat→Nat→Prop} (h:Bis cs p r M) {a b:Nat} (hab:M a b) (i x y:Nat) (hxy:(x=0∧y=0)∨M x y) (f:Int×Int) (hf:(fof cs (p.K a))[i]?=some f) (hk:f.2=114):Bis cs { p with F:=set2 p.F a i x } { r with C:=set2 r.C b i (y:Int) } M:=by
 refine ⟨h.fn,h.inj,h.pos,h.root,h.cls,h.has,fun u v huv j g hg hgk=>?_,fun u v huv j g hg hgk=>?_,fun u v huv j hj hno=>?_⟩
 ·have e2:¬ (v=b∧j=i):=by
   rintro ⟨rfl,rfl⟩
   have:=h.inj _ _ _ huv hab
   subst this
   rw [hf] at hg
   exact hgk (by have:=Option.some.inj hg; rw [← this]; exact hk)
  simp only [set2_ne _ _ e2]
  exact h.num u v huv j g hg hgk
 ·by_cases e:u=a∧j=i
  ·obtain ⟨rfl,rfl⟩:=e
   have:=h.fn _ _ _ huv hab
   subst this
   simp only [set2_self]
   rcases hxy with ⟨rfl,rfl⟩ | hm
   ·exact .inl ⟨rfl,rfl⟩
   ·exact .inr ⟨y,rfl,hm⟩
  ·have e2:¬ (v=b∧j=i):=fun ⟨e1,e2⟩=>e ⟨h.inj _ _ _ huv (e1 ▸ hab),e2⟩
   simp only [set2_ne _ _ e,set2_ne _ _ e2]
   exact h.ref u v huv j g hg hgk
 ·have e:¬ (u=a∧j=i):=by
   rintro ⟨rfl,rfl⟩
   exact hno f hf hk
  simp only [set2_ne _ _ e]
  exact h.nor u v huv j hj hno
theorem Bis.make {cs:Sch} {p:PH} {r:DH} {M:Nat→Nat→Prop} (h:Bis cs p r M) (h6:∀ c∈cs,c.2.length≤6) (a i:Nat) (c:Int) (ha:¬ p.in a) (h0:0 < a) (h1:a < 201) (hc:(cs.any fun x=>x.1==c)=true) (p':PH) (r':DH)
  (eR:p'.R=set1 p.R i a) (eK:p'.K=set1 p.K a c) (eN:∀ x j,x≠a→p'.N x j=p.N x j) (eN0:∀ j,j < 6→p'.N a j=0) (eF:∀ x j,x≠a→p'.F x j=p.F x j) (eF0:∀ j,j < 6→p'.F a j=0)
  (dR:r'.R=set1 r.R i (r.n+1)) (dK:∀ y,0 < y→y≤r.n→r'.K y=r.K y) (dK1:r'.K (r.n+1)=c) (dC:∀ y j,0 < y→y≤r.n→r'.C y j=r.C y j) (dC1:∀ j,r'.C (r.n+1) j=0) (dn:r'.n=r.n+1):Sim cs p' r':=by
 refine ⟨fun x y=>(M x y∧p.in x)∨(x=a∧y=r.n+1),?_,?_,?_,?_,?_,?_,?_,?_,?_⟩
 ·rintro x y y' (⟨h2,h3⟩ | ⟨rfl,rfl⟩) (⟨h4,h5⟩ | ⟨h4,rfl⟩)
  ·exact h.fn _ _ _ h2 h4
  ·subst h4; exact absurd h3 ha
  ·exact absurd h5 ha
  ·rfl
 ·rintro x x' y (⟨h2,h3⟩ | ⟨rfl,rfl⟩) (⟨h4,h5⟩ | ⟨rfl,h4⟩)
  ·exact h.inj _ _ _ h2 h4
  ·have:=(h.pos _ _ h2).2.2.2; omega
  ·have:=(h.pos _ _ h4).2.2.2; omega
  ·rfl
 ·rintro x y (⟨h2,h3⟩ | ⟨rfl,rfl⟩)
  ·have:=h.pos _ _ h2; rw [dn]; omega
  ·rw [dn]; omega
 ·intro k hk
  by_cases e:k=i
  ·subst e; rw [eR,dR,set1_self,set1_self]; exact .inr (.inr ⟨rfl,rfl⟩)
  ·rw [eR,dR,set1_ne _ _ e,set1_ne _ _ e]
   rcases h.root k hk with h2 | h2
   ·exact .inl h2
   ·exact .inr (.inl ⟨h2,.root ⟨k,hk,rfl,by have:=(h.pos _ _ h2).1; omega⟩⟩)
 all_goals
  rintro x y (⟨h2,h3⟩ | ⟨rfl,rfl⟩)
 ·have hne:x≠a:=fun e=>ha (e ▸ h3)
  have hp:=h.pos _ _ h2
  rw [eK,set1_ne _ _ hne,dK y hp.2.2.1 hp.2.2.2]; exact h.cls _ _ h2
 ·rw [eK,set1_self,dK1]
 ·have hne:x≠a:=fun e=>ha (e ▸ h3)
  rw [eK,set1_ne _ _ hne]; exact h.has _ _ h2
 ·rw [eK,set1_self]; exact hc
 ·have hne:x≠a:=fun e=>ha (e ▸ h3)
  have hp:=h.pos _ _ h2
  rw [eK,set1_ne _ _ hne]
  intro j f hf hk
  rw [eN _ _ hne,dC y j hp.2.2.1 hp.2.2.2]; exact h.num _ _ h2 j f hf hk
 ·intro j f hf hk
  rw [eK,set1_self] at hf
  rw [dC1,eN0 j (by have:=fof_le h6 c; obtain ⟨h',_⟩:=List.getElem?_eq_some_iff.1 hf; omega)]
 ·have hne:x≠a:=fun e=>ha (e ▸ h3)
  have hp:=h.pos _ _ h2
  rw [eK,set1_ne _ _ hne]
  intro j f hf hk
  rw [eF _ _ hne,dC y j hp.2.2.1 hp.2.2.2]
  have hj:j < 6:=by have:=fof_le h6 (p.K x); obtain ⟨h',_⟩:=List.getElem?_eq_some_iff.1 hf; omega
  rcases h.ref _ _ h2 j f hf hk with h4 | ⟨c',h4,h5⟩
  ·exact .inl h4
  ·exact .inr ⟨c',h4,.inl ⟨h5,.step h3 ⟨j,hj,rfl,by have:=(h.pos _ _ h5).1; omega⟩⟩⟩
 ·intro j f hf hk
  rw [eK,set1_self] at hf
  rw [dC1,eF0 j (by have:=fof_le h6 c; obtain ⟨h',_⟩:=List.getElem?_eq_some_iff.1 hf; omega)]
  exact .inl ⟨rfl,rfl⟩
 ·have hne:x≠a:=fun e=>ha (e ▸ h3)
  rw [eK,set1_ne _ _ hne]
  intro j hj hno
  rw [eF _ _ hne]; exact h.nor _ _ h2 j hj hno
 ·intro j hj _; exact eF0 j hj
end Go.Proofs.YtbgilndohccicaaGreatDoor
