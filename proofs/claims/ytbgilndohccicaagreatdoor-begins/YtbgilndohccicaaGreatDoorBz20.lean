import Derived.Test.YtbgilndohccicaaGreatDoorBz16
import Derived.Maps.AppendAt
import Derived.Test.YtbgilndohccicaaGreatDoorBz06
import Derived.WalkKit
namespace Go.Proofs.YtbgilndohccicaaGreatDoor
open Go.RowKit
structure SumR where
 ok:Bool
 at_:Nat
 ts:List GT
def gNum (s:ByteArray):Nat→Nat→Int→Int×Nat
 | 0,k,v=>(v,k)
 | n+1,k,v=>if 48≤nextB s k∧nextB s k≤57 then (if v * 10+(nextB s k - 48)=0 then (0,k+1) else gNum s n (k+1) (v * 10+(nextB s k - 48))) else (v,k)
def facR (s:ByteArray) (sm:Option (Nat→List GT→SumR)) (k:Nat) (ts:List GT):SumR :=
 if 48≤nextB s k∧nextB s k≤57 then ⟨true,(gNum s 9 k 0).2,ts++[⟨48,(gNum s 9 k 0).1,k⟩]⟩
 else if 97≤nextB s k∧nextB s k≤122 then ⟨true,k+1,ts++[⟨nextB s k,0,k⟩]⟩
 else if nextB s k≠40 then ⟨false,k,ts⟩
 else match sm with
  | none=>⟨false,k,ts⟩
  | some f=>if (f (k+1) ts).ok=true∧nextB s (f (k+1) ts).at_=41 then ⟨true,(f (k+1) ts).at_+1,(f (k+1) ts).ts⟩ else ⟨false,(f (k+1) ts).at_,(f (k+1) ts).ts⟩
def opStep (s:ByteArray) (f:Nat→List GT→SumR) (r:SumR):SumR:=⟨(f (r.at_+1) r.ts).ok,(f (r.at_+1) r.ts).at_,(f (r.at_+1) r.ts).ts++[⟨nextB s r.at_,0,r.at_⟩]⟩
def opLoop (s:ByteArray) (p:Int→Bool) (f:Nat→List GT→SumR):Nat→SumR→SumR
 | 0,r=>r
 | n+1,r=>if r.ok=true∧p (nextB s r.at_)=true then opLoop s p f n (opStep s f r) else r
def isMul (c:Int):Bool:=c==42
def isAdd (c:Int):Bool:=c==43 || c==45
def prodR (s:ByteArray) (sm:Option (Nat→List GT→SumR)) (k:Nat) (ts:List GT):SumR:=opLoop s isMul (facR s sm) (s.size+1) (facR s sm k ts)
def sumR0 (s:ByteArray) (sm:Option (Nat→List GT→SumR)) (k:Nat) (ts:List GT):SumR:=opLoop s isAdd (prodR s sm) (s.size+1) (prodR s sm k ts)
def sumRL (s:ByteArray):Nat→Nat→List GT→SumR
 | 0=>sumR0 s none
 | n+1=>sumR0 s (some (sumRL s n))
def Grow (f:Nat→List GT→SumR):Prop:=∀ k ts,k≤(f k ts).at_∧(f k ts).ts.length+k≤ts.length+(f k ts).at_
theorem gNum_grow (s:ByteArray):∀ n k v,k≤(gNum s n k v).2:=by
 intro n
 induction n with
 | zero=>intro k v; exact Nat.le_refl _
 | succ n ih =>
  intro k v
  rw [gNum]
  split
  ·split
   ·exact Nat.le_succ _
   ·have:=ih (k+1) (v * 10+(nextB s k - 48)); omega
  ·exact Nat.le_refl _
theorem gNum_first (s:ByteArray) (k:Nat) (h:48≤nextB s k∧nextB s k≤57):k+1≤(gNum s 9 k 0).2:=by
 rw [gNum,if_pos h]
 split
 ·exact Nat.le_refl _
 ·exact gNum_grow s 8 _ _
theorem facR_grow (s:ByteArray) (sm:Option (Nat→List GT→SumR)) (h:∀ f,sm=some f→Grow f):Grow (facR s sm):=by
 intro k ts
 unfold facR
 split
 ·rename_i h1; have:=gNum_first s k h1; refine ⟨by show k≤(gNum s 9 k 0).2; omega,?_⟩; simp only [List.length_append,List.length_cons,List.length_nil]; omega
 ·split
  ·refine ⟨Nat.le_succ _,?_⟩; simp only [List.length_append,List.length_cons,List.length_nil]; omega
  ·split
   ·exact ⟨Nat.le_refl _,Nat.le_refl _⟩
   ·cases sm with
    | none=>exact ⟨Nat.le_refl _,Nat.le_refl _⟩
    | some f =>
     have:=h f rfl (k+1) ts
     simp only []
     split
     ·refine ⟨?_,?_⟩ <;> simp only [] <;> omega
     ·refine ⟨?_,?_⟩ <;> simp only [] <;> omega
theorem opLoop_grow (s:ByteArray) (p:Int→Bool) (f:Nat→List GT→SumR) (h:Grow f):∀ n r,r.at_≤(opLoop s p f n r).at_∧(opLoop s p f n r).ts.length+r.at_≤r.ts.length+(opLoop s p f n r).at_:=by
 intro n
 induction n with
 | zero=>intro r; exact ⟨Nat.le_refl _,Nat.le_refl _⟩
 | succ n ih =>
  intro r
  rw [opLoop]
  split
  ·have h1:=h (r.at_+1) r.ts
   have h2:=ih (opStep s f r)
   have e1:(opStep s f r).at_=(f (r.at_+1) r.ts).at_:=rfl
   have e2:(opStep s f r).ts.length=(f (r.at_+1) r.ts).ts.length+1:=by simp [opStep]
   rw [e1,e2] at h2
   omega
  ·exact ⟨Nat.le_refl _,Nat.le_refl _⟩
theorem loop_grow (s:ByteArray) (p:Int→Bool) (f:Nat→List GT→SumR) (n:Nat) (h:Grow f):Grow (fun k ts=>opLoop s p f n (f k ts)):=by
 intro k ts
 have h1:=h k ts
 have h2:=opLoop_grow s p f h n (f k ts)
 simp only []
 omega
theorem prodR_grow (s:ByteArray) (sm:Option (Nat→List GT→SumR)) (h:∀ f,sm=some f→Grow f):Grow (prodR s sm):=loop_grow s isMul _ _ (facR_grow s sm h)
theorem sumR0_grow (s:ByteArray) (sm:Option (Nat→List GT→SumR)) (h:∀ f,sm=some f→Grow f):Grow (sumR0 s sm):=loop_grow s isAdd _ _ (prodR_grow s sm h)
theorem sumRL_grow (s:ByteArray):∀ n,Grow (sumRL s n):=by
 intro n
 induction n with
 | zero=>exact sumR0_grow s none (fun f h=>by cases h)
 | succ n ih=>exact sumR0_grow s (some (sumRL s n)) (fun f h=>by cases h; exact ih)
theorem opLoop_stop (s:ByteArray) (p:Int→Bool) (f:Nat→List GT→SumR) (r:SumR) (h:¬ (r.ok=true∧p (nextB s r.at_)=true)) (n:Nat):opLoop s p f n r=r:=by
 cases n with
 | zero=>rfl
 | succ n=>rw [opLoop,if_neg h]
theorem opLoop_step (s:ByteArray) (p:Int→Bool) (f:Nat→List GT→SumR) (r:SumR) (h:r.ok=true∧p (nextB s r.at_)=true) (n:Nat):opLoop s p f (n+1) r=opLoop s p f n (opStep s f r):=by rw [opLoop,if_pos h]
structure Fr (b:Nat) (v v':Value) (w w':World):Prop where
 os:w'.os=w.os
 tape:w'.tape=w.tape
 output:w'.output=w.output
 size:w.heap.size≤w'.heap.size
 blk:∀ k,k < w.heap.size→k≠b→v.ownBlock≠some k→w'.heap[k]?=w.heap[k]?
 own:∀ g,v'.ownBlock=some g→v.ownBlock=some g∨w.heap.size≤g
theorem Fr.refl (b:Nat) (v:Value) (w:World):Fr b v v w w:=⟨rfl,rfl,rfl,Nat.le_refl _,fun _ _ _ _=>rfl,fun _ h=>.inl h⟩
theorem Fr.trans {b:Nat} {v v1 v2:Value} {w w1 w2:World} (h:Fr b v v1 w w1) (k:Fr b v1 v2 w1 w2):Fr b v v2 w w2 :=
 ⟨k.os.trans h.os,k.tape.trans h.tape,k.output.trans h.output,Nat.le_trans h.size k.size,
  fun i hi hb hv=>(k.blk i (Nat.lt_of_lt_of_le hi h.size) hb (fun e=>by rcases h.own i e with e' | e'; exact hv e'; omega)).trans (h.blk i hi hb hv),
  fun g hg=>by
  rcases k.own g hg with e | e
  ·exact h.own g e
  ·have:=h.size; right; omega⟩
theorem Fr.below {b:Nat} {v:Value} {w w':World} (h:Below w.heap.size w w'):Fr b v v w w' :=
 ⟨h.os,h.tape,h.output,h.size,fun k hk _ _=>h.block k hk,fun _ h=>.inl h⟩
theorem Fr.setB (b o:Nat) (v x:Value) (w:World):Fr b v v w (w.setCell ⟨b,o,none⟩ x):=by
 have g:=gb_set w b o x
 exact ⟨g.os,g.tape,g.output,g.size,fun k hk hb _=>g.block k hk (by simpa using hb),fun _ h=>.inl h⟩
structure RT (w:World) (b:Nat) (s:ByteArray) (k:Nat) (base:Nat) (v:Value) (ts:List GT):Prop where
 rs:RS w b s k true
 c3:w.cell? ⟨b,3,none⟩=some v
 tv:TVb w base v ts
 lt:b < base
 le:base≤w.heap.size
 ln:ts.length≤k
theorem RT.below {w w':World} {b:Nat} {s:ByteArray} {k base:Nat} {v:Value} {ts:List GT} (h:RT w b s k base v ts) (hb:Below w.heap.size w w'):RT w' b s k base v ts :=
 ⟨h.rs.below hb,(World.cell?_of_block (a:=⟨b,3,none⟩) (hb.block b h.rs.blt)).trans h.c3,World.ownsRow.kept h.tv (gb_below hb none) (by cases hv:v.ownBlock <;> simp),h.lt,Nat.le_trans h.le hb.size,h.ln⟩
theorem RT.alloc {w:World} {b:Nat} {s:ByteArray} {k base:Nat} {v:Value} {ts:List GT} (h:RT w b s k base v ts) (o:Obj):RT (w.alloc o) b s k base v ts:=h.below ((Below.refl _ _).alloc (Nat.le_refl _) o)
theorem RT.inc {w:World} {b:Nat} {s:ByteArray} {k base:Nat} {v:Value} {ts:List GT} (h:RT w b s k base v ts) (hk:k < s.size):RT (w.setCell ⟨b,1,none⟩ (.int .i64 ((k:Int)+1))) b s (k+1) base v ts:=by
 have c3:=h.c3
 exact ⟨h.rs.inc hk,by go_simp,h.tv.setOld h.lt,h.lt,Nat.le_trans h.le (gb_set w b 1 _).size,Nat.le_succ_of_le h.ln⟩
theorem RT.own {w:World} {b:Nat} {s:ByteArray} {k base:Nat} {v:Value} {ts:List GT} (h:RT w b s k base v ts):∀ g,v.ownBlock=some g→base≤g∧g < w.heap.size:=fun g hg=>World.ownsRow.lt h.tv g hg
theorem flatT_app (a b:List GT):flatT (a++b)=flatT a++flatT b:=by
 induction a with
 | nil=>rfl
 | cons x a ih=>simp only [List.cons_append,flatT,ih]
theorem RT.app {w w2:World} {b:Nat} {s:ByteArray} {k base:Nat} {v v':Value} {ts:List GT} {t:GT} {o:Obj} (h:RT w b s k base v ts) (hl:ts.length+1≤k)
  (hown:w2.ownsRow base 220 3 v' (ts.length+1) (flatT ts++[.int .u8 t.w,.int .i64 t.v,.int .i64 t.p])) (hg:(w.alloc o).grownBy w2 v.ownBlock) (hat:v'.ownBlock=v.ownBlock∨v'.ownBlock=some (w.alloc o).heap.size) :
  RT (w2.setCell ⟨b,3,none⟩ v') b s k base v' (ts++[t])∧Fr b v v' w (w2.setCell ⟨b,3,none⟩ v'):=by
 have g1:w.grownBy w2 v.ownBlock:=gb_trans (World.grownBy_alloc w o _) hg
 have hb:some b≠v.ownBlock:=fun e=>by have:=(h.own b e.symm).1; have:=h.lt; omega
 have R2:RS w2 b s k true:=h.rs.kept g1 hb
 have hb2:b < w2.heap.size:=R2.blt
 obtain ⟨z,c3⟩:=R2.c3
 have R3:RS (w2.setCell ⟨b,3,none⟩ v') b s k true:=by
  obtain ⟨c0,c1,c2,_,f1,f3,le,lt⟩:=R2
  exact ⟨by go_simp,by go_simp,by go_simp,⟨v',by go_simp⟩,by go_simp,by go_simp,le,lt⟩
 have e:flatT (ts++[t])=flatT ts++[.int .u8 t.w,.int .i64 t.v,.int .i64 t.p]:=flatT_app ts [t]
 have T2:TVb w2 base v' (ts++[t]):=by unfold TVb; rw [e,List.length_append]; exact hown
 refine ⟨⟨R3,by go_simp,T2.setOld h.lt,h.lt,Nat.le_trans h.le (Nat.le_trans g1.size (gb_set w2 b 3 v').size),by simpa using hl⟩,?_⟩
 refine ⟨g1.os,g1.tape,g1.output,Nat.le_trans g1.size (gb_set w2 b 3 v').size,fun i hi hib hv=>?_,fun g hg=>?_⟩
 ·exact ((gb_set w2 b 3 v').block i (Nat.lt_of_lt_of_le hi g1.size) (by simpa using hib)).trans (g1.block i hi (fun e=>hv e.symm))
 ·rcases hat with e | e
  ·exact .inl (by rw [← e]; exact hg)
  ·right; rw [e] at hg; injection hg with hg; subst hg; simp
end Go.Proofs.YtbgilndohccicaaGreatDoor
namespace Go.Proofs.YtbgilndohccicaaGreatDoor
open Go.RowKit
def joinI (a s b:Int):Int:=if s=43 then wrap64 (a+b) else if s=45 then wrap64 (a - b) else wrap64 (a * b)
def isOpB (c:Int):Bool:=c==43 || c==45 || c==42
def top (l:List Int):Int:=l.getLast?.getD 0
def ev1 (num:Int→Int) (t:GT) (l:List Int):List Int:=if isOpB t.w=true then l.dropLast.dropLast++[joinI (top l.dropLast) t.w (top l)] else if t.w=48 then l++[t.v] else l++[num t.w]
def ev (num:Int→Int):List GT→List Int→List Int
 | [],l=>l
 | t :: r,l=>ev num r (ev1 num t l)
theorem ev_app (num:Int→Int):∀ (a b:List GT) (l:List Int),ev num (a++b) l=ev num b (ev num a l):=by
 intro a
 induction a with
 | nil=>intro b l; rfl
 | cons t r ih=>intro b l; exact ih b _
theorem ev_sign (num:Int→Int) (s p:Int) (hs:isOpB s=true) (l:List Int) (n m:Int):ev num [⟨s,0,p⟩] (l++[n]++[m])=l++[joinI n s m]:=by
 show ev1 num ⟨s,0,p⟩ (l++[n]++[m])=_
 unfold ev1
 simp only []
 rw [if_pos hs]
 unfold top
 rw [List.dropLast_concat,List.dropLast_concat]
 simp
end Go.Proofs.YtbgilndohccicaaGreatDoor
namespace Go.Proofs.YtbgilndohccicaaGreatDoor
open Go.RowKit
def digB (t:ByteArray):Bool:=(List.range t.size).all (fun j=>decide (48≤nextB t j) && decide (nextB t j≤57))
def numB (t:ByteArray):Bool:=if t.size < 1∨9 < t.size∨(1 < t.size∧nextB t 0=48) then false else digB t
theorem digB_no {t:ByteArray} {k:Nat} (hk:k < t.size) (h:nextB t k < 48∨57 < nextB t k):digB t=false:=by
 unfold digB; rw [List.all_eq_false]; exact ⟨k,List.mem_range.2 hk,by simp; omega⟩
theorem digB_yes {t:ByteArray} (h:∀ j,j < t.size→48≤nextB t j∧nextB t j≤57):digB t=true:=by
 unfold digB; rw [List.all_eq_true]; intro j hj; have:=h j (List.mem_range.1 hj); simp; omega
theorem nextB_at {t:ByteArray} {k:Nat} (h:k < t.size):(t[k].toNat:Int)=nextB t k:=(nextB_in h).symm
theorem ret_b {a b:Bool} (h:a=b):Ending.returned (.bool a)=.returned (.bool b):=by rw [h]
set_option maxHeartbeats 400000 in
set_option maxRecDepth 20000 in
theorem numeral_any (t:ByteArray) (w:World) (hm:t.size≤4611686018427387904) :
  Calls Tryz.prog 149 #[.string t] w fun e w'=>e=.returned (.bool (numB t))∧w'=w:=by
 by_cases h1:t.size < 1
 ·have e:numB t=false:=by unfold numB; rw [if_pos (.inl h1)]
  rw [e]
  go_enter Tryz.func149,Tryz.ntmps149
  go_wp2
  go_ret
  exact ⟨rfl,rfl⟩
 by_cases h2:9 < t.size
 ·have e:numB t=false:=by unfold numB; rw [if_pos (.inr (.inl h2))]
  rw [e]
  go_enter Tryz.func149,Tryz.ntmps149
  go_wp2
  go_ret
  exact ⟨rfl,rfl⟩
 by_cases h3:1 < t.size∧nextB t 0=48
 ·have e:numB t=false:=by unfold numB; rw [if_pos (.inr (.inr h3))]
  have h0:0 < t.size:=by omega
  have hx:=nextB_at h0
  rw [e]
  obtain ⟨h31,h32⟩:=h3
  rw [h32] at hx
  go_enter Tryz.func149,Tryz.ntmps149
  go_wp2
  go_ret
  exact ⟨rfl,rfl⟩
 ·have e:numB t=digB t:=by unfold numB; rw [if_neg (by omega)]
  have h0:0 < t.size:=by omega
  have hx:=nextB_at h0
  obtain ⟨D,hD⟩:∃ D,D=digB t:=⟨_,rfl⟩
  rw [e,← hD]
  have HD:Hid (D=digB t):=hD
  clear hD e
  have hL:∀ W:World,True:=fun _=>trivial
  by_cases h4:1 < t.size
  ·have h5:(nextB t 0==48)=false:=by simpa using fun h=>h3 ⟨h4,h⟩
   go_enter Tryz.func149,Tryz.ntmps149
   go_wp2
   go_loop [3] (fun i=>∃ k:Nat,k≤t.size∧i=.int .i64 k∧Hid (∀ j,j < k→48≤nextB t j∧nextB t j≤57)) (fun i=>t.size - (intOf i).toNat)
   case atStart=>exact ⟨0,Nat.zero_le _,rfl,fun j hj=>by omega⟩
   case round =>
    obtain ⟨k,hk,rfl,HJ⟩:=hrel
    by_cases hlt:k < t.size
    ·have hxk:=nextB_at hlt
     by_cases q1:nextB t k < 48
     ·have HF:Hid (D=false):=by show D=false; rw [HD.out]; exact digB_no hlt (.inl q1)
      go_wp2
      go_ret
      exact ⟨ret_b HF.out.symm,rfl⟩
     ·by_cases q2:57 < nextB t k
      ·have HF:Hid (D=false):=by show D=false; rw [HD.out]; exact digB_no hlt (.inr q2)
       go_wp2
       go_ret
       exact ⟨ret_b HF.out.symm,rfl⟩
      ·have HJ':Hid (∀ j,j < k+1→48≤nextB t j∧nextB t j≤57):=by
        intro j hj
        by_cases ej:j=k
        ·subst ej; omega
        ·exact HJ.out j (by omega)
       go_wp2
       exact ⟨⟨k+1,by omega,rfl,HJ'⟩,by simp [intOf]; omega⟩
    ·have HF:Hid (D=true):=by show D=true; rw [HD.out]; exact digB_yes fun j hj=>HJ.out j (by omega)
     go_wp2
     go_ret
     exact ⟨ret_b HF.out.symm,rfl⟩
  ·go_enter Tryz.func149,Tryz.ntmps149
   go_wp2
   go_loop [3] (fun i=>∃ k:Nat,k≤t.size∧i=.int .i64 k∧Hid (∀ j,j < k→48≤nextB t j∧nextB t j≤57)) (fun i=>t.size - (intOf i).toNat)
   case atStart=>exact ⟨0,Nat.zero_le _,rfl,fun j hj=>by omega⟩
   case round =>
    obtain ⟨k,hk,rfl,HJ⟩:=hrel
    by_cases hlt:k < t.size
    ·have hxk:=nextB_at hlt
     by_cases q1:nextB t k < 48
     ·have HF:Hid (D=false):=by show D=false; rw [HD.out]; exact digB_no hlt (.inl q1)
      go_wp2
      go_ret
      exact ⟨ret_b HF.out.symm,rfl⟩
     ·by_cases q2:57 < nextB t k
      ·have HF:Hid (D=false):=by show D=false; rw [HD.out]; exact digB_no hlt (.inr q2)
       go_wp2
       go_ret
       exact ⟨ret_b HF.out.symm,rfl⟩
      ·have HJ':Hid (∀ j,j < k+1→48≤nextB t j∧nextB t j≤57):=by
        intro j hj
        by_cases ej:j=k
        ·subst ej; omega
        ·exact HJ.out j (by omega)
       go_wp2
       exact ⟨⟨k+1,by omega,rfl,HJ'⟩,by simp [intOf]; omega⟩
    ·have HF:Hid (D=true):=by show D=true; rw [HD.out]; exact digB_yes fun j hj=>HJ.out j (by omega)
     go_wp2
     go_ret
     exact ⟨ret_b HF.out.symm,rfl⟩
def lastL (t:ByteArray) (a b:Int):Nat→Nat→Int→Int→Int
 | 0,_,_,at_=>at_
 | n+1,k,deep,at_ =>
  if nextB t k=40 then lastL t a b n (k+1) (deep+1) at_
  else if nextB t k=41 then lastL t a b n (k+1) (deep - 1) at_
  else if deep=0∧(nextB t k=a∨nextB t k=b) then lastL t a b n (k+1) deep k
  else lastL t a b n (k+1) deep at_
def lastI (t:ByteArray) (a b:Int):Int:=lastL t a b t.size 0 0 (-1)
set_option maxHeartbeats 1000000 in
set_option maxRecDepth 20000 in
theorem last_any (t:ByteArray) (a b:Int) (w:World) (hm:t.size≤1000) :
  Calls Tryz.prog 122 #[.string t,.int .u8 a,.int .u8 b] w fun e w'=>e=.returned (.int .i64 (lastI t a b))∧w'=w:=by
 obtain ⟨L,hL⟩:∃ L,L=lastI t a b:=⟨_,rfl⟩
 rw [← hL]
 have HL:Hid (L=lastL t a b t.size 0 0 (-1)):=hL
 clear hL
 go_enter Tryz.func122,Tryz.ntmps122
 go_wp2
 go_loop [7,8,9] (fun dv av i=>∃ (k:Nat) (d p:Int),k≤t.size∧i=.int .i64 k∧dv=.int .i64 d∧av=.int .i64 p∧-(k:Int)≤d∧d≤k∧-1≤p∧p≤1000∧Hid (L=lastL t a b (t.size - k) k d p)) (fun _ _ i=>t.size - (intOf i).toNat)
 case atStart=>exact ⟨0,0,-1,Nat.zero_le _,rfl,rfl,rfl,by omega,by omega,by omega,by omega,HL.out⟩
 case round =>
  obtain ⟨k,d,p,hk,rfl,rfl,rfl,d1,d2,p1,p2,HQ⟩:=hrel
  by_cases hlt:k < t.size
  ·have hx:=nextB_at hlt
   have hq:=HQ.out
   rw [show t.size - k=(t.size - (k+1))+1 by omega,lastL] at hq
   by_cases c1:nextB t k=40
   ·rw [if_pos c1] at hq
    have HQ':Hid (L=lastL t a b (t.size - (k+1)) (k+1) (d+1) p):=hq
    rw [c1] at hx
    clear hq HQ HL
    go_wp2
    exact ⟨⟨k+1,d+1,p,by omega,rfl,rfl,rfl,by omega,by omega,p1,p2,HQ'⟩,by simp [intOf]; omega⟩
   ·rw [if_neg c1] at hq
    have c1':(nextB t k==40)=false:=by simpa using c1
    by_cases c2:nextB t k=41
    ·rw [if_pos c2] at hq
     have HQ':Hid (L=lastL t a b (t.size - (k+1)) (k+1) (d - 1) p):=hq
     rw [c2] at hx
     clear hq HQ HL c1 c1'
     go_wp2
     exact ⟨⟨k+1,d - 1,p,by omega,rfl,rfl,rfl,by omega,by omega,p1,p2,HQ'⟩,by simp [intOf]; omega⟩
    ·rw [if_neg c2] at hq
     have c2':(nextB t k==41)=false:=by simpa using c2
     by_cases c3:d=0
     ·subst c3
      by_cases c4:nextB t k=a
      ·rw [if_pos ⟨rfl,.inl c4⟩] at hq
       have HQ':Hid (L=lastL t a b (t.size - (k+1)) (k+1) 0 k):=hq
       have c4':(nextB t k==a)=true:=by simpa using c4
       clear hq HQ HL c4
       go_wp2
       exact ⟨⟨k+1,0,k,by omega,rfl,rfl,rfl,by omega,by omega,by omega,by omega,HQ'⟩,by simp [intOf]; omega⟩
      ·have c4':(nextB t k==a)=false:=by simpa using c4
       by_cases c5:nextB t k=b
       ·rw [if_pos ⟨rfl,.inr c5⟩] at hq
        have HQ':Hid (L=lastL t a b (t.size - (k+1)) (k+1) 0 k):=hq
        have c5':(nextB t k==b)=true:=by simpa using c5
        clear hq HQ HL c5
        go_wp2
        exact ⟨⟨k+1,0,k,by omega,rfl,rfl,rfl,by omega,by omega,by omega,by omega,HQ'⟩,by simp [intOf]; omega⟩
       ·have c5':(nextB t k==b)=false:=by simpa using c5
        rw [if_neg (fun h=>h.2.elim c4 c5)] at hq
        have HQ':Hid (L=lastL t a b (t.size - (k+1)) (k+1) 0 p):=hq
        clear hq HQ HL
        go_wp2
        exact ⟨⟨k+1,0,p,by omega,rfl,rfl,rfl,by omega,by omega,p1,p2,HQ'⟩,by simp [intOf]; omega⟩
     ·rw [if_neg (fun h=>c3 h.1)] at hq
      have HQ':Hid (L=lastL t a b (t.size - (k+1)) (k+1) d p):=hq
      have c3':(d==0)=false:=by simpa using c3
      clear hq HQ HL
      go_wp2
      exact ⟨⟨k+1,d,p,by omega,rfl,rfl,rfl,by omega,by omega,p1,p2,HQ'⟩,by simp [intOf]; omega⟩
  ·obtain rfl:k=t.size:=by omega
   have HF:Hid (p=L):=by show p=L; rw [HQ.out,Nat.sub_self,lastL]
   go_wp2
   go_ret
   exact ⟨by rw [← HF.out]; rfl,rfl⟩
end Go.Proofs.YtbgilndohccicaaGreatDoor
namespace Go.Proofs.YtbgilndohccicaaGreatDoor
open Go.RowKit
theorem lastL_bd (t:ByteArray) (a b:Int):∀ (n k:Nat) (d p:Int),-1≤p→p < k→-1≤lastL t a b n k d p∧lastL t a b n k d p < (k:Int)+n:=by
 intro n
 induction n with
 | zero=>intro k d p h1 h2; simp only [lastL]; omega
 | succ n ih =>
  intro k d p h1 h2
  rw [lastL]
  split
  ·have:=ih (k+1) (d+1) p h1 (by omega); omega
  ·split
   ·have:=ih (k+1) (d - 1) p h1 (by omega); omega
   ·split
    ·have:=ih (k+1) d k (by omega) (by omega); omega
    ·have:=ih (k+1) d p h1 (by omega); omega
theorem lastI_bd (t:ByteArray) (a b:Int):-1≤lastI t a b∧lastI t a b < t.size:=by
 have:=lastL_bd t a b t.size 0 0 (-1) (by omega) (by omega)
 unfold lastI; omega
def gX:Nat→Nat→ByteArray→Nat→Bool
 | 0,_,_,_=>false
 | f+1,m,t,d =>
  if m=0 then (if 0≤lastI t 43 45 then gX f 0 (t.extract 0 (lastI t 43 45).toNat) d && gX f 1 (t.extract ((lastI t 43 45).toNat+1) t.size) d else gX f 1 t d)
  else if m=1 then (if 0≤lastI t 42 42 then gX f 1 (t.extract 0 (lastI t 42 42).toNat) d && gX f 2 (t.extract ((lastI t 42 42).toNat+1) t.size) d else gX f 2 t d)
  else if t.size=1∧97≤nextB t 0∧nextB t 0≤122 then true
  else if 2 < t.size∧nextB t 0=40∧nextB t (t.size - 1)=41∧0 < d then gX f 0 (t.extract 1 (t.size - 1)) (d - 1)
  else numB t
def gS (f:Nat) (t:ByteArray) (d:Nat):Bool:=gX f 0 t d
def gP (f:Nat) (t:ByteArray) (d:Nat):Bool:=gX f 1 t d
def gF (f:Nat) (t:ByteArray) (d:Nat):Bool:=gX f 2 t d
theorem gS_succ (f:Nat) (t:ByteArray) (d:Nat):gS (f+1) t d=if 0≤lastI t 43 45 then gS f (t.extract 0 (lastI t 43 45).toNat) d && gP f (t.extract ((lastI t 43 45).toNat+1) t.size) d else gP f t d:=rfl
theorem gP_succ (f:Nat) (t:ByteArray) (d:Nat):gP (f+1) t d=if 0≤lastI t 42 42 then gP f (t.extract 0 (lastI t 42 42).toNat) d && gF f (t.extract ((lastI t 42 42).toNat+1) t.size) d else gF f t d:=rfl
theorem gF_succ (f:Nat) (t:ByteArray) (d:Nat):gF (f+1) t d=if t.size=1∧97≤nextB t 0∧nextB t 0≤122 then true
  else if 2 < t.size∧nextB t 0=40∧nextB t (t.size - 1)=41∧0 < d then gS f (t.extract 1 (t.size - 1)) (d - 1) else numB t:=rfl
def CS (f:Nat) (t:ByteArray) (d:Nat):Prop:=∀ w:World,Calls Tryz.prog 135 #[.string t,.int .i64 d] w fun e w'=>e=.returned (.bool (gS f t d))∧w'=w
def CP (f:Nat) (t:ByteArray) (d:Nat):Prop:=∀ w:World,Calls Tryz.prog 144 #[.string t,.int .i64 d] w fun e w'=>e=.returned (.bool (gP f t d))∧w'=w
def CF (f:Nat) (t:ByteArray) (d:Nat):Prop:=∀ w:World,Calls Tryz.prog 147 #[.string t,.int .i64 d] w fun e w'=>e=.returned (.bool (gF f t d))∧w'=w
set_option maxHeartbeats 400000 in
set_option maxRecDepth 20000 in
theorem isSum_step (f:Nat) (t:ByteArray) (d:Nat) (hm:t.size≤1000) (hS:∀ i:Nat,lastI t 43 45=i→CS f (t.extract 0 i) d) (hP:∀ i:Nat,lastI t 43 45=i→CP f (t.extract (i+1) t.size) d) (hN:lastI t 43 45 < 0→CP f t d):CS (f+1) t d:=by
 intro w
 obtain ⟨b1,b2⟩:=lastI_bd t 43 45
 have L:=last_any t 43 45 w hm
 rw [gS_succ]
 obtain ⟨l,hl⟩:∃ l,l=lastI t 43 45:=⟨_,rfl⟩
 rw [← hl] at b1 b2 L hS hP hN ⊢
 clear hl
 by_cases h:0≤l
 ·obtain ⟨i,rfl⟩:∃ i:Nat,l=i:=⟨l.toNat,by omega⟩
  have S:=hS i rfl w
  have P:=hP i rfl w
  rw [if_pos h,Int.toNat_natCast]
  obtain ⟨x,hx⟩:∃ x,x=gS f (t.extract 0 i) d:=⟨_,rfl⟩
  obtain ⟨y,hy⟩:∃ y,y=gP f (t.extract (i+1) t.size) d:=⟨_,rfl⟩
  rw [← hx] at S ⊢
  rw [← hy] at P ⊢
  clear hS hP hN hx hy
  cases x with
  | true =>
   go_enter Tryz.func135,Tryz.ntmps135
   go_wp2_with fail
   refine L.mono ?_
   rintro e w' ⟨rfl,rfl⟩
   go_wp2_with fail
   refine S.mono ?_
   rintro e w' ⟨rfl,rfl⟩
   go_wp2_with fail
   refine P.mono ?_
   rintro e w' ⟨rfl,rfl⟩
   go_wp2
   go_ret
   exact ⟨rfl,rfl⟩
  | false =>
   go_enter Tryz.func135,Tryz.ntmps135
   go_wp2_with fail
   refine L.mono ?_
   rintro e w' ⟨rfl,rfl⟩
   go_wp2_with fail
   refine S.mono ?_
   rintro e w' ⟨rfl,rfl⟩
   go_wp2_with fail
   refine P.mono ?_
   rintro e w' ⟨rfl,rfl⟩
   go_wp2
   go_ret
   exact ⟨rfl,rfl⟩
 ·have N:=hN (by omega) w
  rw [if_neg h]
  clear hS hP hN
  go_enter Tryz.func135,Tryz.ntmps135
  go_wp2_with fail
  refine L.mono ?_
  rintro e w' ⟨rfl,rfl⟩
  go_wp2_with fail
  refine N.mono ?_
  rintro e w' ⟨rfl,rfl⟩
  go_wp2
  go_ret
  exact ⟨rfl,rfl⟩
set_option maxHeartbeats 400000 in
set_option maxRecDepth 20000 in
theorem isProduct_step (f:Nat) (t:ByteArray) (d:Nat) (hm:t.size≤1000) (hS:∀ i:Nat,lastI t 42 42=i→CP f (t.extract 0 i) d) (hP:∀ i:Nat,lastI t 42 42=i→CF f (t.extract (i+1) t.size) d) (hN:lastI t 42 42 < 0→CF f t d):CP (f+1) t d:=by
 intro w
 obtain ⟨b1,b2⟩:=lastI_bd t 42 42
 have L:=last_any t 42 42 w hm
 rw [gP_succ]
 obtain ⟨l,hl⟩:∃ l,l=lastI t 42 42:=⟨_,rfl⟩
 rw [← hl] at b1 b2 L hS hP hN ⊢
 clear hl
 by_cases h:0≤l
 ·obtain ⟨i,rfl⟩:∃ i:Nat,l=i:=⟨l.toNat,by omega⟩
  have S:=hS i rfl w
  have P:=hP i rfl w
  rw [if_pos h,Int.toNat_natCast]
  obtain ⟨x,hx⟩:∃ x,x=gP f (t.extract 0 i) d:=⟨_,rfl⟩
  obtain ⟨y,hy⟩:∃ y,y=gF f (t.extract (i+1) t.size) d:=⟨_,rfl⟩
  rw [← hx] at S ⊢
  rw [← hy] at P ⊢
  clear hS hP hN hx hy
  cases x with
  | true =>
   go_enter Tryz.func144,Tryz.ntmps144
   go_wp2_with fail
   refine L.mono ?_
   rintro e w' ⟨rfl,rfl⟩
   go_wp2_with fail
   refine S.mono ?_
   rintro e w' ⟨rfl,rfl⟩
   go_wp2_with fail
   refine P.mono ?_
   rintro e w' ⟨rfl,rfl⟩
   go_wp2
   go_ret
   exact ⟨rfl,rfl⟩
  | false =>
   go_enter Tryz.func144,Tryz.ntmps144
   go_wp2_with fail
   refine L.mono ?_
   rintro e w' ⟨rfl,rfl⟩
   go_wp2_with fail
   refine S.mono ?_
   rintro e w' ⟨rfl,rfl⟩
   go_wp2_with fail
   refine P.mono ?_
   rintro e w' ⟨rfl,rfl⟩
   go_wp2
   go_ret
   exact ⟨rfl,rfl⟩
 ·have N:=hN (by omega) w
  rw [if_neg h]
  clear hS hP hN
  go_enter Tryz.func144,Tryz.ntmps144
  go_wp2_with fail
  refine L.mono ?_
  rintro e w' ⟨rfl,rfl⟩
  go_wp2_with fail
  refine N.mono ?_
  rintro e w' ⟨rfl,rfl⟩
  go_wp2
  go_ret
  exact ⟨rfl,rfl⟩
set_option maxHeartbeats 1000000 in
set_option maxRecDepth 20000 in
theorem isFactor_step (f:Nat) (t:ByteArray) (d:Nat) (hm:t.size≤1000) (hd:d≤6) (hS:2 < t.size→0 < d→CS f (t.extract 1 (t.size - 1)) (d - 1)):CF (f+1) t d:=by
 intro w
 rw [gF_succ]
 have NU:=numeral_any t w (by omega)
 obtain ⟨nb,hnb⟩:∃ nb,nb=numB t:=⟨_,rfl⟩
 rw [← hnb] at NU ⊢
 clear hnb
 by_cases h1:t.size=1
 ·have h0:0 < t.size:=by omega
  have hx:=nextB_at h0
  by_cases h2:97≤nextB t 0∧nextB t 0≤122
  ·rw [if_pos ⟨h1,h2⟩]
   have A:=among_any (nextB t 0) 97 122 w true (by simp [h2])
   go_enter Tryz.func147,Tryz.ntmps147
   go_wp2_with fail
   refine A.mono ?_
   rintro e w' ⟨rfl,rfl⟩
   go_wp2
   go_ret
   exact ⟨rfl,rfl⟩
  ·rw [if_neg (fun h=>h2 h.2),if_neg (fun h=>by omega)]
   have A:=among_any (nextB t 0) 97 122 w false (by simp; omega)
   go_enter Tryz.func147,Tryz.ntmps147
   go_wp2_with fail
   refine A.mono ?_
   rintro e w' ⟨rfl,rfl⟩
   go_wp2_with fail
   refine NU.mono ?_
   rintro e w' ⟨rfl,rfl⟩
   go_wp2
   go_ret
   exact ⟨rfl,rfl⟩
 ·rw [if_neg (fun h=>h1 h.1)]
  have h1':((t.size:Int)==1)=false:=by simp; omega
  by_cases h2:2 < t.size
  ·have h0:0 < t.size:=by omega
   have hl:t.size - 1 < t.size:=by omega
   have hx:=nextB_at h0
   have hz:=nextB_at hl
   by_cases h3:nextB t 0=40
   ·by_cases h4:nextB t (t.size - 1)=41
    ·by_cases h5:0 < d
     ·rw [if_pos ⟨h2,h3,h4,h5⟩]
      have S:=hS h2 h5 w
      have hd':((d - 1:Nat):Int)=(d:Int) - 1:=by omega
      rw [hd'] at S
      obtain ⟨x,hx2⟩:∃ x,x=gS f (t.extract 1 (t.size - 1)) (d - 1):=⟨_,rfl⟩
      rw [← hx2] at S ⊢
      rw [h3] at hx
      rw [h4] at hz
      clear hx2 hd' NU hS
      go_enter Tryz.func147,Tryz.ntmps147
      go_wp2_with fail
      refine S.mono ?_
      rintro e w' ⟨rfl,rfl⟩
      go_wp2
      go_ret
      exact ⟨rfl,rfl⟩
     ·rw [if_neg (fun h=>h5 h.2.2.2)]
      rw [h3] at hx
      rw [h4] at hz
      go_enter Tryz.func147,Tryz.ntmps147
      go_wp2_with fail
      refine NU.mono ?_
      rintro e w' ⟨rfl,rfl⟩
      go_wp2
      go_ret
      exact ⟨rfl,rfl⟩
    ·rw [if_neg (fun h=>h4 h.2.2.1)]
     have h4':(nextB t (t.size - 1)==41)=false:=by simpa using h4
     rw [h3] at hx
     go_enter Tryz.func147,Tryz.ntmps147
     go_wp2_with fail
     refine NU.mono ?_
     rintro e w' ⟨rfl,rfl⟩
     go_wp2
     go_ret
     exact ⟨rfl,rfl⟩
   ·rw [if_neg (fun h=>h3 h.2.1)]
    have h3':(nextB t 0==40)=false:=by simpa using h3
    go_enter Tryz.func147,Tryz.ntmps147
    go_wp2_with fail
    refine NU.mono ?_
    rintro e w' ⟨rfl,rfl⟩
    go_wp2
    go_ret
    exact ⟨rfl,rfl⟩
  ·rw [if_neg (fun h=>h2 h.1)]
   go_enter Tryz.func147,Tryz.ntmps147
   go_wp2_with fail
   refine NU.mono ?_
   rintro e w' ⟨rfl,rfl⟩
   go_wp2
   go_ret
   exact ⟨rfl,rfl⟩
theorem sums_all (f:Nat):∀ (t:ByteArray) (d:Nat),t.size≤1000→d≤6→(3 * t.size+3≤f→CS f t d)∧(3 * t.size+2≤f→CP f t d)∧(3 * t.size+1≤f→CF f t d):=by
 induction f with
 | zero=>intro t d _ _; exact ⟨fun h=>by omega,fun h=>by omega,fun h=>by omega⟩
 | succ f ih =>
  intro t d hm hd
  have sz:∀ a b,(t.extract a b).size≤t.size:=fun a b=>by rw [ByteArray.size_extract]; omega
  refine ⟨fun h=>?_,fun h=>?_,fun h=>?_⟩
  ·obtain ⟨b1,b2⟩:=lastI_bd t 43 45
   refine isSum_step f t d hm (fun i hi=>?_) (fun i hi=>?_) (fun _=>(ih t d hm hd).2.1 (by omega))
   ·have:(t.extract 0 i).size < t.size:=by rw [ByteArray.size_extract]; omega
    exact (ih (t.extract 0 i) d (by omega) hd).1 (by omega)
   ·have:(t.extract (i+1) t.size).size < t.size:=by rw [ByteArray.size_extract]; omega
    exact (ih (t.extract (i+1) t.size) d (by omega) hd).2.1 (by omega)
  ·obtain ⟨b1,b2⟩:=lastI_bd t 42 42
   refine isProduct_step f t d hm (fun i hi=>?_) (fun i hi=>?_) (fun _=>(ih t d hm hd).2.2 (by omega))
   ·have:(t.extract 0 i).size < t.size:=by rw [ByteArray.size_extract]; omega
    exact (ih (t.extract 0 i) d (by omega) hd).2.1 (by omega)
   ·have:(t.extract (i+1) t.size).size < t.size:=by rw [ByteArray.size_extract]; omega
    exact (ih (t.extract (i+1) t.size) d (by omega) hd).2.2 (by omega)
  ·refine isFactor_step f t d hm hd (fun h2 h5=>?_)
   have:(t.extract 1 (t.size - 1)).size+2≤t.size:=by rw [ByteArray.size_extract]; omega
   exact (ih _ (d - 1) (by omega) (by omega)).1 (by omega)
def sumB (t:ByteArray) (d:Nat):Bool:=gS (3 * t.size+3) t d
theorem isSum_any (t:ByteArray) (d:Nat) (w:World) (hm:t.size≤1000) (hd:d≤6):Calls Tryz.prog 135 #[.string t,.int .i64 d] w fun e w'=>e=.returned (.bool (sumB t d))∧w'=w :=
 (sums_all _ t d hm hd).1 (Nat.le_refl _) w
end Go.Proofs.YtbgilndohccicaaGreatDoor
namespace Go.Proofs.YtbgilndohccicaaGreatDoor
def dep:List Int→Int
 | []=>0
 | c :: r=>(if c=40 then 1 else if c=41 then -1 else 0)+dep r
theorem dep_app (a b:List Int):dep (a++b)=dep a+dep b:=by
 induction a with
 | nil=>simp [dep]
 | cons c r ih=>simp only [List.cons_append,dep,ih]; omega
def stp (M:Nat) (s:Nat×Nat×Nat) (c:Int):Option (Nat×Nat×Nat) :=
 if s.1=0 then
  if c=48 then some (1,s.2.1,0)
  else if 49≤c∧c≤57 then some (2,s.2.1,1)
  else if 97≤c∧c≤122 then some (1,s.2.1,0)
  else if c=40∧s.2.1 < M then some (0,s.2.1+1,0)
  else none
 else if s.1=2∧48≤c∧c≤57∧s.2.2 < 9 then some (2,s.2.1,s.2.2+1)
 else if c=43∨c=45∨c=42 then some (0,s.2.1,0)
 else if c=41∧0 < s.2.1 then some (1,s.2.1 - 1,0)
 else none
def rn (M:Nat):Nat×Nat×Nat→List Int→Option (Nat×Nat×Nat)
 | s,[]=>some s
 | s,c :: r=>match stp M s c with
  | some s'=>rn M s' r
  | none=>none
theorem rn_app (M:Nat) (a b:List Int):∀ s,rn M s (a++b)=match rn M s a with | some s'=>rn M s' b | none=>none:=by
 induction a with
 | nil=>intro s; rfl
 | cons c r ih =>
  intro s
  simp only [List.cons_append,rn]
  cases stp M s c with
  | none=>rfl
  | some s'=>exact ih s'
theorem rn_app_some {M:Nat} {a b:List Int} {s s':Nat×Nat×Nat} (h:rn M s (a++b)=some s'):∃ q,rn M s a=some q∧rn M q b=some s':=by
 rw [rn_app] at h
 cases hq:rn M s a with
 | none=>rw [hq] at h; simp at h
 | some q=>rw [hq] at h; exact ⟨q,rfl,h⟩
theorem stp_dep {M:Nat} {s s':Nat×Nat×Nat} {c:Int} (h:stp M s c=some s'):(s'.2.1:Int)=s.2.1+(if c=40 then 1 else if c=41 then -1 else 0):=by
 unfold stp at h
 split at h
 ·split at h
  ·cases h; rename_i h2; simp [h2]
  ·split at h
   ·cases h; rename_i h2 h3; simp only []; rw [if_neg (by omega),if_neg (by omega)]; omega
   ·split at h
    ·cases h; rename_i h2 h3 h4; simp only []; rw [if_neg (by omega),if_neg (by omega)]; omega
    ·split at h
     ·cases h; rename_i h2 h3 h4 h5; simp [h5.1]
     ·cases h
 ·split at h
  ·cases h; rename_i h1 h2; simp only []; rw [if_neg (by omega),if_neg (by omega)]; omega
  ·split at h
   ·cases h; rename_i h1 h2 h3; simp only []; rw [if_neg (by omega),if_neg (by omega)]; omega
   ·split at h
    ·cases h; rename_i h1 h2 h3 h4; simp only []; rw [if_neg (by omega),if_pos h4.1]; omega
    ·cases h
theorem rn_dep {M:Nat}:∀ {l:List Int} {s s':Nat×Nat×Nat},rn M s l=some s'→(s'.2.1:Int)=s.2.1+dep l:=by
 intro l
 induction l with
 | nil=>intro s s' h; simp only [rn,Option.some.injEq] at h; subst h; simp [dep]
 | cons c r ih =>
  intro s s' h
  simp only [rn] at h
  cases hs:stp M s c with
  | none=>rw [hs] at h; simp at h
  | some q =>
   rw [hs] at h
   have h1:=stp_dep hs
   have h2:=ih h
   simp only [dep]; omega
def acc (M:Nat) (l:List Int):Prop:=∃ m k,rn M (0,0,0) l=some (m,0,k)∧m≠0
def isSg (c:Int):Prop:=c=43∨c=45∨c=42
theorem stp_sg {M:Nat} {s:Nat×Nat×Nat} {c:Int} (hc:isSg c):stp M s c=if s.1=0 then none else some (0,s.2.1,0):=by
 unfold isSg at hc
 unfold stp
 by_cases h:s.1=0
 ·rw [if_pos h,if_pos h,if_neg (by omega),if_neg (by omega),if_neg (by omega),if_neg (by omega)]
 ·rw [if_neg h,if_neg h,if_neg (by omega),if_pos hc]
theorem acc_cut {M:Nat} {u v:List Int} {c:Int} (hc:isSg c) (hd:dep u=0):acc M (u++c :: v)↔acc M u∧acc M v:=by
 constructor
 ·rintro ⟨m,k,h,hm⟩
  obtain ⟨⟨a,d,b⟩,h1,h2⟩:=rn_app_some h
  have hdd:=rn_dep h1
  simp only [] at hdd
  obtain rfl:d=0:=by omega
  simp only [rn,stp_sg hc] at h2
  by_cases ha:a=0
  ·rw [if_pos ha] at h2; simp at h2
  ·rw [if_neg ha] at h2
   exact ⟨⟨a,b,h1,ha⟩,⟨m,k,h2,hm⟩⟩
 ·rintro ⟨⟨a,b,h1,ha⟩,⟨m,k,h2,hm⟩⟩
  refine ⟨m,k,?_,hm⟩
  rw [rn_app,h1]
  simp only [rn,stp_sg hc,if_neg ha]
  exact h2
def NoTop (a b:Int) (l:List Int):Prop:=∀ u c v,l=u++c :: v→(c=a∨c=b)→dep u≠0
theorem dep_cons_flat {c:Int} (h1:c≠40) (h2:c≠41) (r:List Int):dep (c :: r)=dep r:=by
 simp only [dep]; rw [if_neg h1,if_neg h2]; omega
theorem NoTop_cut {a b:Int} {u v:List Int} {c:Int} (hd:dep u=0) (h1:c≠40) (h2:c≠41) (h3:c≠a) (h4:c≠b):NoTop a b (u++c :: v)↔NoTop a b u∧NoTop a b v:=by
 constructor
 ·intro h
  refine ⟨fun p x q e hx=>?_,fun p x q e hx=>?_⟩
  ·exact h p x (q++c :: v) (by rw [e]; simp) hx
  ·have:=h (u++c :: p) x q (by rw [e]; simp) hx
   rw [dep_app,dep_cons_flat h1 h2,hd] at this
   omega
 ·rintro ⟨hu,hv⟩ p x q e hx
  rcases List.append_eq_append_iff.1 e with ⟨a',e1,e2⟩ | ⟨c',e1,e2⟩
  ·cases a' with
   | nil =>
    simp at e2; exact absurd e2.1 (by rcases hx with rfl | rfl <;> first | exact h3 | exact h4 | exact Ne.symm h3 | exact Ne.symm h4)
   | cons y a' =>
    simp at e2
    rw [e1,← e2.1]
    have:=hv a' x q e2.2 hx
    rw [dep_app,dep_cons_flat h1 h2,hd]; omega
  ·cases c' with
   | nil =>
    simp at e2; exact absurd e2.1.symm (by rcases hx with rfl | rfl <;> first | exact h3 | exact h4 | exact Ne.symm h3 | exact Ne.symm h4)
   | cons y c' =>
    simp at e2
    exact hu p x c' (by rw [e1,← e2.1]) hx
end Go.Proofs.YtbgilndohccicaaGreatDoor
