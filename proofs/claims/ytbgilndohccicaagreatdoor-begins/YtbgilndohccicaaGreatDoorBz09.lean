import Derived.Test.YtbgilndohccicaaGreatDoorBz08
namespace Go.Proofs.YtbgilndohccicaaGreatDoor
open Go.RowKit
theorem gfLoop_ok (t:ByteArray) (p:Int) (hp:0≤p):∀ n i fr l l',(l.length≤6∧∀ f∈l,0≤f.p)→gfLoop t p n i fr l=some l'→l'.length≤6∧∀ f∈l',0≤f.p:=by
 intro n
 induction n with
 | zero=>intro i fr l l' h e; simp [gfLoop] at e; subst e; exact h
 | succ n ih =>
  intro i fr l l' h e
  rw [gfLoop] at e
  split at e
  ·exact ih _ _ _ _ h e
  ·split at e
   ·cases e
   ·rename_i _ h6
    refine ih _ _ _ _ ⟨by simp; omega,fun f hf=>?_⟩ e
    rcases List.mem_append.1 hf with hf | hf
    ·exact h.2 f hf
    ·simp at hf; subst hf; show 0≤p+(fr:Int); omega
theorem gfFields_ok (t:ByteArray) (p:Int) (hp:0≤p) (l:List GF) (e:gfFields t p=some l):l.length≤6∧∀ f∈l,0≤f.p:=by
 simp only [gfFields] at e
 split at e
 ·simp at e; subst e; simp
 ·exact gfLoop_ok t p hp _ _ _ _ _ (by simp) e
theorem gfClass_ok (t:ByteArray) (p:Int) (hp:0≤p) (r:Int×List GF) (e:gfClass t p=some r):r.2.length≤6∧∀ f∈r.2,0≤f.p:=by
 simp only [gfClass] at e
 split at e
 ·obtain ⟨l,hl,rfl⟩:=Option.map_eq_some_iff.1 e
  exact gfFields_ok _ _ (by omega) _ hl
 ·cases e
def Fine (cs:List GC):Prop:=cs.length≤6∧∀ c∈cs,c.l.length≤6∧∀ f∈c.l,0≤f.p
theorem gaLoop_ok (s:ByteArray):∀ n i fr l r,Fine l→gaLoop s n i fr l=some r→Fine r.1:=by
 intro n
 induction n with
 | zero=>intro i fr l r h e; simp [gaLoop] at e; subst e; exact h
 | succ n ih =>
  intro i fr l r h e
  rw [gaLoop] at e
  split at e
  ·split at e
   ·cases e
   ·rename_i r' hr'
    split at e
    ·cases e
    ·refine ih _ _ _ _ ⟨by have:=h.1; simp; omega,fun c hc=>?_⟩ e
     rcases List.mem_append.1 hc with hc | hc
     ·exact h.2 c hc
     ·simp at hc; subst hc; exact gfClass_ok _ _ (by omega) _ hr'
  ·exact ih _ _ _ _ h e
theorem gaAll_ok (s:ByteArray) (cs:List GC) (e:gaAll s=some cs):Fine cs∧cs≠[]:=by
 cases h:gaLoop s s.size 0 0 [] with
 | none=>rw [gaAll_none h] at e; cases e
 | some r =>
  rw [gaAll_some (l:=r.1) (fr:=r.2) h] at e
  split at e
  ·rename_i hc
   simp at e; subst e
   exact ⟨gaLoop_ok s _ _ _ _ _ ⟨by simp,by simp⟩ h,fun e=>by rw [e] at hc; simp at hc⟩
  ·cases e
def Rep (cs:List GC) (p:Int):Prop :=
 VCs (fun i=>(cs[i]?.getD noGC).n) (fun i=>((cs[i]?.getD noGC).p:Int)) (fun i=>(cs[i]?.getD noGC).l.length) (fun i j=>((cs[i]?.getD noGC).l[j]?.getD noGF).n) (fun i j=>((cs[i]?.getD noGC).l[j]?.getD noGF).p) cs.length p
theorem twice_any (cs:List GC) (vs:List GV) (base:Nat) (v:Value) (w:World) (h:RCls w base v vs cs) (hF:Fine cs) (hne:cs≠[]) :
  Calls Tryz.prog 57 #[v,.slice none 0 0] w fun e w'=>∃ b,e=.returned (.int .i64 b)∧Least (Rep cs) b∧Below w.heap.size w w':=by
 obtain ⟨g,cap,rfl,hg,_,hc⟩:=h.cells hne
 have hl:=h.len
 have hget:∀ i,i < cs.length→∃ x c,vs[i]?=some x∧cs[i]?=some c:=fun i hi=>⟨vs[i]'(by omega),cs[i],List.getElem?_eq_getElem _,List.getElem?_eq_getElem _⟩
 have hRV:∀ i,i < cs.length→∃ x c,vs[i]?=some x∧cs[i]?=some c∧x.n=c.n∧x.p=c.p∧RV w base x.v.val c.l:=by
  intro i hi
  obtain ⟨x,c,h1,h2⟩:=hget i hi
  exact ⟨x,c,h1,h2,h.fld i x c h1 h2⟩
 have hmem:∀ i:Nat,(cs[i]?.getD noGC).l.length≤6∧∀ f∈(cs[i]?.getD noGC).l,0≤f.p:=by
  intro i
  cases hi:cs[i]? with
  | none=>simp [noGC]
  | some c=>exact hF.2 c (List.mem_of_getElem? hi)
 refine twice_row g cap cs.length _ _ (fun i=>(vs[i]?.getD noGV).v.a) (fun i=>match (vs[i]?.getD noGV).v.a with | some a=>a.block | none=>0) _ (fun i=>(vs[i]?.getD noGV).v.c) _ _ w hg (by have:=hF.1; omega) (fun i=>by have:=(hmem i).1; omega) (fun i=>by omega) (fun i j=>?_) (fun i hi=>?_) (fun i j hi hj=>?_)
 ·cases hj:(cs[i]?.getD noGC).l[j]? with
  | none=>simp [noGF]
  | some f=>exact (hmem i).2 f (List.mem_of_getElem? hj)
 ·obtain ⟨x,c,h1,h2,h3,h4,h5⟩:=hRV i hi
  have:=hc i hi
  rw [h1] at this ⊢
  obtain ⟨ra,rc,rv,_⟩:=h5.cells
  have e:x.v.n=c.l.length:=by
   have:(Value.slice x.v.a x.v.n x.v.c)=.slice ra c.l.length rc:=rv
   injection this
  rw [h2]
  obtain ⟨c0,c1,c2,c3,c4⟩:=this
  simp only [Option.getD_some] at c0 c1 c2 c3 c4 ⊢
  rw [h3] at c0; rw [h4] at c2; rw [e] at c4
  exact ⟨c0,c1,c2,c3,c4⟩
 ·obtain ⟨x,c,h1,h2,h3,h4,h5⟩:=hRV i hi
  rw [h2] at hj ⊢
  rw [h1]
  simp only [Option.getD_some] at hj ⊢
  obtain ⟨ra,rc,rv,_,r⟩:=h5.cells
  obtain ⟨g',rfl,hg',hcell⟩:=r (by omega)
  have e:x.v.a=some ⟨g',0,none⟩:=by
   have:(Value.slice x.v.a x.v.n x.v.c)=.slice (some ⟨g',0,none⟩) c.l.length rc:=rv
   injection this
  rw [e]
  have:=hcell j hj
  exact ⟨rfl,hg',⟨this.c0,this.c2⟩⟩
def SchemaR (s:ByteArray) (E P:Int):Prop :=
 (200 < s.size∧E=1∧P=0)∨(¬ 200 < s.size∧gaAll s=none∧E=2∧P=(wrongN s s.size 0:Nat)) ∨
 (¬ 200 < s.size∧∃ cs b,gaAll s=some cs∧Least (Rep cs) b∧((0≤b∧E=3∧P=b)∨(b < 0∧E=0∧P=0)))
def SPost (s:ByteArray) (w:World) (e:Ending) (w':World):Prop:=∃ (a:Option Addr) (n c:Nat) (E P:Int),
 e=.returned (.tuple #[.slice a n c,.int .i64 E,.int .i64 P])∧SchemaR s E P∧(E=0→∃ cs vs,gaAll s=some cs∧RCls w' w.heap.size (.slice a n c) vs cs)∧Below w.heap.size w w'
theorem all_some {u:ByteArray} {w:World} {cs:List GC} (hm:u.size≤800) (hy:gaAll u=some cs) :
  Calls Tryz.prog 55 #[.string u,.bool false] w fun e w'=>∃ a n c vs,e=.returned (.tuple #[.slice a n c,.bool true])∧RCls w' w.heap.size (.slice a n c) vs cs∧Below w.heap.size w w':=by
 refine (all_any u w hm).mono fun _ _ ⟨a,n,c,h1,h2,h3⟩=>?_
 obtain ⟨vs,hv⟩:=h2 cs hy
 exact ⟨a,n,c,vs,by rw [h1,hy]; rfl,hv,h3⟩
set_option maxHeartbeats 400000 in
set_option maxRecDepth 20000 in
theorem schema_any (s:ByteArray) (w:World) (hm:s.size≤9223372036854775807) (hE:Ends w) :
  Calls Tryz.prog 17 #[.string s] w (SPost s w):=by
 have HE:Hid (Ends w):=hE
 clear hE
 by_cases h:200 < s.size
 ·go_enter Tryz.func17,Tryz.ntmps17
  go_wp2
  go_ret3
  exact ⟨_,_,_,_,_,rfl,.inl ⟨h,rfl,rfl⟩,(fun h=>by cases h),Below.refl _ _⟩
 cases ha:gaAll s with
 | none =>
  have H:Hid (gaAll s=none):=ha
  have hle:s.size≤200:=by omega
  clear ha h
  go_enter Tryz.func17,Tryz.ntmps17
  go_wp2_with (first | (go_at_call 55; refine (all_rs (by omega) false (by rw [H.out]; rfl)).mono ?_; rintro e w1 ⟨aa,an,ac,rfl,hb1⟩) | (go_at_call 56; refine (wrong_any s _ (by omega) (HE.out.below hb1)).mono ?_; rintro e w2 ⟨rfl,hb2⟩))
  go_ret3
  exact ⟨_,_,_,_,_,rfl,.inr (.inl ⟨by omega,H.out,rfl,rfl⟩),(fun h=>by cases h),hb1.trans (hb2.mono hb1.size)⟩
 | some cs =>
  have H:Hid (gaAll s=some cs):=ha
  have hle:s.size≤200:=by omega
  have HO:=gaAll_ok s cs ha
  have HF:Hid (Fine cs):=HO.1
  have HN:Hid (cs≠[]):=HO.2
  clear ha h HO
  go_enter Tryz.func17,Tryz.ntmps17
  go_wp2_with (first | (go_at_call 55; refine (all_some (by omega) H.out).mono ?_; rintro e w1 ⟨aa,an,ac,vs,rfl,V1,hb1⟩) | (go_at_call 57; refine (twice_any cs vs _ _ _ V1 HF.out HN.out).mono ?_; rintro e w2 ⟨b,rfl,hL,hb2⟩))
  ·have h0:0≤b:=by assumption
   go_ret3
   exact ⟨_,_,_,_,_,rfl,.inr (.inr ⟨by omega,cs,b,H.out,hL,.inl ⟨h0,rfl,rfl⟩⟩),(fun h=>by cases h),hb1.trans (hb2.mono hb1.size)⟩
  ·have h0:b < 0:=by omega
   go_ret3
   exact ⟨_,_,_,_,_,rfl,.inr (.inr ⟨by omega,cs,b,H.out,hL,.inr ⟨h0,rfl,rfl⟩⟩),fun _=>⟨cs,vs,H.out,V1.below hb2⟩,hb1.trans (hb2.mono hb1.size)⟩
end Go.Proofs.YtbgilndohccicaaGreatDoor
namespace Go.Proofs.YtbgilndohccicaaGreatDoor
open Go.RowKit
theorem nextB_extract (s:ByteArray) (a b j:Nat) (hb:b≤s.size):nextB (s.extract a b) j=if a+j < b then nextB s (a+j) else 0:=by
 have hsz:(s.extract a b).size=min b s.size - a:=ByteArray.size_extract
 by_cases h:a+j < b
 ·rw [if_pos h,nextB_in (show j < (s.extract a b).size by rw [hsz]; omega),nextB_in (show a+j < s.size by omega)]
  rw [ByteArray.getElem_extract]
 ·rw [if_neg h,nextB_out (show ¬ j < (s.extract a b).size by rw [hsz]; omega)]
theorem nextB_app_left (p e:ByteArray) (j:Nat) (h:j < p.size):nextB (p++e) j=nextB p j:=by
 rw [nextB_in (show j < (p++e).size by rw [ByteArray.size_append]; omega),nextB_in h,ByteArray.getElem_append_left h]
theorem nextB_app_right (p e:ByteArray) (j:Nat):nextB (p++e) (p.size+j)=nextB e j:=by
 by_cases h:j < e.size
 ·rw [nextB_in (show p.size+j < (p++e).size by rw [ByteArray.size_append]; omega),nextB_in h,ByteArray.getElem_append_right (by omega)]
  simp
 ·rw [nextB_out (show ¬ p.size+j < (p++e).size by rw [ByteArray.size_append]; omega),nextB_out h]
structure St where
 k:Nat
 c:Nat
 f:Nat
def St.q0 (c:Nat):St:=⟨0,c,0⟩
def St.q1 (c:Nat):St:=⟨1,c,0⟩
def St.q2 (c:Nat):St:=⟨2,c,0⟩
def St.q3 (c f:Nat):St:=⟨3,c,f⟩
def St.q4 (c f:Nat):St:=⟨4,c,f⟩
def St.q5 (c f:Nat):St:=⟨5,c,f⟩
def St.q7 (c f:Nat):St:=⟨6,c,f⟩
abbrev upr (x:Int):Prop:=65≤x∧x≤90
abbrev lwr (x:Int):Prop:=97≤x∧x≤122
def St.go (q:St) (x:Int):Option St :=
 match q.k with
 | 0=>if q.c < 6∧upr x then some (.q1 q.c) else none
 | 1=>if x=123 then some (.q2 q.c) else none
 | 2=>if x=125 then some (.q0 (q.c+1)) else if lwr x then some (.q3 q.c 0) else none
 | 3=>if x=58 then some (.q4 q.c q.f) else none
 | 4=>if isKindB x=true then some (.q5 q.c (q.f+1)) else none
 | 5=>if x=125 then some (.q0 (q.c+1)) else if x=44∧q.f < 6 then some (.q7 q.c q.f) else none
 | _=>if lwr x then some (.q3 q.c q.f) else none
theorem go_q0 (c:Nat) (x:Int):(St.q0 c).go x=if c < 6∧upr x then some (.q1 c) else none:=rfl
theorem go_q1 (c:Nat) (x:Int):(St.q1 c).go x=if x=123 then some (.q2 c) else none:=rfl
theorem go_q2 (c:Nat) (x:Int):(St.q2 c).go x=if x=125 then some (.q0 (c+1)) else if lwr x then some (.q3 c 0) else none:=rfl
theorem go_q3 (c f:Nat) (x:Int):(St.q3 c f).go x=if x=58 then some (.q4 c f) else none:=rfl
theorem go_q4 (c f:Nat) (x:Int):(St.q4 c f).go x=if isKindB x=true then some (.q5 c (f+1)) else none:=rfl
theorem go_q5 (c f:Nat) (x:Int):(St.q5 c f).go x=if x=125 then some (.q0 (c+1)) else if x=44∧f < 6 then some (.q7 c f) else none:=rfl
theorem go_q7 (c f:Nat) (x:Int):(St.q7 c f).go x=if lwr x then some (.q3 c f) else none:=rfl
def St.acc (q:St):Bool:=decide (q.k=0) && decide (0 < q.c)
def drN (s:ByteArray):Nat→Nat→St→Nat×St
 | 0,i,q=>(i,q)
 | n+1,i,q=>match q.go (nextB s i) with
  | none=>(i,q)
  | some q'=>drN s n (i+1) q'
def dr (s:ByteArray) (i:Nat) (q:St):Nat×St:=drN s (s.size - i) i q
theorem dr_end {s:ByteArray} {i:Nat} {q:St} (h:¬ i < s.size):dr s i q=(i,q):=by
 have:s.size - i=0:=by omega
 simp [dr,this,drN]
theorem dr_stop {s:ByteArray} {i:Nat} {q:St} (h:q.go (nextB s i)=none):dr s i q=(i,q):=by
 by_cases hi:i < s.size
 ·have:s.size - i=(s.size - (i+1))+1:=by omega
  simp [dr,this,drN,h]
 ·exact dr_end hi
theorem dr_step {s:ByteArray} {i:Nat} {q q':St} (hi:i < s.size) (h:q.go (nextB s i)=some q'):dr s i q=dr s (i+1) q':=by
 have:s.size - i=(s.size - (i+1))+1:=by omega
 simp [dr,this,drN,h]
theorem go_pos {q q':St} {x:Int} (h:q.go x=some q'):0 < x:=by
 simp only [St.go] at h
 split at h
 ·split at h
  ·rename_i h'; have:=h'.2.1; omega
  ·cases h
 ·split at h
  ·omega
  ·cases h
 ·split at h
  ·omega
  ·split at h
   ·rename_i h'; have:=h'.1; omega
   ·cases h
 ·split at h
  ·omega
  ·cases h
 ·split at h
  ·rename_i h'; exact isKindB_pos h'
  ·cases h
 ·split at h
  ·omega
  ·split at h
   ·omega
   ·cases h
 ·split at h
  ·rename_i h'; have:=h'.1; omega
  ·cases h
theorem dr_step' {s:ByteArray} {i:Nat} {q q':St} (h:q.go (nextB s i)=some q'):dr s i q=dr s (i+1) q':=dr_step (nextB_pos (go_pos h)) h
theorem field_dr (s:ByteArray) (fs:List (Int×Int)) (k:Nat) (tw:Int) (c f:Nat) :
  ((rdField s fs k tw).ok=true→dr s k (.q7 c f)=dr s (rdField s fs k tw).at_ (.q5 c (f+1))) ∧
  ((rdField s fs k tw).ok=false→∃ q,dr s k (.q7 c f)=((rdField s fs k tw).at_,q)∧q.acc=false):=by
 by_cases h0:nextB s k < 97∨122 < nextB s k
 ·have e:rdField s fs k tw=⟨false,k,tw,0,0⟩:=by simp only [rdField]; rw [if_pos h0]
  rw [e]
  refine ⟨(fun h=>by cases h),fun _=>⟨_,dr_stop ?_,rfl⟩⟩
  (first | rw [go_q0] | rw [go_q1] | rw [go_q2] | rw [go_q3] | rw [go_q4] | rw [go_q5] | rw [go_q7]); rw [if_neg]; rintro ⟨h1,h2⟩; omega
 have s1:dr s k (.q7 c f)=dr s (k+1) (.q3 c f):=dr_step' (by (first | rw [go_q0] | rw [go_q1] | rw [go_q2] | rw [go_q3] | rw [go_q4] | rw [go_q5] | rw [go_q7]); rw [if_pos ⟨by omega,by omega⟩])
 by_cases h1:nextB s (k+1)=58
 ·have s2:dr s (k+1) (.q3 c f)=dr s (k+2) (.q4 c f):=dr_step' (by (first | rw [go_q0] | rw [go_q1] | rw [go_q2] | rw [go_q3] | rw [go_q4] | rw [go_q5] | rw [go_q7]); rw [if_pos h1])
  by_cases h2:isKindB (nextB s (k+2))=true
  ·have e:rdField s fs k tw=⟨true,k+3,if 0≤idxF fs (nextB s k) then noteI tw k else tw,nextB s k,nextB s (k+2)⟩:=by
    simp only [rdField]; rw [if_neg h0,if_pos h1,if_pos h2]
   rw [e]
   refine ⟨fun _=>?_,(fun h=>by cases h)⟩
   rw [s1,s2]
   exact dr_step' (by (first | rw [go_q0] | rw [go_q1] | rw [go_q2] | rw [go_q3] | rw [go_q4] | rw [go_q5] | rw [go_q7]); rw [if_pos h2])
  ·have e:rdField s fs k tw=⟨false,k+2,if 0≤idxF fs (nextB s k) then noteI tw k else tw,0,0⟩:=by
    simp only [rdField]; rw [if_neg h0,if_pos h1,if_neg h2]
   rw [e]
   refine ⟨(fun h=>by cases h),fun _=>⟨.q4 c f,?_,rfl⟩⟩
   rw [s1,s2]
   exact dr_stop (by (first | rw [go_q0] | rw [go_q1] | rw [go_q2] | rw [go_q3] | rw [go_q4] | rw [go_q5] | rw [go_q7]); rw [if_neg h2])
 ·have e:rdField s fs k tw=⟨false,k+1,if 0≤idxF fs (nextB s k) then noteI tw k else tw,0,0⟩:=by
   simp only [rdField]; rw [if_neg h0,if_neg h1]
  rw [e]
  refine ⟨(fun h=>by cases h),fun _=>⟨.q3 c f,?_,rfl⟩⟩
  rw [s1]
  exact dr_stop (by (first | rw [go_q0] | rw [go_q1] | rw [go_q2] | rw [go_q3] | rw [go_q4] | rw [go_q5] | rw [go_q7]); rw [if_neg h1])
theorem loop_dr (s:ByteArray) (c:Nat):∀ n fs k tw,fs.length+n=6→0 < n →
  ((rdLoop s n fs k tw).ok=true→dr s k (.q7 c fs.length)=dr s (rdLoop s n fs k tw).at_ (.q0 (c+1))) ∧
  ((rdLoop s n fs k tw).ok=false→∃ q,dr s k (.q7 c fs.length)=((rdLoop s n fs k tw).at_,q)∧q.acc=false):=by
 intro n
 induction n with
 | zero=>intro fs k tw _ h; omega
 | succ n ih =>
  intro fs k tw hl _
  have F:=field_dr s fs k tw c fs.length
  rw [rdLoop]
  generalize rdField s fs k tw=r at F ⊢
  by_cases h0:r.ok=false
  ·rw [if_pos h0]
   exact ⟨(fun h=>by cases h),fun _=>F.2 h0⟩
  rw [if_neg h0]
  have h0':r.ok=true:=by simpa using h0
  have e1:=F.1 h0'
  by_cases h1:nextB s r.at_=125
  ·rw [if_pos h1]
   refine ⟨fun _=>?_,(fun h=>by cases h)⟩
   rw [e1]
   exact dr_step' (by (first | rw [go_q0] | rw [go_q1] | rw [go_q2] | rw [go_q3] | rw [go_q4] | rw [go_q5] | rw [go_q7]); rw [if_pos h1])
  rw [if_neg h1]
  by_cases h2:fs.length=5∨nextB s r.at_≠44
  ·rw [if_pos h2]
   refine ⟨(fun h=>by cases h),fun _=>⟨_,(by rw [e1]; exact dr_stop (by (first | rw [go_q0] | rw [go_q1] | rw [go_q2] | rw [go_q3] | rw [go_q4] | rw [go_q5] | rw [go_q7]); rw [if_neg h1,if_neg (by omega)])),rfl⟩⟩
  ·rw [if_neg h2]
   have e2:dr s r.at_ (.q5 c (fs.length+1))=dr s (r.at_+1) (.q7 c (fs.length+1)):=dr_step' (by (first | rw [go_q0] | rw [go_q1] | rw [go_q2] | rw [go_q3] | rw [go_q4] | rw [go_q5] | rw [go_q7]); rw [if_neg h1,if_pos (by omega)])
   have:=ih (fs++[(r.l,r.kd)]) (r.at_+1) r.tw (by simp; omega) (by omega)
   rw [e1,e2]
   simpa using this
theorem fields_dr (s:ByteArray) (c k:Nat) (tw:Int) :
  ((rdFields s k tw).ok=true→dr s k (.q2 c)=dr s (rdFields s k tw).at_ (.q0 (c+1))) ∧
  ((rdFields s k tw).ok=false→∃ q,dr s k (.q2 c)=((rdFields s k tw).at_,q)∧q.acc=false):=by
 simp only [rdFields]
 by_cases h:nextB s k=125
 ·rw [if_pos h]
  exact ⟨fun _=>dr_step' (by (first | rw [go_q0] | rw [go_q1] | rw [go_q2] | rw [go_q3] | rw [go_q4] | rw [go_q5] | rw [go_q7]); rw [if_pos h]),(fun h=>by cases h)⟩
 rw [if_neg h]
 have L:=loop_dr s c 6 [] k tw rfl (by omega)
 by_cases h1:lwr (nextB s k)
 ·have e:dr s k (.q2 c)=dr s k (.q7 c 0):=by
   rw [dr_step' (q':=.q3 c 0) (by (first | rw [go_q0] | rw [go_q1] | rw [go_q2] | rw [go_q3] | rw [go_q4] | rw [go_q5] | rw [go_q7]); rw [if_neg h,if_pos h1]),dr_step' (q:=.q7 c 0) (q':=.q3 c 0) (by (first | rw [go_q0] | rw [go_q1] | rw [go_q2] | rw [go_q3] | rw [go_q4] | rw [go_q5] | rw [go_q7]); rw [if_pos h1])]
  rw [e]; exact L
 ·have h1':nextB s k < 97∨122 < nextB s k:=by simp only [lwr] at h1; omega
  have e:rdLoop s 6 [] k tw=⟨false,k,tw,[]⟩:=by
   have e1:rdField s [] k tw=⟨false,k,tw,0,0⟩:=by simp only [rdField]; rw [if_pos h1']
   rw [rdLoop,e1]; rfl
  rw [e]
  exact ⟨(fun h=>by cases h),fun _=>⟨.q2 c,dr_stop (by (first | rw [go_q0] | rw [go_q1] | rw [go_q2] | rw [go_q3] | rw [go_q4] | rw [go_q5] | rw [go_q7]); rw [if_neg h,if_neg h1]),rfl⟩⟩
theorem class_dr (s:ByteArray) (ls:List Int) (c k:Nat) (tw:Int) (hc:c < 6) :
  ((rdClass s ls k tw).ok=true→dr s k (.q0 c)=dr s (rdClass s ls k tw).at_ (.q0 (c+1))) ∧
  ((rdClass s ls k tw).ok=false→(∃ q,dr s k (.q0 c)=((rdClass s ls k tw).at_,q)∧q.acc=false)∨(dr s k (.q0 c)=(k,.q0 c)∧(rdClass s ls k tw).at_=k)):=by
 simp only [rdClass]
 by_cases h0:nextB s k < 65∨90 < nextB s k
 ·rw [if_pos h0]
  exact ⟨(fun h=>by cases h),fun _=>.inr ⟨dr_stop (by (first | rw [go_q0] | rw [go_q1] | rw [go_q2] | rw [go_q3] | rw [go_q4] | rw [go_q5] | rw [go_q7]); rw [if_neg]; rintro ⟨_,h1,h2⟩; omega),rfl⟩⟩
 rw [if_neg h0]
 have s1:dr s k (.q0 c)=dr s (k+1) (.q1 c):=dr_step' (by (first | rw [go_q0] | rw [go_q1] | rw [go_q2] | rw [go_q3] | rw [go_q4] | rw [go_q5] | rw [go_q7]); rw [if_pos ⟨hc,by omega,by omega⟩])
 by_cases h1:nextB s (k+1)=123
 ·rw [if_pos h1]
  have s2:dr s (k+1) (.q1 c)=dr s (k+2) (.q2 c):=dr_step' (by (first | rw [go_q0] | rw [go_q1] | rw [go_q2] | rw [go_q3] | rw [go_q4] | rw [go_q5] | rw [go_q7]); rw [if_pos h1])
  have L:=fields_dr s c (k+2) (if ls.any (fun p=>p==nextB s k)=true then noteI tw k else tw)
  generalize rdFields s (k+2) (if ls.any (fun p=>p==nextB s k)=true then noteI tw k else tw)=r at L ⊢
  by_cases h2:r.ok=true
  ·rw [if_pos h2,s1,s2]
   exact ⟨fun _=>L.1 h2,(fun h=>by cases h)⟩
  ·rw [if_neg h2,s1,s2]
   exact ⟨(fun h=>by cases h),fun _=>.inl (L.2 (by simpa using h2))⟩
 ·rw [if_neg h1,s1]
  exact ⟨(fun h=>by cases h),fun _=>.inl ⟨.q1 c,dr_stop (by (first | rw [go_q0] | rw [go_q1] | rw [go_q2] | rw [go_q3] | rw [go_q4] | rw [go_q5] | rw [go_q7]); rw [if_neg h1]),rfl⟩⟩
theorem field_at (s:ByteArray) (fs:List (Int×Int)) (k:Nat) (tw:Int) (h:(rdField s fs k tw).ok=true) :
  97≤nextB s k∧nextB s k≤122∧nextB s (k+1)=58∧isKindB (nextB s (k+2))=true∧rdField s fs k tw=⟨true,k+3,if 0≤idxF fs (nextB s k) then noteI tw k else tw,nextB s k,nextB s (k+2)⟩:=by
 by_cases h0:nextB s k < 97∨122 < nextB s k
 ·have e:rdField s fs k tw=⟨false,k,tw,0,0⟩:=by simp only [rdField]; rw [if_pos h0]
  rw [e] at h; cases h
 by_cases h1:nextB s (k+1)=58
 ·by_cases h2:isKindB (nextB s (k+2))=true
  ·exact ⟨by omega,by omega,h1,h2,by simp only [rdField]; rw [if_neg h0,if_pos h1,if_pos h2]⟩
  ·have e:rdField s fs k tw=⟨false,k+2,if 0≤idxF fs (nextB s k) then noteI tw k else tw,0,0⟩:=by
    simp only [rdField]; rw [if_neg h0,if_pos h1,if_neg h2]
   rw [e] at h; cases h
 ·have e:rdField s fs k tw=⟨false,k+1,if 0≤idxF fs (nextB s k) then noteI tw k else tw,0,0⟩:=by
   simp only [rdField]; rw [if_neg h0,if_neg h1]
  rw [e] at h; cases h
theorem field_is (s:ByteArray) (fs:List (Int×Int)) (k:Nat) (tw:Int) (h0:97≤nextB s k) (h1:nextB s k≤122) (h2:nextB s (k+1)=58) (h3:isKindB (nextB s (k+2))=true):(rdField s fs k tw).ok=true:=by
 simp only [rdField]; rw [if_neg (by omega),if_pos h2,if_pos h3]
theorem loop_end (s:ByteArray):∀ n fs k tw,(rdLoop s n fs k tw).ok=true→∃ j,k≤j∧j < s.size∧nextB s j=125∧(rdLoop s n fs k tw).at_=j+1:=by
 intro n
 induction n with
 | zero=>intro fs k tw h; simp [rdLoop] at h
 | succ n ih =>
  intro fs k tw h
  rw [rdLoop] at h ⊢
  by_cases h0:(rdField s fs k tw).ok=false
  ·rw [if_pos h0] at h; cases h
  have ha:(rdField s fs k tw).at_=k+3:=by rw [(field_at s fs k tw (by simpa using h0)).2.2.2.2]
  generalize rdField s fs k tw=r at h h0 ha ⊢
  rw [if_neg h0] at h ⊢
  by_cases h1:nextB s r.at_=125
  ·rw [if_pos h1]; exact ⟨r.at_,by omega,nextB_pos (by omega),h1,rfl⟩
  rw [if_neg h1] at h ⊢
  by_cases h2:fs.length=5∨nextB s r.at_≠44
  ·rw [if_pos h2] at h; cases h
  rw [if_neg h2] at h ⊢
  obtain ⟨j,h3,h4,h5,h6⟩:=ih _ _ _ h
  exact ⟨j,by omega,h4,h5,h6⟩
theorem fields_end (s:ByteArray) (k:Nat) (tw:Int) (h:(rdFields s k tw).ok=true):∃ j,k≤j∧j < s.size∧nextB s j=125∧(rdFields s k tw).at_=j+1:=by
 simp only [rdFields] at h ⊢
 by_cases h0:nextB s k=125
 ·rw [if_pos h0]; exact ⟨k,Nat.le_refl _,nextB_pos (by omega),h0,rfl⟩
 ·rw [if_neg h0] at h ⊢; exact loop_end s _ _ _ _ h
theorem class_end (s:ByteArray) (ls:List Int) (k:Nat) (tw:Int) (h:(rdClass s ls k tw).ok=true):∃ j,k≤j∧j < s.size∧nextB s j=125∧(rdClass s ls k tw).at_=j+1:=by
 simp only [rdClass] at h ⊢
 by_cases h0:nextB s k < 65∨90 < nextB s k
 ·rw [if_pos h0] at h; cases h
 rw [if_neg h0] at h ⊢
 by_cases h1:nextB s (k+1)=123
 ·rw [if_pos h1] at h ⊢
  have L:=fields_end s (k+2) (if ls.any (fun p=>p==nextB s k)=true then noteI tw k else tw)
  generalize rdFields s (k+2) (if ls.any (fun p=>p==nextB s k)=true then noteI tw k else tw)=r at h L ⊢
  by_cases h2:r.ok=true
  ·rw [if_pos h2]
   obtain ⟨j,a,b,c,d⟩:=L h2
   exact ⟨j,by omega,b,c,d⟩
  ·rw [if_neg h2] at h; cases h
 ·rw [if_neg h1] at h; cases h
def accepts (s:ByteArray):Prop:=(dr s 0 (.q0 0)).1=s.size∧(dr s 0 (.q0 0)).2.acc=true
theorem rc_dr (s:ByteArray):∀ n cs k tw,cs.length+n=6→(k < s.size∨cs=[]) →
  ((rcLoop s n cs k tw).ok=true→dr s k (.q0 cs.length)=(s.size,.q0 ((rcLoop s n cs k tw).cs.length))∧0 < (rcLoop s n cs k tw).cs.length) ∧
  ((rcLoop s n cs k tw).ok=false→∃ q,dr s k (.q0 cs.length)=((rcLoop s n cs k tw).at_,q)∧(q.acc=true→(rcLoop s n cs k tw).at_ < s.size)):=by
 intro n
 induction n with
 | zero =>
  intro cs k tw hl hk
  rw [rcLoop]
  refine ⟨(fun h=>by cases h),fun _=>⟨.q0 cs.length,dr_stop (by (first | rw [go_q0] | rw [go_q1] | rw [go_q2] | rw [go_q3] | rw [go_q4] | rw [go_q5] | rw [go_q7]); rw [if_neg (by omega)]),fun _=>?_⟩⟩
  rcases hk with h | h
  ·exact h
  ·subst h; simp at hl
 | succ n ih =>
  intro cs k tw hl hk
  have C:=class_dr s (cs.map (·.1)) cs.length k tw (by omega)
  have D:=class_end s (cs.map (·.1)) k tw
  rw [rcLoop]
  generalize rdClass s (cs.map (·.1)) k tw=r at C D ⊢
  by_cases h0:r.ok=false
  ·rw [if_pos h0]
   refine ⟨(fun h=>by cases h),fun _=>?_⟩
   rcases C.2 h0 with ⟨q,e,ha⟩ | ⟨e,ea⟩
   ·exact ⟨q,e,fun h=>by rw [ha] at h; cases h⟩
   ·refine ⟨_,by rw [e,ea],fun h=>?_⟩
    rcases hk with h' | h'
    ·show r.at_ < s.size; omega
    ·subst h'; simp [St.acc,St.q0] at h
  rw [if_neg h0]
  have e1:=C.1 (by simpa using h0)
  by_cases h1:r.at_=s.size
  ·rw [if_pos h1]
   refine ⟨fun _=>⟨?_,by simp⟩,(fun h=>by cases h)⟩
   rw [e1,dr_end (by omega),h1]; simp
  ·rw [if_neg h1]
   obtain ⟨j,_,hj,_,hj'⟩:=D (by simpa using h0)
   have:=ih (cs++[(r.l,r.fs)]) r.at_ r.tw (by simp; omega) (.inl (by omega))
   rw [e1]
   simpa using this
theorem read_accepts (s:ByteArray):((readR s).ok=true↔accepts s)∧((readR s).ok=false→(readR s).at_=(dr s 0 (.q0 0)).1):=by
 have R:=rc_dr s 6 [] 0 (-1) rfl (.inr rfl)
 simp only [readR,accepts]
 generalize rcLoop s 6 [] 0 (-1)=r at R ⊢
 cases h:r.ok with
 | true =>
  obtain ⟨e,h0⟩:=R.1 h
  simp only [List.length_nil] at e
  rw [e]
  refine ⟨⟨fun _=>⟨rfl,?_⟩,fun _=>rfl⟩,fun h=>by cases h⟩
  match hn:r.cs.length,h0 with
  | n+1,_=>rfl
 | false =>
  obtain ⟨q,e,hq⟩:=R.2 h
  simp only [List.length_nil] at e
  rw [e]
  refine ⟨⟨(fun h=>by cases h),fun ⟨h1,h2⟩=>?_⟩,fun _=>rfl⟩
  have:=hq h2
  simp only at h1
  omega
theorem drN_agree (p s:ByteArray) (hle:p.size≤s.size) (hag:∀ j,j < p.size→nextB p j=nextB s j):∀ n i q,i+n=p.size →
  ((dr p i q).1 < p.size→dr s i q=dr p i q)∧(¬ (dr p i q).1 < p.size→dr s i q=dr s p.size (dr p i q).2∧(dr p i q).1=p.size):=by
 intro n
 induction n with
 | zero =>
  intro i q hi
  have:i=p.size:=by omega
  subst this
  rw [dr_end (s:=p) (by omega)]
  exact ⟨fun h=>by simp at h,fun _=>⟨rfl,rfl⟩⟩
 | succ n ih =>
  intro i q hi
  have hlt:i < p.size:=by omega
  cases hg:q.go (nextB p i) with
  | none =>
   rw [dr_stop hg,dr_stop (s:=s) (by rw [← hag i hlt]; exact hg)]
   exact ⟨fun _=>rfl,fun h=>absurd hlt h⟩
  | some q' =>
   rw [dr_step hlt hg,dr_step (s:=s) (by omega) (by rw [← hag i hlt]; exact hg)]
   exact ih (i+1) q' (by omega)
theorem dr_agree (p s:ByteArray) (hle:p.size≤s.size) (hag:∀ j,j < p.size→nextB p j=nextB s j) (q:St) :
  ((dr p 0 q).1 < p.size→dr s 0 q=dr p 0 q)∧(¬ (dr p 0 q).1 < p.size→dr s 0 q=dr s p.size (dr p 0 q).2∧(dr p 0 q).1=p.size) :=
 drN_agree p s hle hag p.size 0 q (by omega)
theorem drN_ge (s:ByteArray):∀ n i q,i+n=s.size→i≤(dr s i q).1∧(dr s i q).1≤s.size:=by
 intro n
 induction n with
 | zero=>intro i q hi; rw [dr_end (by omega)]; exact ⟨Nat.le_refl _,by simp; omega⟩
 | succ n ih =>
  intro i q hi
  cases hg:q.go (nextB s i) with
  | none=>rw [dr_stop hg]; exact ⟨Nat.le_refl _,by simp; omega⟩
  | some q' =>
   rw [dr_step (by omega) hg]
   have:=ih (i+1) q' (by omega)
   omega
theorem dr_ge (s:ByteArray) (i:Nat) (q:St) (hi:i≤s.size):i≤(dr s i q).1∧(dr s i q).1≤s.size:=drN_ge s (s.size - i) i q (by omega)
theorem ahead_of_accepts {p e:ByteArray} (h:accepts (p++e)):(dr p 0 (.q0 0)).1=p.size:=by
 have hs:(p++e).size=p.size+e.size:=ByteArray.size_append
 have A:=dr_agree p (p++e) (by omega) (fun j hj=>(nextB_app_left p e j hj).symm) (.q0 0)
 by_cases hlt:(dr p 0 (.q0 0)).1 < p.size
 ·have:=A.1 hlt
  have h1:=h.1
  rw [this] at h1; omega
 ·exact (A.2 hlt).2
theorem goes_on {p:ByteArray} (q:St) (e:ByteArray) (h:dr p 0 (.q0 0)=(p.size,q)):dr (p++e) 0 (.q0 0)=dr (p++e) p.size q:=by
 have hs:(p++e).size=p.size+e.size:=ByteArray.size_append
 have A:=dr_agree p (p++e) (by omega) (fun j hj=>(nextB_app_left p e j hj).symm) (.q0 0)
 have:=A.2 (by rw [h]; simp)
 rw [h] at this
 exact this.1
theorem app_step' {p e:ByteArray} (i:Nat) {q q':St} (h:q.go (nextB e i)=some q'):dr (p++e) (p.size+i) q=dr (p++e) (p.size+(i+1)) q' :=
 dr_step' (by rw [nextB_app_right]; exact h)
theorem begins_of_ahead {p:ByteArray} (h:(dr p 0 (.q0 0)).1=p.size):∃ j,j < 7∧accepts (p++E j):=by
 obtain ⟨q,hq⟩:∃ q,dr p 0 (.q0 0)=(p.size,q):=⟨(dr p 0 (.q0 0)).2,by rw [← h]⟩
 have fin:∀ (j c:Nat),dr (p++E j) 0 (.q0 0)=dr (p++E j) (p.size+(E j).size) (.q0 (c+1))→accepts (p++E j):=by
  intro j c e
  have hs:(p++E j).size=p.size+(E j).size:=ByteArray.size_append
  rw [dr_end (s:=p++E j) (i:=p.size+(E j).size) (q:=.q0 (c+1)) (by omega)] at e
  exact ⟨by rw [e,hs],by rw [e]; rfl⟩
 obtain ⟨k,c,f⟩:=q
 match k,c,hq with
 | 0,0,hq =>
  refine ⟨1,by omega,fin 1 0 ?_⟩
  rw [goes_on _ _ hq,show p.size=p.size+0 from rfl,app_step' 0 (q':=.q1 0) rfl,app_step' 1 (q':=.q2 0) rfl,app_step' 2 (q':=.q0 1) rfl]
  rfl
 | 0,c+1,hq =>
  refine ⟨0,by omega,?_⟩
  have e:=goes_on _ (E 0) hq
  have hs:(p++E 0).size=p.size+(E 0).size:=ByteArray.size_append
  have h0:(E 0).size=0:=rfl
  rw [dr_end (s:=p++E 0) (i:=p.size) (by omega)] at e
  exact ⟨by rw [e,hs,h0]; rfl,by rw [e]; simp [St.acc]⟩
 | 1,c,hq =>
  refine ⟨2,by omega,fin 2 c ?_⟩
  rw [goes_on _ _ hq,show p.size=p.size+0 from rfl,app_step' 0 (q':=.q2 c) rfl,app_step' 1 (q':=.q0 (c+1)) rfl]
  rfl
 | 2,c,hq =>
  refine ⟨6,by omega,fin 6 c ?_⟩
  rw [goes_on _ _ hq,show p.size=p.size+0 from rfl,app_step' 0 (q':=.q0 (c+1)) rfl]
  rfl
 | 3,c,hq =>
  refine ⟨4,by omega,fin 4 c ?_⟩
  rw [goes_on _ _ hq,show p.size=p.size+0 from rfl,app_step' 0 (q':=.q4 c f) rfl,app_step' 1 (q':=.q5 c (f+1)) rfl,app_step' 2 (q':=.q0 (c+1)) rfl]
  rfl
 | 4,c,hq =>
  refine ⟨5,by omega,fin 5 c ?_⟩
  rw [goes_on _ _ hq,show p.size=p.size+0 from rfl,app_step' 0 (q':=.q5 c (f+1)) rfl,app_step' 1 (q':=.q0 (c+1)) rfl]
  rfl
 | 5,c,hq =>
  refine ⟨6,by omega,fin 6 c ?_⟩
  rw [goes_on _ _ hq,show p.size=p.size+0 from rfl,app_step' 0 (q':=.q0 (c+1)) rfl]
  rfl
 | n+6,c,hq =>
  refine ⟨3,by omega,fin 3 c ?_⟩
  rw [goes_on _ _ hq,show p.size=p.size+0 from rfl,app_step' 0 (q':=.q3 c f) rfl,app_step' 1 (q':=.q4 c f) rfl,app_step' 2 (q':=.q5 c (f+1)) rfl,app_step' 3 (q':=.q0 (c+1)) rfl]
  rfl
end Go.Proofs.YtbgilndohccicaaGreatDoor
