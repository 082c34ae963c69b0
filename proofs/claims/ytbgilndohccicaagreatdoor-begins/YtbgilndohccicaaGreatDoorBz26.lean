import Derived.Test.YtbgilndohccicaaGreatDoorBz25
import Derived.Test.YtbgilndohccicaaGreatDoorBz07
import Derived.Test.YtbgilndohccicaaGreatDoorBz08
import Derived.Test.YtbgilndohccicaaGreatDoorBz09
namespace Go.Proofs.YtbgilndohccicaaGreatDoor
open Go.RowKit
structure HC where
 n:Int
 s:Int
 p:Nat
 sa:Int
 l:List GU
structure HV where
 n:Int
 s:Int
 p:Nat
 sa:Int
 v:SV
def HV.cells (f:HV):List Value:=[.int .u8 f.n,.int .u8 f.s,.int .i64 f.p,.int .i64 f.sa,.slice f.v.a f.v.n f.v.c]
def flatH (l:List HV):List Value:=l.flatMap HV.cells
theorem flatH_app (a b:List HV):flatH (a++b)=flatH a++flatH b:=by simp [flatH]
structure UCls (w:World) (base:Nat) (v:Value) (vs:List HV) (cs:List HC):Prop where
 row:w.ownsRow base 140 5 v vs.length (flatH vs)
 len:vs.length=cs.length
 fld:∀ (i:Nat) (p:HV) (c:HC),vs[i]?=some p→cs[i]?=some c→(p.n=c.n∧p.s=c.s∧p.sa=c.sa)∧p.p=c.p∧UV w base p.v.val c.l
theorem UCls.nil (w:World) (base:Nat):UCls w base (.slice none 0 0) [] []:=⟨World.ownsRow_nil _ _ _ _,rfl,fun i p c h1 _=>by simp at h1⟩
theorem UCls.below {w w':World} {base:Nat} {v:Value} {vs:List HV} {cs:List HC} (h:UCls w base v vs cs) (hb:Below w.heap.size w w'):UCls w' base v vs cs :=
 ⟨World.ownsRow.kept h.row (gb_below hb none) (by cases hv:v.ownBlock <;> simp),h.len,fun i p c h1 h2=>⟨(h.fld i p c h1 h2).1,(h.fld i p c h1 h2).2.1,(h.fld i p c h1 h2).2.2.below hb⟩⟩
theorem UCls.shape {w:World} {base:Nat} {v:Value} {vs:List HV} {cs:List HC} (h:UCls w base v vs cs):∃ a c,v=.slice a cs.length c:=by
 rw [← h.len]
 rcases h.row.2 with ⟨rfl,hn⟩ | ⟨g,cap,cur,rfl,_⟩
 ·exact ⟨none,0,by rw [hn]⟩
 ·exact ⟨_,_,rfl⟩
theorem happ_step {w wr w1 w2:World} {v v':Value} {vs:List HV} {cs:List HC} {x xs xa:Int} {fr:Nat} {sv:SV} {l:List GU} {o1 o2:Obj} (V1:UCls w1 w.heap.size v vs cs) (B1:Below w.heap.size w w1) (hwr:w.heap.size≤wr.heap.size) (F1:UV w1 wr.heap.size sv.val l)
  (hown:w2.ownsRow w.heap.size 140 5 v' (vs.length+1) (flatH vs++[.int .u8 x,.int .u8 xs,.int .i64 fr,.int .i64 xa,.slice sv.a sv.n sv.c])) (hg:((w1.alloc o1).alloc o2).grownBy w2 v.ownBlock) :
  UCls w2 w.heap.size v' (vs++[⟨x,xs,fr,xa,sv⟩]) (cs++[⟨x,xs,fr,xa,l⟩])∧Below w.heap.size w w2:=by
 have hg1:w1.grownBy w2 v.ownBlock:=gb_trans (gb_trans (World.grownBy_alloc w1 o1 _) (World.grownBy_alloc _ o2 _)) hg
 have hfk:∀ (x:SV) f,UV w1 w.heap.size x.val f→UV w2 w.heap.size x.val f:=fun x f h=>World.ownsRow.kept h hg1 (row_apart h V1.row (by decide))
 refine ⟨⟨?_,by simp [V1.len],?_⟩,((B1.alloc B1.size o1).alloc (by have:=B1.size; simp; omega) o2).grown hg (by have:=B1.size; simp; omega) (fun k hk=>(World.ownsRow.lt V1.row k hk).1)⟩
 ·simpa [flatH_app,flatH,HV.cells] using hown
 ·intro i p c h1 h2
  have hl:=V1.len
  rcases Nat.lt_or_ge i vs.length with hi | hi
  ·rw [List.getElem?_append_left hi] at h1
   rw [List.getElem?_append_left (by omega)] at h2
   have:=V1.fld i p c h1 h2
   exact ⟨this.1,this.2.1,hfk _ _ this.2.2⟩
  ·rw [List.getElem?_append_right hi] at h1
   rw [List.getElem?_append_right (by omega)] at h2
   have hi0:i - vs.length=0:=by
    have:=(List.getElem?_eq_some_iff.1 h1).1; simp at this; omega
   have hj0:i - cs.length=0:=by omega
   rw [hi0] at h1; rw [hj0] at h2
   simp at h1 h2
   subst h1; subst h2
   exact ⟨⟨rfl,rfl,rfl⟩,rfl,hfk _ _ (row_mono F1 hwr)⟩
def haLoop (s:ByteArray):Nat→Nat→Nat→List HC→Option (List HC×Nat)
 | 0,_,fr,l=>some (l,fr)
 | n+1,i,fr,l =>
  if nextB s i=125 then
   match ugClass (s.extract fr i) fr with
   | none=>none
   | some r=>if l.length=6 then none else haLoop s n (i+1) (i+1) (l++[⟨r.n,r.s,fr,r.sa,r.l⟩])
  else haLoop s n (i+1) fr l
def haAll (s:ByteArray):Option (List HC) :=
 match haLoop s s.size 0 0 [] with
 | none=>none
 | some r=>if 0 < r.1.length∧r.2=s.size then some r.1 else none
def UAllPost (R:Option (List HC)) (w:World) (e:Ending) (w':World):Prop:=∃ (a:Option Addr) (n c:Nat),
 e=.returned (.tuple #[.slice a n c,.bool R.isSome])∧(∀ cs,R=some cs→∃ vs,UCls w' w.heap.size (.slice a n c) vs cs)∧Below w.heap.size w w'
theorem haAll_none {s:ByteArray} (h:haLoop s s.size 0 0 []=none):haAll s=none:=by simp only [haAll]; rw [h]
theorem haAll_some {s:ByteArray} {l:List HC} {fr:Nat} (h:haLoop s s.size 0 0 []=some (l,fr)):haAll s=if 0 < l.length∧fr=s.size then some l else none:=by simp only [haAll]; rw [h]
set_option maxHeartbeats 1000000 in
set_option maxRecDepth 20000 in
theorem uall_any (s:ByteArray) (w:World) (hm:s.size≤400) :
  Calls Tryz.prog 55 #[.string s,.bool true] w (UAllPost (haAll s) w):=by
 obtain ⟨i0,hi,hz0,hz1,hz2⟩:=info_parts Tryz.infoRClass
 go_enter Tryz.func55,Tryz.ntmps55
 go_wp2
 go_loopw [6,7,8] (fun v f i wr=>∃ (k fr:Nat) (vs:List HV) (l:List HC),k≤s.size∧fr≤k∧l.length≤6∧i=.int .i64 k∧f=.int .i64 fr∧Hid (haLoop s s.size 0 0 []=haLoop s (s.size - k) k fr l)∧UCls wr w.heap.size v vs l∧Below w.heap.size w wr) (fun _ _ i _=>s.size - (intOf i).toNat)
 case atStart=>exact ⟨0,0,[],[],by omega,by omega,by simp,rfl,rfl,rfl,UCls.nil _ _,Below.refl _ _⟩
 case round =>
  obtain ⟨k,fr,vs,l,hk,hfr,hl,rfl,rfl,HR',V0,hb⟩:=hrel
  obtain ⟨ad,cp,rfl⟩:=V0.shape
  by_cases hend:k=s.size
  ·have HR2:=HR'.out
   have e:s.size - k=0:=by omega
   rw [e,haLoop] at HR2
   have HA:Hid _:=haAll_some HR2
   have h2:s.size≤k:=by omega
   clear hend e HR' HR2
   by_cases hl0:0 < l.length
   ·by_cases hfe:fr=s.size
    ·have hfe':((fr:Int)==(s.size:Int))=true:=by simp [hfe]
     have HA2:Hid (haAll s=some l):=by show haAll s=some l; rw [HA.out,if_pos ⟨hl0,hfe⟩]
     clear hfe HA
     go_wp2
     go_ret2
     exact ⟨_,_,_,by rw [HA2.out]; rfl,fun cs hcs=>by rw [HA2.out] at hcs; injection hcs with hcs; subst hcs; exact ⟨vs,V0⟩,hb⟩
    ·have hfe':((fr:Int)==(s.size:Int))=false:=by simp; omega
     have HA2:Hid (haAll s=none):=by show haAll s=none; rw [HA.out,if_neg (fun h=>hfe h.2)]
     clear hfe HA
     go_wp2
     go_ret2
     exact ⟨_,_,_,by rw [HA2.out]; rfl,(fun cs hcs=>by rw [HA2.out] at hcs; cases hcs),hb⟩
   ·have HA2:Hid (haAll s=none):=by show haAll s=none; rw [HA.out,if_neg (fun h=>hl0 h.1)]
    have hl1:l.length≤0:=by omega
    clear HA hl0
    go_wp2
    go_ret2
    exact ⟨_,_,_,by rw [HA2.out]; rfl,(fun cs hcs=>by rw [HA2.out] at hcs; cases hcs),hb⟩
  have hlt:k < s.size:=by omega
  obtain ⟨n',hn'⟩:∃ n',s.size - k=n'+1:=⟨s.size - k - 1,by omega⟩
  have HR2:=HR'.out
  rw [hn',haLoop] at HR2
  clear HR' hend
  have HN:Hid (s.size - k=n'+1):=hn'
  clear hn'
  by_cases hc:nextB s k=125
  ·rw [if_pos hc] at HR2
   have hc1:(((s[k]'hlt).toNat:Int) != 125)=false:=by rw [nextB_in hlt] at hc; simp [hc]
   clear hc
   cases hcl':ugClass (s.extract fr k) fr with
   | none =>
    rw [hcl'] at HR2
    have HA2:Hid (haAll s=none):=haAll_none HR2
    have hcl:Hid (ugClass (s.extract fr k) fr=none):=hcl'
    clear HR2 hcl'
    go_wp2_with (go_at_call 90; refine (uclass_any (s.extract fr k) fr wr (by simp; omega) (by omega) (by omega)).mono ?_; rw [hcl.out]; rintro e w1 ⟨x0,x1,x3,sa,sn,sc,rfl,hx,hb1⟩; have V1:=V0.below hb1; have B1:=hb.trans (hb1.mono hb.size); have hs1:w.heap.size≤w1.heap.size:=B1.size; have hs2:Hid (wr.heap.size≤w1.heap.size):=hb1.size; have HX:Hid _:=hx; clear hb1 hx)
    go_ret2
    exact ⟨_,_,_,by rw [HA2.out]; rfl,(fun cs hcs=>by rw [HA2.out] at hcs; cases hcs),B1.alloc hs1 _⟩
   | some r =>
    rw [hcl'] at HR2
    have hcl:Hid (ugClass (s.extract fr k) fr=some r):=hcl'
    clear hcl'
    by_cases h6:l.length=6
    ·simp only [h6,if_true] at HR2
     have HA2:Hid (haAll s=none):=haAll_none HR2
     have h6':6≤l.length:=by omega
     clear HR2 h6
     go_wp2_with (go_at_call 90; refine (uclass_any (s.extract fr k) fr wr (by simp; omega) (by omega) (by omega)).mono ?_; rw [hcl.out]; rintro e w1 ⟨x0,x1,x3,sa,sn,sc,rfl,hx,hb1⟩; have V1:=V0.below hb1; have B1:=hb.trans (hb1.mono hb.size); have hs1:w.heap.size≤w1.heap.size:=B1.size; have hs2:Hid (wr.heap.size≤w1.heap.size):=hb1.size; have HX:Hid _:=hx; clear hb1 hx)
     go_ret2
     exact ⟨_,_,_,by rw [HA2.out]; rfl,(fun cs hcs=>by rw [HA2.out] at hcs; cases hcs),B1.alloc hs1 _⟩
    ·simp only [h6,if_false] at HR2
     have HR3:Hid _:=HR2
     have h6':l.length < 6:=by omega
     have hvl:=V0.len
     have HVL:Hid (vs.length=l.length):=hvl
     clear HR2 h6 hvl
     go_wp2_with (first | (go_at_call 90; refine (uclass_any (s.extract fr k) fr wr (by simp; omega) (by omega) (by omega)).mono ?_; rw [hcl.out]; rintro e w1 ⟨x0,x1,x3,sa,sn,sc,rfl,hx,hb1⟩; have V1:=V0.below hb1; have B1:=hb.trans (hb1.mono hb.size); have hs1:w.heap.size≤w1.heap.size:=B1.size; have hs2:Hid (wr.heap.size≤w1.heap.size):=hb1.size; have HX:Hid _:=hx; clear hb1 hx) | (at_builtin; refine wpList_append_own _ rfl _ _ 59 rfl w.heap.size 140 i0 (.agg #[.int .u8 0,.int .u8 0,.int .i64 0,.int .i64 0,.slice none 0 0]) 5 48 Tryz.underlying59 hi hz0 hz1 hz2 rfl (by decide) _ vs.length (flatH vs) rfl ((V1.row.alloc _).alloc _) ⟨w1.heap.size+1,0,none⟩ 1 1 [.int .u8 x0,.int .u8 x1,.int .i64 fr,.int .i64 x3,.slice sa sn sc] rfl rfl ?c1 ?c2 ?c3 ?c4 ?c5 ?_))
     case c1=>exact cell_seven _ _ _ _
     case c2=>intro u hu; simp at hu; rcases hu with rfl | rfl | rfl | rfl | rfl <;> rfl
     case c3=>have:=HVL.out; unfold maxLen; omega
     case c4=>have:=HVL.out; omega
     case c5=>simp; omega
     intro v' w2 hown hgr _
     obtain ⟨hx0,hx1,hx3,hxv⟩:=HX.out r rfl
     obtain ⟨V2,B2⟩:=happ_step (sv:=⟨sa,sn,sc⟩) V1 B1 hb.size hxv hown hgr
     clear hown hgr V1 B1 V0 hb HX hxv
     go_wp2
     go_roundw
     case rel=>exact ⟨k+1,k+1,_,_,by omega,by omega,by simp; omega,by go_num,by go_num,by have:=HN.out; rw [show s.size - (k+1)=n' by omega,hx0,hx1,hx3]; exact HR3,V2,B2⟩
     case measure=>simp [intOf]; omega
  ·rw [if_neg hc] at HR2
   have HR:Hid _:=HR2
   clear HR2
   rw [nextB_in hlt] at hc
   have hc3:(((s[k]'hlt).toNat:Int) != 125)=true:=by simpa using hc
   clear hc
   go_wp2
   go_roundw
   case rel=>exact ⟨k+1,fr,vs,l,by omega,by omega,hl,by go_num,rfl,by have:=HN.out; rw [show s.size - (k+1)=n' by omega]; exact HR,V0,hb⟩
   case measure=>simp [intOf]; omega
end Go.Proofs.YtbgilndohccicaaGreatDoor
namespace Go.Proofs.YtbgilndohccicaaGreatDoor
open Go.RowKit
def ubegin1 (s:ByteArray):Prop:=∃ j,j < 7∧(haAll (s++E j)).isSome=true
def ubegin2 (s:ByteArray):Prop:=∃ k,k < 7∧((haAll (s++closeS k)).isSome=true∨(haAll (s++⟨#[49]⟩++closeS k)).isSome=true)
def ubeginsB (s:ByteArray):Bool:=(List.range 7).any (fun j=>(haAll (s++E j)).isSome) || (List.range 7).any (fun k=>(haAll (s++closeS k)).isSome || (haAll (s++⟨#[49]⟩++closeS k)).isSome)
theorem uall_rs {u:ByteArray} {w:World} (hm:u.size≤400) (y:Bool) (hy:(haAll u).isSome=y) :
  Calls Tryz.prog 55 #[.string u,.bool true] w fun e w'=>∃ a n c,e=.returned (.tuple #[.slice a n c,.bool y])∧Below w.heap.size w w':=by
 subst hy
 exact (uall_any u w hm).mono fun _ _ ⟨a,n,c,h1,_,h3⟩=>⟨a,n,c,h1,h3⟩
theorem ubegins_1 {s:ByteArray} (h:ubegin1 s):ubeginsB s=true:=by
 obtain ⟨j,hj,h⟩:=h
 simp only [ubeginsB,Bool.or_eq_true,List.any_eq_true,List.mem_range]
 exact .inl ⟨j,hj,h⟩
theorem ubegins_2 {s:ByteArray} (h:ubegin2 s):ubeginsB s=true:=by
 obtain ⟨j,hj,h⟩:=h
 simp only [ubeginsB,Bool.or_eq_true,List.any_eq_true,List.mem_range]
 exact .inr ⟨j,hj,h⟩
theorem ubegins_no {s:ByteArray} (h1:¬ ubegin1 s) (h2:¬ ubegin2 s):ubeginsB s=false:=by
 cases h:ubeginsB s with
 | false=>rfl
 | true =>
  simp only [ubeginsB,Bool.or_eq_true,List.any_eq_true,List.mem_range] at h
  rcases h with ⟨j,hj,h⟩ | ⟨j,hj,h⟩
  ·exact absurd ⟨j,hj,h⟩ h1
  ·exact absurd ⟨j,hj,h⟩ h2
theorem uno2_step {s:ByteArray} {m:Nat} (hno:∀ j,j < m→¬ ((haAll (s++closeS j)).isSome=true∨(haAll (s++⟨#[49]⟩++closeS j)).isSome=true))
  (e1:(haAll (s++closeS m)).isSome=false) (e2:(haAll (s++⟨#[49]⟩++closeS m)).isSome=false):∀ j,j < m+1→¬ ((haAll (s++closeS j)).isSome=true∨(haAll (s++⟨#[49]⟩++closeS j)).isSome=true):=by
 intro j hj
 rcases Nat.lt_succ_iff_lt_or_eq.1 hj with h | rfl
 ·exact hno j h
 ·rw [e1,e2]; simp
set_option maxHeartbeats 1000000 in
set_option maxRecDepth 20000 in
theorem ubegins_any (s:ByteArray) (w:World) (hm:s.size≤300) (hE:Ends w) :
  Calls Tryz.prog 91 #[.string s,.bool true] w fun e w'=>e=.returned (.bool (ubeginsB s))∧Below w.heap.size w w':=by
 obtain ⟨h0,hE⟩:=hE
 go_enter Tryz.func91,Tryz.ntmps91
 go_wp2
 go_loopw [5] (fun i wr=>∃ k:Nat,k≤7∧i=.int .i64 k∧Hid (∀ j,j < k→(haAll (s++E j)).isSome=false)∧Below w.heap.size w wr) (fun i _=>7 - (intOf i).toNat)
 case atStart=>exact ⟨0,by omega,rfl,fun j hj=>by omega,Below.refl _ _⟩
 case round =>
  obtain ⟨k,hk,rfl,hno,hb⟩:=hrel
  by_cases hlt:k < 7
  ·have c0:wr.cell? ⟨0,k,none⟩=some (.string (E k)):=(hb.cell (by exact h0)).trans (hE k hlt)
   have hsz:=E_size k
   go_wp2_with (go_at_call 55; refine (uall_any _ _ (by simp; omega)).mono ?_; rintro e w1 ⟨aa,an,ac,rfl,_,hb1⟩; have B1:=hb.trans (hb1.mono hb.size); clear hb1)
   ·have h1:(haAll (s++E k)).isSome=true:=by assumption
    go_ret
    exact ⟨ret_bool (ubegins_1 ⟨k,hlt,h1⟩).symm,B1⟩
   ·have h1:(haAll (s++E k)).isSome=false:=by assumption
    go_roundw
    case rel=>exact ⟨k+1,by omega,by go_num,fun j hj=>by rcases Nat.lt_succ_iff_lt_or_eq.1 hj with h | rfl; exact hno j h; exact h1,B1⟩
    case measure=>simp [intOf]; omega
  ·have hno1:Hid (¬ ubegin1 s):=fun ⟨j,hj,h⟩=>by rw [hno j (by omega)] at h; cases h
   have hge:7≤k:=by omega
   clear hlt hno
   go_wp2
   go_loopw [8,9] (fun c i wr=>∃ m:Nat,m≤7∧i=.int .i64 m∧c=.string (closeS m)∧Hid (∀ j,j < m→¬ ((haAll (s++closeS j)).isSome=true∨(haAll (s++⟨#[49]⟩++closeS j)).isSome=true))∧Below w.heap.size w wr) (fun _ i _=>7 - (intOf i).toNat)
   case atStart=>exact ⟨0,by omega,rfl,rfl,fun j hj=>by omega,hb⟩
   case round =>
    obtain ⟨m,hm7,rfl,rfl,hno,hb⟩:=hrel
    by_cases hlt:m < 7
    ·have hsz:=closeS_size m
     have hs3:Hid ((s++⟨#[49]⟩++closeS m).size≤400):=by
      show (s++⟨#[49]⟩++closeS m).size≤400
      rw [ByteArray.size_append,ByteArray.size_append,hsz]
      show s.size+1+(m+1)≤400
      omega
     have hs2:Hid ((s++closeS m).size≤400):=by
      show (s++closeS m).size≤400
      rw [ByteArray.size_append,hsz]
      omega
     cases h1:(haAll (s++closeS m)).isSome with
     | true =>
      have e1:Hid ((haAll (s++closeS m)).isSome=true):=h1
      obtain ⟨b2,e2'⟩:∃ b2,(haAll (s++⟨#[49]⟩++closeS m)).isSome=b2:=⟨_,rfl⟩
      have e2:Hid ((haAll (s++⟨#[49]⟩++closeS m)).isSome=b2):=e2'
      clear h1 e2'
      go_wp2_with (go_at_call 55; refine (uall_rs (by first | exact hs2.out | exact hs3.out) _ (by first | exact e1.out | exact e2.out)).mono ?_; rintro e w1 ⟨aa,an,ac,rfl,hb1⟩; have hb:=hb.trans (hb1.mono hb.size); clear hb1)
      go_ret
      exact ⟨ret_bool (ubegins_2 ⟨m,hlt,.inl e1.out⟩).symm,hb⟩
     | false =>
      have e1:Hid ((haAll (s++closeS m)).isSome=false):=h1
      cases h2:(haAll (s++⟨#[49]⟩++closeS m)).isSome with
      | true =>
       have e2:Hid ((haAll (s++⟨#[49]⟩++closeS m)).isSome=true):=h2
       clear h1 h2
       go_wp2_with (go_at_call 55; refine (uall_rs (by first | exact hs2.out | exact hs3.out) _ (by first | exact e1.out | exact e2.out)).mono ?_; rintro e w1 ⟨aa,an,ac,rfl,hb1⟩; have hb:=hb.trans (hb1.mono hb.size); clear hb1)
       go_ret
       exact ⟨ret_bool (ubegins_2 ⟨m,hlt,.inr e2.out⟩).symm,hb⟩
      | false =>
       have e2:Hid ((haAll (s++⟨#[49]⟩++closeS m)).isSome=false):=h2
       clear h1 h2
       go_wp2_with (go_at_call 55; refine (uall_rs (by first | exact hs2.out | exact hs3.out) _ (by first | exact e1.out | exact e2.out)).mono ?_; rintro e w1 ⟨aa,an,ac,rfl,hb1⟩; have hb:=hb.trans (hb1.mono hb.size); clear hb1)
       go_roundw
       case rel=>exact ⟨m+1,by omega,by go_num,rfl,uno2_step hno e1.out e2.out,hb⟩
       case measure=>simp [intOf]; omega
    ·have hno2:Hid (¬ ubegin2 s):=fun ⟨j,hj,h⟩=>hno j (by omega) h
     have hge2:7≤m:=by omega
     clear hlt hno
     go_wp2
     go_ret
     exact ⟨ret_bool (ubegins_no hno1.out hno2.out).symm,hb⟩
def uwrongN (s:ByteArray):Nat→Nat→Nat
 | 0,i=>i
 | n+1,i=>if ubeginsB (s.extract 0 (i+1))=true then uwrongN s n (i+1) else i
theorem ubegins_rs {u:ByteArray} {w:World} (hm:u.size≤300) (hE:Ends w) (y:Bool) (hy:ubeginsB u=y) :
  Calls Tryz.prog 91 #[.string u,.bool true] w fun e w'=>e=.returned (.bool y)∧Below w.heap.size w w':=by
 subst hy; exact ubegins_any u w hm hE
set_option maxHeartbeats 1000000 in
set_option maxRecDepth 20000 in
theorem uwrong_any (s:ByteArray) (w:World) (hm:s.size≤300) (hE:Ends w) :
  Calls Tryz.prog 56 #[.string s,.bool true] w fun e w'=>e=.returned (.int .i64 (uwrongN s s.size 0:Nat))∧Below w.heap.size w w':=by
 have HE:Hid (Ends w):=hE
 clear hE
 go_enter Tryz.func56,Tryz.ntmps56
 go_wp2
 go_loopw [5] (fun i wr=>∃ k:Nat,k≤s.size∧i=.int .i64 k∧Hid (uwrongN s s.size 0=uwrongN s (s.size - k) k)∧Below w.heap.size w wr) (fun i _=>s.size - (intOf i).toNat)
 case atStart=>exact ⟨0,by omega,rfl,rfl,Below.refl _ _⟩
 case round =>
  obtain ⟨k,hk,rfl,HR,hb⟩:=hrel
  by_cases hlt:k < s.size
  ·obtain ⟨n',hn'⟩:∃ n',s.size - k=n'+1:=⟨s.size - k - 1,by omega⟩
   have HR2:=HR.out
   rw [hn',uwrongN] at HR2
   have HN:Hid (s.size - k=n'+1):=hn'
   clear hn' HR
   have hsz:Hid ((s.extract 0 (k+1)).size≤300):=by show (s.extract 0 (k+1)).size≤300; simp; omega
   have HEr:Hid (Ends wr):=HE.out.below hb
   cases h1:ubeginsB (s.extract 0 (k+1)) with
   | true =>
    rw [h1,if_pos rfl] at HR2
    have e1:Hid (ubeginsB (s.extract 0 (k+1))=true):=h1
    have HR3:Hid _:=HR2
    clear h1 HR2
    go_wp2_with (go_at_call 91; refine (ubegins_rs hsz.out HEr.out true e1.out).mono ?_; rintro e w1 ⟨rfl,hb1⟩; have B1:=hb.trans (hb1.mono hb.size); clear hb1)
    go_roundw
    case rel=>exact ⟨k+1,by omega,by go_num,by have:=HN.out; rw [show s.size - (k+1)=n' by omega]; exact HR3,B1⟩
    case measure=>simp [intOf]; omega
   | false =>
    rw [h1,if_neg Bool.false_ne_true] at HR2
    have e1:Hid (ubeginsB (s.extract 0 (k+1))=false):=h1
    have HR3:Hid _:=HR2
    clear h1 HR2
    go_wp2_with (go_at_call 91; refine (ubegins_rs hsz.out HEr.out false e1.out).mono ?_; rintro e w1 ⟨rfl,hb1⟩; have B1:=hb.trans (hb1.mono hb.size); clear hb1)
    go_ret
    exact ⟨by rw [HR3.out]; rfl,B1⟩
  ·have HR2:=HR.out
   rw [show s.size - k=0 by omega,uwrongN] at HR2
   have HR3:Hid (uwrongN s s.size 0=s.size):=by show uwrongN s s.size 0=s.size; rw [HR2]; omega
   have hge:s.size≤k:=by omega
   clear HR HR2 hlt
   go_wp2
   go_ret
   exact ⟨by rw [HR3.out]; rfl,hb⟩
end Go.Proofs.YtbgilndohccicaaGreatDoor
namespace Go.Proofs.YtbgilndohccicaaGreatDoor
open Go.RowKit
def madeI (N:Nat→Int) (m:Nat) (x s:Int):Int:=if s≠0 then s else if ∃ i,i < m∧N i=x then x else 0
set_option maxHeartbeats 400000 in
set_option maxRecDepth 20000 in
theorem umade_any (x0 x1 x2 x3:Int) (a:Option Addr) (n c:Nat) (g cap m:Nat) (N:Nat→Int) (w:World) (hg:g < w.heap.size) (hm:m≤1000)
  (hc:∀ i,i < m→w.cell? ⟨g,i * 5,none⟩=some (.int .u8 (N i))) :
  Calls Tryz.prog 92 #[.agg #[.int .u8 x0,.int .u8 x1,.int .i64 x2,.int .i64 x3,.slice a n c],.slice (some ⟨g,0,none⟩) m cap] w fun e w'=>e=.returned (.int .u8 (madeI N m x0 x1))∧Below w.heap.size w w':=by
 have HC:Hid (∀ i,i < m→w.cell? ⟨g,i * 5,none⟩=some (.int .u8 (N i))):=hc
 clear hc
 have B0:∀ o:Obj,Below w.heap.size w (w.alloc o):=fun o=>(Below.refl _ _).alloc (Nat.le_refl _) o
 by_cases h1:x1=0
 ·have hx:(x1 != 0)=false:=by simp [h1]
  obtain ⟨R,hR⟩:∃ R,R=madeI N m x0 x1:=⟨_,rfl⟩
  rw [← hR]
  have HR:Hid (R=if ∃ i,i < m∧N i=x0 then x0 else 0):=by
   show R=_
   rw [hR]; unfold madeI; rw [if_neg (by simp [h1])]
  clear hR h1
  go_enter Tryz.func92,Tryz.ntmps92
  go_wp2
  go_loopw [5] (fun i wr=>∃ k:Nat,k≤m∧i=.int .i64 k∧Hid (∀ j,j < k→N j≠x0)∧Below (w.heap.size+1) (w.alloc (.cells #[.int .u8 x0,.int .u8 x1,.int .i64 x2,.int .i64 x3,.slice a n c] 140)) wr) (fun i _=>m - (intOf i).toNat)
  case atStart=>exact ⟨0,Nat.zero_le _,rfl,fun j hj=>by omega,Below.refl _ _⟩
  case round =>
   obtain ⟨k,hk,rfl,HJ,hb⟩:=hrel
   have B1:Below w.heap.size w wr:=(B0 _).trans (hb.mono (by omega))
   have c0:wr.cell? ⟨w.heap.size,0,none⟩=some (.int .u8 x0):=(hb.cell (by exact Nat.lt_succ_self _)).trans (by go_simp)
   by_cases hlt:k < m
   ·have ck:wr.cell? ⟨g,k * 5,none⟩=some (.int .u8 (N k)):=(B1.cell (by exact hg)).trans (HC.out k hlt)
    by_cases heq:N k=x0
    ·have heq':(N k==x0)=true:=by simpa using heq
     have hr:R=x0:=by rw [HR.out,if_pos ⟨k,hlt,heq⟩]
     subst hr
     clear heq HR
     go_wp2
     go_quiet (fail)
     go_wp2
     go_ret
     exact ⟨rfl,below_drewN B1 nq⟩
    ·have heq':(N k==x0)=false:=by simpa using heq
     have HJ':Hid (∀ j,j < k+1→N j≠x0):=fun j hj=>by
      rcases Nat.lt_succ_iff_lt_or_eq.1 hj with h | rfl
      ·exact HJ.out j h
      ·exact heq
     clear heq
     go_wp2
     go_quiet (fail)
     go_wp2
     go_roundw
     case rel=>exact ⟨k+1,by omega,by go_num,HJ',below_drewN hb nq⟩
     case measure=>simp [intOf]; omega
   ·have hr:R=0:=by rw [HR.out,if_neg]; rintro ⟨i,hi,e⟩; exact HJ.out i (by omega) e
    subst hr
    have hge:m≤k:=by omega
    clear hlt HR
    go_wp2
    go_ret
    exact ⟨rfl,B1⟩
 ·have hx:(x1 != 0)=true:=by simpa using h1
  have e:madeI N m x0 x1=x1:=by unfold madeI; rw [if_pos h1]
  rw [e]
  clear e h1
  go_enter Tryz.func92,Tryz.ntmps92
  go_wp2
  go_ret
  exact ⟨rfl,B0 _⟩
end Go.Proofs.YtbgilndohccicaaGreatDoor
