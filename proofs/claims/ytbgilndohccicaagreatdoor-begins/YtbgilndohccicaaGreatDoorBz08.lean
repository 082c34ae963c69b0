import Derived.Test.YtbgilndohccicaaGreatDoorBz07
namespace Go.Proofs.YtbgilndohccicaaGreatDoor
open Go.RowKit
def E:Nat→ByteArray
 | 0=>⟨#[]⟩
 | 1=>⟨#[65,123,125]⟩
 | 2=>⟨#[123,125]⟩
 | 3=>⟨#[97,58,98,125]⟩
 | 4=>⟨#[58,98,125]⟩
 | 5=>⟨#[98,125]⟩
 | _=>⟨#[125]⟩
def closeS:Nat→ByteArray
 | 0=>⟨#[125]⟩
 | k+1=>⟨#[41]⟩++closeS k
def Ends (w:World):Prop:=0 < w.heap.size∧∀ k,k < 7→w.cell? ⟨0,k,none⟩=some (.string (E k))
def begin1 (s:ByteArray):Prop:=∃ j,j < 7∧(gaAll (s++E j)).isSome=true
def begin2 (s:ByteArray):Prop:=∃ k,k < 7∧((gaAll (s++closeS k)).isSome=true∨(gaAll (s++⟨#[49]⟩++closeS k)).isSome=true)
def beginsB (s:ByteArray):Bool:=(List.range 7).any (fun j=>(gaAll (s++E j)).isSome) || (List.range 7).any (fun k=>(gaAll (s++closeS k)).isSome || (gaAll (s++⟨#[49]⟩++closeS k)).isSome)
theorem E_size (k:Nat):(E k).size≤4:=by
 match k with
 | 0 | 1 | 2 | 3 | 4 | 5=>decide
 | _+6=>show (⟨#[125]⟩:ByteArray).size≤4; decide
theorem closeS_size (k:Nat):(closeS k).size=k+1:=by
 induction k with
 | zero=>rfl
 | succ k ih=>rw [closeS,ByteArray.size_append,ih]; show 1+(k+1)=_; omega
theorem all_rs {u:ByteArray} {w:World} (hm:u.size≤800) (y:Bool) (hy:(gaAll u).isSome=y) :
  Calls Tryz.prog 55 #[.string u,.bool false] w fun e w'=>∃ a n c,e=.returned (.tuple #[.slice a n c,.bool y])∧Below w.heap.size w w':=by
 subst hy
 exact (all_any u w hm).mono fun _ _ ⟨a,n,c,h1,_,h3⟩=>⟨a,n,c,h1,h3⟩
theorem ret_bool {a b:Bool} (h:a=b):Ending.returned (.bool a)=.returned (.bool b):=by rw [h]
theorem begins_1 {s:ByteArray} (h:begin1 s):beginsB s=true:=by
 obtain ⟨j,hj,h⟩:=h
 simp only [beginsB,Bool.or_eq_true,List.any_eq_true,List.mem_range]
 exact .inl ⟨j,hj,h⟩
theorem begins_2 {s:ByteArray} (h:begin2 s):beginsB s=true:=by
 obtain ⟨j,hj,h⟩:=h
 simp only [beginsB,Bool.or_eq_true,List.any_eq_true,List.mem_range]
 exact .inr ⟨j,hj,h⟩
theorem begins_no {s:ByteArray} (h1:¬ begin1 s) (h2:¬ begin2 s):beginsB s=false:=by
 cases h:beginsB s with
 | false=>rfl
 | true =>
  simp only [beginsB,Bool.or_eq_true,List.any_eq_true,List.mem_range] at h
  rcases h with ⟨j,hj,h⟩ | ⟨j,hj,h⟩
  ·exact absurd ⟨j,hj,h⟩ h1
  ·exact absurd ⟨j,hj,h⟩ h2
theorem no2_step {s:ByteArray} {m:Nat} (hno:∀ j,j < m→¬ ((gaAll (s++closeS j)).isSome=true∨(gaAll (s++⟨#[49]⟩++closeS j)).isSome=true))
  (e1:(gaAll (s++closeS m)).isSome=false) (e2:(gaAll (s++⟨#[49]⟩++closeS m)).isSome=false):∀ j,j < m+1→¬ ((gaAll (s++closeS j)).isSome=true∨(gaAll (s++⟨#[49]⟩++closeS j)).isSome=true):=by
 intro j hj
 rcases Nat.lt_succ_iff_lt_or_eq.1 hj with h | rfl
 ·exact hno j h
 ·rw [e1,e2]; simp
set_option maxHeartbeats 1000000 in
set_option maxRecDepth 20000 in
theorem begins_any (s:ByteArray) (w:World) (hm:s.size≤300) (hE:Ends w) :
  Calls Tryz.prog 91 #[.string s,.bool false] w fun e w'=>e=.returned (.bool (beginsB s))∧Below w.heap.size w w':=by
 obtain ⟨h0,hE⟩:=hE
 go_enter Tryz.func91,Tryz.ntmps91
 go_wp2
 go_loopw [5] (fun i wr=>∃ k:Nat,k≤7∧i=.int .i64 k∧Hid (∀ j,j < k→(gaAll (s++E j)).isSome=false)∧Below w.heap.size w wr) (fun i _=>7 - (intOf i).toNat)
 case atStart=>exact ⟨0,by omega,rfl,fun j hj=>by omega,Below.refl _ _⟩
 case round =>
  obtain ⟨k,hk,rfl,hno,hb⟩:=hrel
  by_cases hlt:k < 7
  ·have c0:wr.cell? ⟨0,k,none⟩=some (.string (E k)):=(hb.cell (by exact h0)).trans (hE k hlt)
   have hsz:=E_size k
   go_wp2_with (go_at_call 55; refine (all_any _ _ (by simp; omega)).mono ?_; rintro e w1 ⟨aa,an,ac,rfl,_,hb1⟩; have B1:=hb.trans (hb1.mono hb.size); clear hb1)
   ·have h1:(gaAll (s++E k)).isSome=true:=by assumption
    go_ret
    exact ⟨ret_bool (begins_1 ⟨k,hlt,h1⟩).symm,B1⟩
   ·have h1:(gaAll (s++E k)).isSome=false:=by assumption
    go_roundw
    case rel=>exact ⟨k+1,by omega,by go_num,fun j hj=>by rcases Nat.lt_succ_iff_lt_or_eq.1 hj with h | rfl; exact hno j h; exact h1,B1⟩
    case measure=>simp [intOf]; omega
  ·have hno1:Hid (¬ begin1 s):=fun ⟨j,hj,h⟩=>by rw [hno j (by omega)] at h; cases h
   have hge:7≤k:=by omega
   clear hlt hno
   go_wp2
   go_loopw [8,9] (fun c i wr=>∃ m:Nat,m≤7∧i=.int .i64 m∧c=.string (closeS m)∧Hid (∀ j,j < m→¬ ((gaAll (s++closeS j)).isSome=true∨(gaAll (s++⟨#[49]⟩++closeS j)).isSome=true))∧Below w.heap.size w wr) (fun _ i _=>7 - (intOf i).toNat)
   case atStart=>exact ⟨0,by omega,rfl,rfl,fun j hj=>by omega,hb⟩
   case round =>
    obtain ⟨m,hm7,rfl,rfl,hno,hb⟩:=hrel
    by_cases hlt:m < 7
    ·have hsz:=closeS_size m
     have hs3:Hid ((s++⟨#[49]⟩++closeS m).size≤800):=by
      show (s++⟨#[49]⟩++closeS m).size≤800
      rw [ByteArray.size_append,ByteArray.size_append,hsz]
      show s.size+1+(m+1)≤800
      omega
     have hs2:Hid ((s++closeS m).size≤800):=by
      show (s++closeS m).size≤800
      rw [ByteArray.size_append,hsz]
      omega
     cases h1:(gaAll (s++closeS m)).isSome with
     | true =>
      have e1:Hid ((gaAll (s++closeS m)).isSome=true):=h1
      obtain ⟨b2,e2'⟩:∃ b2,(gaAll (s++⟨#[49]⟩++closeS m)).isSome=b2:=⟨_,rfl⟩
      have e2:Hid ((gaAll (s++⟨#[49]⟩++closeS m)).isSome=b2):=e2'
      clear h1 e2'
      go_wp2_with (go_at_call 55; refine (all_rs (by first | exact hs2.out | exact hs3.out) _ (by first | exact e1.out | exact e2.out)).mono ?_; rintro e w1 ⟨aa,an,ac,rfl,hb1⟩; have hb:=hb.trans (hb1.mono hb.size); clear hb1)
      go_ret
      exact ⟨ret_bool (begins_2 ⟨m,hlt,.inl e1.out⟩).symm,hb⟩
     | false =>
      have e1:Hid ((gaAll (s++closeS m)).isSome=false):=h1
      cases h2:(gaAll (s++⟨#[49]⟩++closeS m)).isSome with
      | true =>
       have e2:Hid ((gaAll (s++⟨#[49]⟩++closeS m)).isSome=true):=h2
       clear h1 h2
       go_wp2_with (go_at_call 55; refine (all_rs (by first | exact hs2.out | exact hs3.out) _ (by first | exact e1.out | exact e2.out)).mono ?_; rintro e w1 ⟨aa,an,ac,rfl,hb1⟩; have hb:=hb.trans (hb1.mono hb.size); clear hb1)
       go_ret
       exact ⟨ret_bool (begins_2 ⟨m,hlt,.inr e2.out⟩).symm,hb⟩
      | false =>
       have e2:Hid ((gaAll (s++⟨#[49]⟩++closeS m)).isSome=false):=h2
       clear h1 h2
       go_wp2_with (go_at_call 55; refine (all_rs (by first | exact hs2.out | exact hs3.out) _ (by first | exact e1.out | exact e2.out)).mono ?_; rintro e w1 ⟨aa,an,ac,rfl,hb1⟩; have hb:=hb.trans (hb1.mono hb.size); clear hb1)
       go_roundw
       case rel=>exact ⟨m+1,by omega,by go_num,rfl,no2_step hno e1.out e2.out,hb⟩
       case measure=>simp [intOf]; omega
    ·have hno2:Hid (¬ begin2 s):=fun ⟨j,hj,h⟩=>hno j (by omega) h
     have hge2:7≤m:=by omega
     clear hlt hno
     go_wp2
     go_ret
     exact ⟨ret_bool (begins_no hno1.out hno2.out).symm,hb⟩
def wrongN (s:ByteArray):Nat→Nat→Nat
 | 0,i=>i
 | n+1,i=>if beginsB (s.extract 0 (i+1))=true then wrongN s n (i+1) else i
theorem Ends.below {w w':World} (h:Ends w) (hb:Below w.heap.size w w'):Ends w':=⟨Nat.lt_of_lt_of_le h.1 hb.size,fun k hk=>(hb.cell (by exact h.1)).trans (h.2 k hk)⟩
theorem begins_rs {u:ByteArray} {w:World} (hm:u.size≤300) (hE:Ends w) (y:Bool) (hy:beginsB u=y) :
  Calls Tryz.prog 91 #[.string u,.bool false] w fun e w'=>e=.returned (.bool y)∧Below w.heap.size w w':=by
 subst hy; exact begins_any u w hm hE
set_option maxHeartbeats 1000000 in
set_option maxRecDepth 20000 in
theorem wrong_any (s:ByteArray) (w:World) (hm:s.size≤300) (hE:Ends w) :
  Calls Tryz.prog 56 #[.string s,.bool false] w fun e w'=>e=.returned (.int .i64 (wrongN s s.size 0:Nat))∧Below w.heap.size w w':=by
 have HE:Hid (Ends w):=hE
 clear hE
 go_enter Tryz.func56,Tryz.ntmps56
 go_wp2
 go_loopw [5] (fun i wr=>∃ k:Nat,k≤s.size∧i=.int .i64 k∧Hid (wrongN s s.size 0=wrongN s (s.size - k) k)∧Below w.heap.size w wr) (fun i _=>s.size - (intOf i).toNat)
 case atStart=>exact ⟨0,by omega,rfl,rfl,Below.refl _ _⟩
 case round =>
  obtain ⟨k,hk,rfl,HR,hb⟩:=hrel
  by_cases hlt:k < s.size
  ·obtain ⟨n',hn'⟩:∃ n',s.size - k=n'+1:=⟨s.size - k - 1,by omega⟩
   have HR2:=HR.out
   rw [hn',wrongN] at HR2
   have HN:Hid (s.size - k=n'+1):=hn'
   clear hn' HR
   have hsz:Hid ((s.extract 0 (k+1)).size≤300):=by show (s.extract 0 (k+1)).size≤300; simp; omega
   have HEr:Hid (Ends wr):=HE.out.below hb
   cases h1:beginsB (s.extract 0 (k+1)) with
   | true =>
    rw [h1,if_pos rfl] at HR2
    have e1:Hid (beginsB (s.extract 0 (k+1))=true):=h1
    have HR3:Hid _:=HR2
    clear h1 HR2
    go_wp2_with (go_at_call 91; refine (begins_rs hsz.out HEr.out true e1.out).mono ?_; rintro e w1 ⟨rfl,hb1⟩; have B1:=hb.trans (hb1.mono hb.size); clear hb1)
    go_roundw
    case rel=>exact ⟨k+1,by omega,by go_num,by have:=HN.out; rw [show s.size - (k+1)=n' by omega]; exact HR3,B1⟩
    case measure=>simp [intOf]; omega
   | false =>
    rw [h1,if_neg Bool.false_ne_true] at HR2
    have e1:Hid (beginsB (s.extract 0 (k+1))=false):=h1
    have HR3:Hid _:=HR2
    clear h1 HR2
    go_wp2_with (go_at_call 91; refine (begins_rs hsz.out HEr.out false e1.out).mono ?_; rintro e w1 ⟨rfl,hb1⟩; have B1:=hb.trans (hb1.mono hb.size); clear hb1)
    go_ret
    exact ⟨by rw [HR3.out]; rfl,B1⟩
  ·have HR2:=HR.out
   rw [show s.size - k=0 by omega,wrongN] at HR2
   have HR3:Hid (wrongN s s.size 0=s.size):=by show wrongN s s.size 0=s.size; rw [HR2]; omega
   have hge:s.size≤k:=by omega
   clear HR HR2 hlt
   go_wp2
   go_ret
   exact ⟨by rw [HR3.out]; rfl,hb⟩
end Go.Proofs.YtbgilndohccicaaGreatDoor
namespace Go.Proofs.YtbgilndohccicaaGreatDoor
open Go.RowKit
def Least (V:Int→Prop) (b:Int):Prop:=(b=-1∧∀ p,¬ V p)∨(0≤b∧V b∧∀ p,V p→b≤p)
theorem Least.congr {V V':Int→Prop} {b:Int} (h:Least V b) (e:∀ p,V p↔V' p):Least V' b:=by
 rcases h with ⟨h1,h2⟩ | ⟨h1,h2,h3⟩
 ·exact .inl ⟨h1,fun p hp=>h2 p ((e p).2 hp)⟩
 ·exact .inr ⟨h1,(e b).1 h2,fun p hp=>h3 p ((e p).2 hp)⟩
theorem Least.low {V:Int→Prop} {b q:Int} (h:Least V b) (hb:b < 0) (hq:0≤q):Least (fun p=>V p∨p=q) q:=by
 rcases h with ⟨_,h2⟩ | ⟨h1,_,_⟩
 ·exact .inr ⟨hq,.inr rfl,fun p hp=>by rcases hp with h | h; exact absurd h (h2 p); omega⟩
 ·omega
theorem Least.less {V:Int→Prop} {b q:Int} (h:Least V b) (hb:q < b) (hq:0≤q):Least (fun p=>V p∨p=q) q:=by
 rcases h with ⟨h1,_⟩ | ⟨h1,h2,h3⟩
 ·omega
 ·exact .inr ⟨hq,.inr rfl,fun p hp=>by rcases hp with h | h; have:=h3 p h; omega; omega⟩
theorem Least.keep {V:Int→Prop} {b q:Int} (h:Least V b) (h0:¬ b < 0) (hb:¬ q < b):Least (fun p=>V p∨p=q) b:=by
 rcases h with ⟨h1,_⟩ | ⟨h1,h2,h3⟩
 ·omega
 ·exact .inr ⟨h1,.inl h2,fun p hp=>by rcases hp with h | h; exact h3 p h; omega⟩
def noGF:GF:=⟨0,0,0⟩
def noGC:GC:=⟨0,0,[]⟩
def noGV:GV:=⟨0,0,⟨none,0,0⟩⟩
def VX (N P:Nat→Int) (i k:Nat) (p:Int):Prop:=∃ k',k' < k∧N i=N k'∧p=P i
def VXs (N P:Nat→Int) (j:Nat) (p:Int):Prop:=∃ j',j' < j∧VX N P j' j' p
def VCs (N P:Nat→Int) (FL:Nat→Nat) (FN FP:Nat→Nat→Int) (i:Nat) (p:Int):Prop:=∃ i',i' < i∧(VX N P i' i' p∨VXs (FN i') (FP i') (FL i') p)
theorem VX_zero (N P:Nat→Int) (i:Nat) (p:Int):¬ VX N P i 0 p:=fun ⟨_,h,_⟩=>by omega
theorem VXs_zero (N P:Nat→Int) (p:Int):¬ VXs N P 0 p:=fun ⟨_,h,_⟩=>by omega
theorem VCs_zero (N P:Nat→Int) (FL:Nat→Nat) (FN FP:Nat→Nat→Int) (p:Int):¬ VCs N P FL FN FP 0 p:=fun ⟨_,h,_⟩=>by omega
theorem VX_succ (N P:Nat→Int) (i k:Nat) (p:Int):VX N P i (k+1) p↔VX N P i k p∨(N i=N k∧p=P i):=by
 constructor
 ·rintro ⟨k',h,h1,h2⟩
  rcases Nat.lt_succ_iff_lt_or_eq.1 h with h' | rfl
  ·exact .inl ⟨k',h',h1,h2⟩
  ·exact .inr ⟨h1,h2⟩
 ·rintro (⟨k',h,h1,h2⟩ | ⟨h1,h2⟩)
  ·exact ⟨k',by omega,h1,h2⟩
  ·exact ⟨k,by omega,h1,h2⟩
theorem VXs_succ (N P:Nat→Int) (j:Nat) (p:Int):VXs N P (j+1) p↔VXs N P j p∨VX N P j j p:=by
 constructor
 ·rintro ⟨k',h,h1⟩
  rcases Nat.lt_succ_iff_lt_or_eq.1 h with h' | rfl
  ·exact .inl ⟨k',h',h1⟩
  ·exact .inr h1
 ·rintro (⟨k',h,h1⟩ | h1)
  ·exact ⟨k',by omega,h1⟩
  ·exact ⟨j,by omega,h1⟩
theorem VCs_succ (N P:Nat→Int) (FL:Nat→Nat) (FN FP:Nat→Nat→Int) (i:Nat) (p:Int):VCs N P FL FN FP (i+1) p↔(VCs N P FL FN FP i p∨VX N P i i p)∨VXs (FN i) (FP i) (FL i) p:=by
 constructor
 ·rintro ⟨k',h,h1⟩
  rcases Nat.lt_succ_iff_lt_or_eq.1 h with h' | rfl
  ·exact .inl (.inl ⟨k',h',h1⟩)
  ·rcases h1 with h1 | h1
   ·exact .inl (.inr h1)
   ·exact .inr h1
 ·rintro ((⟨k',h,h1⟩ | h1) | h1)
  ·exact ⟨k',by omega,h1⟩
  ·exact ⟨i,by omega,.inl h1⟩
  ·exact ⟨i,by omega,.inr h1⟩
theorem look_skip {A V:Int→Prop} {V':Int→Prop} {c:Prop} {q b:Int} (h:Least (fun p=>A p∨V p) b) (e:∀ p,V' p↔V p∨(c∧p=q)) (hc:¬ c):Least (fun p=>A p∨V' p) b :=
 h.congr fun p=>by rw [e p]; simp [hc]
theorem look_hit {A V:Int→Prop} {V':Int→Prop} {c:Prop} {q b':Int} (h:Least (fun p=>(A p∨V p)∨p=q) b') (e:∀ p,V' p↔V p∨(c∧p=q)) (hc:c):Least (fun p=>A p∨V' p) b' :=
 h.congr fun p=>by rw [e p]; simp [hc,or_assoc]
theorem flat_get {α:Type} (f:α→List Value) (m:Nat) (hf:∀ x,(f x).length=m) (l:List α) (d:α):∀ i o,i < l.length→o < m→(l.flatMap f)[i * m+o]?=(f (l[i]?.getD d))[o]?:=by
 induction l with
 | nil=>intro i o h; simp at h
 | cons a r ih =>
  intro i o hi ho
  rw [List.flatMap_cons]
  match i with
  | 0=>rw [List.getElem?_append_left (by rw [hf]; omega)]; simp
  | j+1 =>
   rw [List.getElem?_append_right (by rw [hf,Nat.add_mul]; omega),hf]
   have e:(j+1) * m+o - m=j * m+o:=by rw [Nat.add_mul]; omega
   rw [e,ih j o (by simpa using hi) ho]
   simp
theorem add_off (g j:Nat):(⟨g,0,none⟩:Addr).add j=⟨g,j,none⟩:=by unfold Addr.add; split <;> simp_all
structure GCell (w:World) (g i:Nat) (x:GV):Prop where
 c0:w.cell? ⟨g,i * 5,none⟩=some (.int .u8 x.n)
 c1:w.cell? ⟨g,i * 5+1,none⟩=some (.int .u8 0)
 c2:w.cell? ⟨g,i * 5+2,none⟩=some (.int .i64 x.p)
 c3:w.cell? ⟨g,i * 5+3,none⟩=some (.int .i64 0)
 c4:w.cell? ⟨g,i * 5+4,none⟩=some (.slice x.v.a x.v.n x.v.c)
theorem RCls.cells {w:World} {base:Nat} {v:Value} {vs:List GV} {cs:List GC} (h:RCls w base v vs cs) (hne:cs≠[]) :
  ∃ g cap,v=.slice (some ⟨g,0,none⟩) cs.length cap∧g < w.heap.size∧cs.length≤maxLen∧∀ i,i < cs.length→GCell w g i (vs[i]?.getD noGV):=by
 have hl:=h.len
 rcases h.row.2 with ⟨rfl,hn⟩ | ⟨g,cap,cur,rfl,_,hg,h1,h2,_⟩
 ·exact absurd (List.length_eq_zero_iff.1 (by omega)) hne
 ·refine ⟨g,cap,by rw [hl],(Array.getElem?_eq_some_iff.1 hg).1,by omega,fun i hi=>?_⟩
  have c:=World.ownsRow.cells h.row (g:=g) rfl
  have e:∀ o u,o < 5→(GV.cells (vs[i]?.getD noGV))[o]?=some u→w.cell? ⟨g,i * 5+o,none⟩=some u:=by
   intro o u ho hu
   rw [← add_off]
   refine c _ _ ?_
   rw [← hu]
   exact flat_get GV.cells 5 (fun _=>rfl) vs noGV i o (by omega) ho
  exact ⟨e 0 _ (by omega) rfl,e 1 _ (by omega) rfl,e 2 _ (by omega) rfl,e 3 _ (by omega) rfl,e 4 _ (by omega) rfl⟩
structure FCell (w:World) (g j:Nat) (x:GF):Prop where
 c0:w.cell? ⟨g,j * 7,none⟩=some (.int .u8 x.n)
 c2:w.cell? ⟨g,j * 7+2,none⟩=some (.int .i64 x.p)
theorem RV.cells {w:World} {base:Nat} {v:Value} {l:List GF} (h:RV w base v l) :
  ∃ a cap,v=.slice a l.length cap∧l.length≤maxLen∧(0 < l.length→∃ g,a=some ⟨g,0,none⟩∧g < w.heap.size∧∀ i,i < l.length→FCell w g i (l[i]?.getD noGF)):=by
 rcases h.2 with ⟨rfl,hn⟩ | ⟨g,cap,cur,rfl,_,hg,h1,h2,_⟩
 ·exact ⟨none,0,by rw [hn],by rw [hn]; simp [maxLen],fun h=>by omega⟩
 ·refine ⟨_,cap,rfl,by omega,fun _=>⟨g,rfl,(Array.getElem?_eq_some_iff.1 hg).1,fun i hi=>?_⟩⟩
  have c:=World.ownsRow.cells h (g:=g) rfl
  have e:∀ o u,o < 7→(GF.cells (l[i]?.getD noGF))[o]?=some u→w.cell? ⟨g,i * 7+o,none⟩=some u:=by
   intro o u ho hu
   rw [← add_off]
   refine c _ _ ?_
   rw [← hu]
   exact flat_get GF.cells 7 (fun _=>rfl) l noGF i o hi ho
  exact ⟨e 0 _ (by omega) rfl,e 2 _ (by omega) rfl⟩
set_option maxHeartbeats 400000 in
set_option maxRecDepth 20000 in
theorem made_any (x0 x2:Int) (a:Option Addr) (n c:Nat) (w:World) :
  Calls Tryz.prog 92 #[.agg #[.int .u8 x0,.int .u8 0,.int .i64 x2,.int .i64 0,.slice a n c],.slice none 0 0] w fun e w'=>e=.returned (.int .u8 0)∧Below w.heap.size w w':=by
 go_enter Tryz.func92,Tryz.ntmps92
 go_wp2
 refine wp_loop_rounds 1 ?_; rw [rounds_succ]
 go_wp2
 go_ret
 exact ⟨rfl,(Below.refl _ _).alloc (Nat.le_refl _) _⟩
end Go.Proofs.YtbgilndohccicaaGreatDoor
namespace Go.Proofs.YtbgilndohccicaaGreatDoor
open Go.RowKit
theorem below_drewN {B:Nat} {a w:World} (h:Below B a w) (n:Nat):Below B a (w.drewN n):=⟨h.os,h.tape,h.output,h.size,h.block⟩
structure Row5 (w:World) (g i:Nat) (n p:Int) (a:Option Addr) (l c:Nat):Prop where
 c0:w.cell? ⟨g,i * 5,none⟩=some (.int .u8 n)
 c1:w.cell? ⟨g,i * 5+1,none⟩=some (.int .u8 0)
 c2:w.cell? ⟨g,i * 5+2,none⟩=some (.int .i64 p)
 c3:w.cell? ⟨g,i * 5+3,none⟩=some (.int .i64 0)
 c4:w.cell? ⟨g,i * 5+4,none⟩=some (.slice a l c)
theorem Row5.below {w w':World} {g i:Nat} {n p:Int} {a:Option Addr} {l c:Nat} (h:Row5 w g i n p a l c) (hb:Below w.heap.size w w') (hg:g < w.heap.size):Row5 w' g i n p a l c :=
 ⟨(hb.cell (by exact hg)).trans h.c0,(hb.cell (by exact hg)).trans h.c1,(hb.cell (by exact hg)).trans h.c2,(hb.cell (by exact hg)).trans h.c3,(hb.cell (by exact hg)).trans h.c4⟩
structure Row7 (w:World) (g j:Nat) (n p:Int):Prop where
 c0:w.cell? ⟨g,j * 7,none⟩=some (.int .u8 n)
 c2:w.cell? ⟨g,j * 7+2,none⟩=some (.int .i64 p)
theorem Row7.below {w w':World} {g j:Nat} {n p:Int} (h:Row7 w g j n p) (hb:Below w.heap.size w w') (hg:g < w.heap.size):Row7 w' g j n p :=
 ⟨(hb.cell (by exact hg)).trans h.c0,(hb.cell (by exact hg)).trans h.c2⟩
set_option maxRecDepth 100000 in
set_option maxHeartbeats 2000000 in
theorem twice_row (g cap n:Nat) (N P:Nat→Int) (FA:Nat→Option Addr) (FG FL FC:Nat→Nat) (FN FP:Nat→Nat→Int) (w:World) (hg:g < w.heap.size) (hn:n≤1000) (hfl:∀ i,FL i≤1000)
  (hP:∀ i,0≤P i) (hFP:∀ i j,0≤FP i j)
  (hc:∀ i,i < n→Row5 w g i (N i) (P i) (FA i) (FL i) (FC i))
  (hf:∀ i j,i < n→j < FL i→FA i=some ⟨FG i,0,none⟩∧FG i < w.heap.size∧Row7 w (FG i) j (FN i j) (FP i j)) :
  Calls Tryz.prog 57 #[.slice (some ⟨g,0,none⟩) n cap,.slice none 0 0] w fun e w'=>∃ b,e=.returned (.int .i64 b)∧Least (VCs N P FL FN FP n) b∧Below w.heap.size w w':=by
 have HC:Hid (∀ i,i < n→Row5 w g i (N i) (P i) (FA i) (FL i) (FC i)):=hc
 have HF:Hid (∀ i j,i < n→j < FL i→FA i=some ⟨FG i,0,none⟩∧FG i < w.heap.size∧Row7 w (FG i) j (FN i j) (FP i j)):=hf
 have HP:Hid (∀ i,0≤P i):=hP
 have HFP:Hid (∀ i j,0≤FP i j):=hFP
 have HFL:Hid (∀ i,FL i≤1000):=hfl
 clear hc hf hP hFP hfl
 go_enter Tryz.func57,Tryz.ntmps57
 go_wp2
 go_loopw [5,6] (fun bv iv wr=>∃ (i:Nat) (b:Int),i≤n∧iv=.int .i64 i∧bv=.int .i64 b∧Least (VCs N P FL FN FP i) b∧Below w.heap.size w wr) (fun _ iv _=>n - (intOf iv).toNat)
 case atStart=>exact ⟨0,-1,by omega,rfl,rfl,.inl ⟨rfl,fun p=>VCs_zero _ _ _ _ _ p⟩,Below.refl _ _⟩
 case round =>
  obtain ⟨i,b,hi,rfl,rfl,hL,hb⟩:=hrel
  by_cases hlt:i < n
  ·go_wp2
   go_loopw [5,7] (fun bv kv wr=>∃ (k:Nat) (b:Int),k≤i∧kv=.int .i64 k∧bv=.int .i64 b∧Least (fun p=>VCs N P FL FN FP i p∨VX N P i k p) b∧Below w.heap.size w wr) (fun _ kv _=>i - (intOf kv).toNat)
   case atStart=>exact ⟨0,b,by omega,rfl,rfl,hL.congr (fun p=>by simp [VX_zero]),hb⟩
   case round =>
    clear hL hb
    obtain ⟨k,b2,hk,rfl,rfl,hL,hb⟩:=hrel
    have hpi:=HP.out i
    by_cases hki:k < i
    ·have hkn:k < n:=by omega
     obtain ⟨i0,i1,i2,i3,i4⟩:=(HC.out i hlt).below hb hg
     obtain ⟨k0,k1,k2,k3,k4⟩:=(HC.out k hkn).below hb hg
     by_cases heq:N i=N k
     ·have heq':(N i==N k)=true:=by simpa using heq
      by_cases hb0:b2 < 0
      ·have hL':Least (fun p=>VCs N P FL FN FP i p∨VX N P i (k+1) p) (P i):=look_hit (hL.low hb0 hpi) (fun p=>VX_succ N P i k p) heq
       clear hL heq
       go_wp2_with (go_at_call 92; refine (made_any _ _ _ _ _ _).mono ?_; rintro e w1 ⟨rfl,hb1⟩; have hb:=hb.trans (hb1.mono hb.size); clear hb1; obtain ⟨i0,i1,i2,i3,i4⟩:=(HC.out i hlt).below hb hg; obtain ⟨k0,k1,k2,k3,k4⟩:=(HC.out k hkn).below hb hg)
       go_quiet (fail)
       go_wp2
       go_roundw
       case rel=>exact ⟨k+1,P i,by omega,by go_num,rfl,hL',below_drewN hb nq⟩
       case measure=>simp [intOf]; omega
      ·by_cases hb1:P i < b2
       ·have hL':Least (fun p=>VCs N P FL FN FP i p∨VX N P i (k+1) p) (P i):=look_hit (hL.less hb1 hpi) (fun p=>VX_succ N P i k p) heq
        clear hL heq
        go_wp2_with (go_at_call 92; refine (made_any _ _ _ _ _ _).mono ?_; rintro e w1 ⟨rfl,hb1⟩; have hb:=hb.trans (hb1.mono hb.size); clear hb1; obtain ⟨i0,i1,i2,i3,i4⟩:=(HC.out i hlt).below hb hg; obtain ⟨k0,k1,k2,k3,k4⟩:=(HC.out k hkn).below hb hg)
        go_quiet (fail)
        go_wp2
        go_roundw
        case rel=>exact ⟨k+1,P i,by omega,by go_num,rfl,hL',below_drewN hb nq⟩
        case measure=>simp [intOf]; omega
       ·have hL':Least (fun p=>VCs N P FL FN FP i p∨VX N P i (k+1) p) b2:=look_hit (hL.keep hb0 hb1) (fun p=>VX_succ N P i k p) heq
        clear hL heq
        go_wp2_with (go_at_call 92; refine (made_any _ _ _ _ _ _).mono ?_; rintro e w1 ⟨rfl,hb1⟩; have hb:=hb.trans (hb1.mono hb.size); clear hb1; obtain ⟨i0,i1,i2,i3,i4⟩:=(HC.out i hlt).below hb hg; obtain ⟨k0,k1,k2,k3,k4⟩:=(HC.out k hkn).below hb hg)
        go_quiet (fail)
        go_wp2
        go_roundw
        case rel=>exact ⟨k+1,b2,by omega,by go_num,rfl,hL',below_drewN hb nq⟩
        case measure=>simp [intOf]; omega
     ·have heq':(N i==N k)=false:=by simpa using heq
      have hL':Least (fun p=>VCs N P FL FN FP i p∨VX N P i (k+1) p) b2:=look_skip hL (fun p=>VX_succ N P i k p) heq
      clear hL heq
      go_wp2_with (go_at_call 92; refine (made_any _ _ _ _ _ _).mono ?_; rintro e w1 ⟨rfl,hb1⟩; have hb:=hb.trans (hb1.mono hb.size); clear hb1; obtain ⟨i0,i1,i2,i3,i4⟩:=(HC.out i hlt).below hb hg; obtain ⟨k0,k1,k2,k3,k4⟩:=(HC.out k hkn).below hb hg)
      go_quiet (fail)
      go_wp2
      go_roundw
      case rel=>exact ⟨k+1,b2,by omega,by go_num,rfl,hL',below_drewN hb nq⟩
      case measure=>simp [intOf]; omega
    ·have hki':k=i:=by omega
     have hL2:Least (fun p=>VCs N P FL FN FP i p∨VX N P i i p) b2:=by rw [hki'] at hL; exact hL
     have hge:i≤k:=by omega
     have hdn:decide (k < i)=false:=decide_eq_false hki
     have hdi:decide ((k:Int) < (i:Int))=false:=decide_eq_false (by omega)
     clear hL hki hki'
     obtain ⟨i0,i1,i2,i3,i4⟩:=(HC.out i hlt).below hb hg
     have hfl:=HFL.out i
     by_cases hz:0 < FL i
     ·rw [(HF.out i 0 hlt hz).1] at i4
      go_wp2
      go_loopw [5,12] (fun bv jv wr=>∃ (j:Nat) (b:Int),j≤FL i∧jv=.int .i64 j∧bv=.int .i64 b∧Least (fun p=>(VCs N P FL FN FP i p∨VX N P i i p)∨VXs (FN i) (FP i) j p) b∧Below w.heap.size w wr) (fun _ jv _=>FL i - (intOf jv).toNat)
      case atStart=>exact ⟨0,b2,by omega,rfl,rfl,hL2.congr (fun p=>by simp [VXs_zero]),hb⟩
      case round =>
       clear hL2 hb i0 i1 i2 i3 i4
       obtain ⟨j,b3,hj,rfl,rfl,hL,hb⟩:=hrel
       by_cases hjl:j < FL i
       ·obtain ⟨_,fg,fr⟩:=HF.out i j hlt hjl
        go_wp2
        go_loopw [5,13] (fun bv kv wr=>∃ (k:Nat) (b:Int),k≤j∧kv=.int .i64 k∧bv=.int .i64 b∧Least (fun p=>((VCs N P FL FN FP i p∨VX N P i i p)∨VXs (FN i) (FP i) j p)∨VX (FN i) (FP i) j k p) b∧Below w.heap.size w wr) (fun _ kv _=>j - (intOf kv).toNat)
        case atStart=>exact ⟨0,b3,by omega,rfl,rfl,hL.congr (fun p=>by simp [VX_zero]),hb⟩
        case round =>
         clear hL hb
         obtain ⟨k,b3,hk,rfl,rfl,hL,hb⟩:=hrel
         have hpj:=HFP.out i j
         by_cases hkj:k < j
         ·obtain ⟨j0,j2⟩:=fr.below hb fg
          obtain ⟨k0,k2⟩:=(HF.out i k hlt (by omega)).2.2.below hb fg
          clear fr
          by_cases heq:FN i j=FN i k
          ·have heq':(FN i j==FN i k)=true:=by simpa using heq
           by_cases hb0:b3 < 0
           ·have hL':Least (fun p=>((VCs N P FL FN FP i p∨VX N P i i p)∨VXs (FN i) (FP i) j p)∨VX (FN i) (FP i) j (k+1) p) (FP i j):=look_hit (hL.low hb0 hpj) (fun p=>VX_succ (FN i) (FP i) j k p) heq
            clear hL heq
            go_wp2
            go_quiet (fail)
            go_wp2
            go_roundw
            case rel=>first | exact ⟨k+1,FP i j,by omega,by go_num,rfl,hL',below_drewN hb nq⟩ | ((repeat apply Exists.intro); exact ⟨⟨k+1,FP i j,by omega,by go_num,rfl,hL',below_drewN hb nq⟩,rfl⟩)
            case measure=>simp [intOf]; omega
           ·have hd0:decide (b3 < 0)=false:=decide_eq_false hb0
            by_cases hb1:FP i j < b3
            ·have hL':Least (fun p=>((VCs N P FL FN FP i p∨VX N P i i p)∨VXs (FN i) (FP i) j p)∨VX (FN i) (FP i) j (k+1) p) (FP i j):=look_hit (hL.less hb1 hpj) (fun p=>VX_succ (FN i) (FP i) j k p) heq
             clear hL heq
             go_wp2
             go_quiet (fail)
             go_wp2
             go_roundw
             case rel=>first | exact ⟨k+1,FP i j,by omega,by go_num,rfl,hL',below_drewN hb nq⟩ | ((repeat apply Exists.intro); exact ⟨⟨k+1,FP i j,by omega,by go_num,rfl,hL',below_drewN hb nq⟩,rfl⟩)
             case measure=>simp [intOf]; omega
            ·have hL':Least (fun p=>((VCs N P FL FN FP i p∨VX N P i i p)∨VXs (FN i) (FP i) j p)∨VX (FN i) (FP i) j (k+1) p) b3:=look_hit (hL.keep hb0 hb1) (fun p=>VX_succ (FN i) (FP i) j k p) heq
             clear hL heq
             go_wp2
             go_quiet (fail)
             go_wp2
             go_roundw
             case rel=>first | exact ⟨k+1,b3,by omega,by go_num,rfl,hL',below_drewN hb nq⟩ | ((repeat apply Exists.intro); exact ⟨⟨k+1,b3,by omega,by go_num,rfl,hL',below_drewN hb nq⟩,rfl⟩)
             case measure=>simp [intOf]; omega
          ·have heq':(FN i j==FN i k)=false:=by simpa using heq
           have hL':Least (fun p=>((VCs N P FL FN FP i p∨VX N P i i p)∨VXs (FN i) (FP i) j p)∨VX (FN i) (FP i) j (k+1) p) b3:=look_skip hL (fun p=>VX_succ (FN i) (FP i) j k p) heq
           clear hL heq
           go_wp2
           go_quiet (fail)
           go_wp2
           go_roundw
           case rel=>first | exact ⟨k+1,b3,by omega,by go_num,rfl,hL',below_drewN hb nq⟩ | ((repeat apply Exists.intro); exact ⟨⟨k+1,b3,by omega,by go_num,rfl,hL',below_drewN hb nq⟩,rfl⟩)
           case measure=>simp [intOf]; omega
         ·have hkj':k=j:=by omega
          have hL2:Least (fun p=>(VCs N P FL FN FP i p∨VX N P i i p)∨VXs (FN i) (FP i) (j+1) p) b3:=by
           rw [hkj'] at hL
           exact hL.congr (fun p=>by rw [VXs_succ]; simp [or_assoc])
          have hge2:j≤k:=by omega
          clear hL hkj hkj' fr
          go_wp2
          go_roundw
          case rel=>exact ⟨j+1,b3,by omega,by go_num,rfl,hL2,hb⟩
          case measure=>simp [intOf]; omega
       ·have hjl':j=FL i:=by omega
        have hL2:Least (VCs N P FL FN FP (i+1)) b3:=by
         rw [hjl'] at hL
         exact hL.congr (fun p=>(VCs_succ N P FL FN FP i p).symm)
        have hge2:FL i≤j:=by omega
        clear hL hjl hjl'
        go_wp2
        go_roundw
        case rel=>exact ⟨i+1,b3,by omega,by go_num,rfl,hL2,hb⟩
        case measure=>simp [intOf]; omega
     ·clear HF
      go_wp2
      go_loopw [5,12] (fun bv jv wr=>∃ (j:Nat) (b:Int),j≤FL i∧jv=.int .i64 j∧bv=.int .i64 b∧Least (fun p=>(VCs N P FL FN FP i p∨VX N P i i p)∨VXs (FN i) (FP i) j p) b∧Below w.heap.size w wr) (fun _ jv _=>FL i - (intOf jv).toNat)
      case atStart=>exact ⟨0,b2,by omega,rfl,rfl,hL2.congr (fun p=>by simp [VXs_zero]),hb⟩
      case round =>
       clear hL2 hb i0 i1 i2 i3 i4
       obtain ⟨j,b3,hj,rfl,rfl,hL,hb⟩:=hrel
       by_cases hjl:j < FL i
       ·omega
       ·have hjl':j=FL i:=by omega
        have hL2:Least (VCs N P FL FN FP (i+1)) b3:=by
         rw [hjl'] at hL
         exact hL.congr (fun p=>(VCs_succ N P FL FN FP i p).symm)
        have hge2:FL i≤j:=by omega
        clear hL hjl hjl'
        go_wp2
        go_roundw
        case rel=>exact ⟨i+1,b3,by omega,by go_num,rfl,hL2,hb⟩
        case measure=>simp [intOf]; omega
  ·have hge:n≤i:=by omega
   have he:i=n:=by omega
   have HL:Hid (Least (VCs N P FL FN FP n) b):=by rw [← he]; exact hL
   clear he hL hlt
   go_wp2
   go_ret
   exact ⟨b,rfl,HL.out,hb⟩
end Go.Proofs.YtbgilndohccicaaGreatDoor
