import Derived.Test.YtbgilndohccicaaGreatDoorBz15
namespace Go.Proofs.YtbgilndohccicaaGreatDoor
open Go.RowKit
structure GT where
 w:Int
 v:Int
 p:Int
structure GFd where
 l:Int
 p:Int
 k:Int
 ts:List GT
 sp:Int
 ex:Bool
def zF:GFd:=⟨0,0,0,[],0,false⟩
def flatT:List GT→List Value
 | []=>[]
 | t :: r=>.int .u8 t.w :: .int .i64 t.v :: .int .i64 t.p :: flatT r
def TVb (w:World) (base:Nat) (v:Value) (ts:List GT):Prop:=w.ownsRow base 220 3 v ts.length (flatT ts)
theorem TVb.nil (w:World) (base:Nat):TVb w base (.slice none 0 0) []:=World.ownsRow_nil _ _ _ _
theorem TVb.kept {w w':World} {base b:Nat} {v:Value} {ts:List GT} (h:TVb w base v ts) (g:w.grownBy w' (some b)) (hb:b < base):TVb w' base v ts:=row_kept h g hb
theorem TVb.alloc {w:World} {base:Nat} {v:Value} {ts:List GT} (h:TVb w base v ts) (o:Obj):TVb (w.alloc o) base v ts:=World.ownsRow.alloc h o
theorem TVb.setOld {w:World} {base p o:Nat} {v x:Value} {ts:List GT} (h:TVb w base v ts) (hp:p < base):TVb (w.setCell ⟨p,o,none⟩ x) base v ts:=h.kept (gb_set w p o x) hp
theorem TVb.mono {w:World} {base base':Nat} {v:Value} {ts:List GT} (h:TVb w base v ts) (hb:base'≤base):TVb w base' v ts:=row_mono h hb
structure RuleR where
 ok:Bool
 at_:Nat
 ts:List GT
 sp:Int
 ex:Bool
def RulePost (R:RuleR) (w:World) (b:Nat) (s:ByteArray) (u:Bool) (e:Ending) (w':World):Prop:=∃ (a:Option Addr) (n c:Nat),
 e=.returned (.tuple #[.agg #[.slice a n c,.int .i64 R.sp,.bool R.ex],.bool R.ok])∧TVb w' w.heap.size (.slice a n c) R.ts∧RS w' b s R.at_ u∧w.grownBy w' (some b)
def RuleC (u:Bool) (ru:ByteArray→Nat→RuleR):Prop:=∀ (s:ByteArray) (b k:Nat) (w:World),RS w b s k u →
 Calls Tryz.prog 146 #[.pointer (some ⟨b,0,none⟩)] w (RulePost (ru s k) w b s u)
def noRule:ByteArray→Nat→RuleR:=fun _ k=>⟨true,k,[],0,false⟩
set_option maxHeartbeats 400000 in
theorem rule_no:RuleC false noRule:=by
 intro s b k w h
 have hb:=h.blt
 obtain ⟨c0,c1,c2,_,f1,f3,le,lt⟩:=id h
 go_enter Tryz.func146,Tryz.ntmps146
 go_wp2
 refine bodyPost_ret (v:=.tuple #[.agg #[.slice none 0 0,.int .i64 0,.bool false],.bool true]) (by simp [results,Tryz.results146,go_sem]) rfl ⟨none,0,0,rfl,TVb.nil _ _,?_,?_⟩
 ·show RS _ b s k false
  with_reducible repeat first | exact h | apply RS.drew | apply RS.drewN | apply RS.alloc | (refine RS.setOther ?_ (by omega) _)
 ·with_reducible repeat first | exact World.grownBy.refl _ _ | apply gb_drew | apply gb_drew1 | apply gb_alloc | apply gb_setB | (refine gb_setNew ?_ (by omega) _)
structure FromR where
 ok:Bool
 at_:Nat
 l:Int
 p:Int
def FromC (u:Bool) (fr:ByteArray→Nat→FromR):Prop:=∀ (s:ByteArray) (b k:Nat) (w:World),RS w b s k u →
 Calls Tryz.prog 132 #[.pointer (some ⟨b,0,none⟩)] w fun e w' =>
  e=.returned (.tuple #[.agg #[.int .u8 (fr s k).l,.int .i64 (fr s k).p],.bool (fr s k).ok])∧RS w' b s (fr s k).at_ u∧w.grownBy w' (some b)
def noFrom:ByteArray→Nat→FromR:=fun _ k=>⟨true,k,0,0⟩
set_option maxHeartbeats 400000 in
theorem from_no:FromC false noFrom:=by
 intro s b k w h
 have hb:=h.blt
 obtain ⟨c0,c1,c2,_,f1,f3,le,lt⟩:=id h
 go_enter Tryz.func132,Tryz.ntmps132
 go_wp2
 refine bodyPost_ret (v:=.tuple #[.agg #[.int .u8 0,.int .i64 0],.bool true]) (by simp [results,Tryz.results132,go_sem]) rfl ⟨rfl,?_,?_⟩
 ·show RS _ b s k false
  with_reducible repeat first | exact h | apply RS.drew | apply RS.drewN | apply RS.alloc | (refine RS.setOther ?_ (by omega) _)
 ·with_reducible repeat first | exact World.grownBy.refl _ _ | apply gb_drew | apply gb_drew1 | apply gb_alloc | apply gb_setB | (refine gb_setNew ?_ (by omega) _)
structure GFR where
 ok:Bool
 at_:Nat
 f:GFd
def gdField (ru:ByteArray→Nat→RuleR) (s:ByteArray) (k:Nat):GFR :=
 if (decide (97≤nextB s k) && decide (nextB s k≤122))=false then ⟨false,k,zF⟩
 else if (nextB s (k+1)==58)=false then ⟨false,k+1,zF⟩
 else if isKindB (nextB s (k+1+1))=false then ⟨false,k+1+1,zF⟩
 else if (ru s (k+1+1+1)).ok=false then ⟨false,(ru s (k+1+1+1)).at_,zF⟩
 else ⟨true,(ru s (k+1+1+1)).at_,⟨nextB s k,k,nextB s (k+1+1),(ru s (k+1+1+1)).ts,(ru s (k+1+1+1)).sp,(ru s (k+1+1+1)).ex⟩⟩
def fieldV (f:GFd) (a:Option Addr) (n c:Nat):Value:=.agg #[.int .u8 f.l,.int .i64 f.p,.int .u8 f.k,.slice a n c,.int .i64 f.sp,.bool f.ex]
def FieldPost (R:GFR) (w:World) (b:Nat) (s:ByteArray) (u:Bool) (e:Ending) (w':World):Prop:=∃ (a:Option Addr) (n c:Nat),
 e=.returned (.tuple #[fieldV R.f a n c,.bool R.ok])∧TVb w' w.heap.size (.slice a n c) R.f.ts∧RS w' b s R.at_ u∧w.grownBy w' (some b)
set_option maxHeartbeats 1000000 in
theorem gfield_any {u:Bool} {ru:ByteArray→Nat→RuleR} (HRU:RuleC u ru) (s:ByteArray) (b k:Nat) (w:World) (h:RS w b s k u) :
  Calls Tryz.prog 143 #[.pointer (some ⟨b,0,none⟩)] w (FieldPost (gdField ru s k) w b s u):=by
 have hb:=h.blt
 have R0:RS (w.alloc (.cells #[.int .u8 0,.int .i64 0,.int .u8 0,.slice none 0 0,.int .i64 0,.bool false] 154)) b s k u:=h.alloc _
 have G0:w.grownBy (w.alloc (.cells #[.int .u8 0,.int .i64 0,.int .u8 0,.slice none 0 0,.int .i64 0,.bool false] 154)) (some b):=World.grownBy_alloc _ _ _
 cases h1:(decide (97≤nextB s k) && decide (nextB s k≤122)) with
 | false =>
  have e:gdField ru s k=⟨false,k,zF⟩:=by unfold gdField; rw [if_pos h1]
  rw [e]; clear e
  go_enter Tryz.func143,Tryz.ntmps143
  go_wp2_with fail
  refine (letter_rs R0 (by omega) false h1).mono ?_
  rintro e w1 ⟨rfl,R1,g1⟩
  obtain ⟨lc1,lf1,ls1⟩:=Loc.of g1 (r:=w.heap.size) (by simp) (by omega)
  simp only [Bool.false_eq_true,if_false] at R1 ⊢
  have G1:=gb_trans G0 g1
  go_wp2
  refine bodyPost_ret (v:=.tuple #[fieldV zF none 0 0,.bool false]) (by simp [results,Tryz.results143,go_sem,lc1,ls1,fieldV,zF]) rfl ⟨_,_,_,rfl,TVb.nil _ _,?_,?_⟩
  ·with_reducible repeat first | exact R1 | apply RS.drew | apply RS.drewN | apply RS.alloc | (refine RS.setOther ?_ (by omega) _)
  ·with_reducible repeat first | exact G1 | apply gb_drew | apply gb_drew1 | apply gb_alloc | apply gb_setB | (refine gb_setNew ?_ (by omega) _)
 | true =>
 have hk0:b≠w.heap.size:=by omega
 cases h2:(nextB s (k+1)==58) with
 | false =>
  have e:gdField ru s k=⟨false,k+1,zF⟩:=by unfold gdField; rw [if_neg (by rw [h1]; decide),if_pos h2]
  rw [e]; clear e
  go_enter Tryz.func143,Tryz.ntmps143
  go_wp2_with fail
  refine (letter_rs R0 (by omega) true h1).mono ?_
  rintro e w1 ⟨rfl,R1',g1⟩
  obtain ⟨lc1,lf1,ls1⟩:=Loc.of g1 (r:=w.heap.size) (by simp) (by omega)
  simp only [if_true] at R1' ⊢
  have R1:RS (w1.alloc (.cells #[.int .u8 (nextB s k),.int .i64 k] 145)) b s (k+1) u:=R1'.alloc _
  have G1:=gb_alloc (gb_trans G0 g1) (.cells #[.int .u8 (nextB s k),.int .i64 k] 145)
  clear R1' g1 R0 G0
  go_wp2_with fail
  refine (take_rs R1 (by omega) false h2).mono ?_
  rintro e w2 ⟨rfl,R2',g2⟩
  obtain ⟨lc2,lf2,ls2⟩:=Loc.of g2 (r:=w.heap.size) (by simp; omega) (by omega)
  obtain ⟨mc2,mf2,ms2⟩:=Loc.of g2 (r:=w1.heap.size) (by simp) (by omega)
  simp only [Bool.false_eq_true,if_false] at R2' ⊢
  have R2:=R2'
  have G2:=gb_trans G1 g2
  clear R2' g2 R1 G1
  go_wp2
  refine bodyPost_ret (v:=.tuple #[fieldV zF none 0 0,.bool false]) (by simp [results,Tryz.results143,go_sem,lc1,ls1,lc2,fieldV,zF]) rfl ⟨_,_,_,rfl,TVb.nil _ _,?_,?_⟩
  ·with_reducible repeat first | exact R2 | apply RS.drew | apply RS.drewN | apply RS.alloc | (refine RS.setOther ?_ (by omega) _)
  ·with_reducible repeat first | exact G2 | apply gb_drew | apply gb_drew1 | apply gb_alloc | apply gb_setB | (refine gb_setNew ?_ (by omega) _)
 | true =>
 cases h3:isKindB (nextB s (k+1+1)) with
 | false =>
  have e:gdField ru s k=⟨false,k+1+1,zF⟩:=by unfold gdField; rw [if_neg (by rw [h1]; decide),if_neg (by rw [h2]; decide),if_pos h3]
  rw [e]; clear e
  go_enter Tryz.func143,Tryz.ntmps143
  go_wp2_with fail
  refine (letter_rs R0 (by omega) true h1).mono ?_
  rintro e w1 ⟨rfl,R1',g1⟩
  obtain ⟨lc1,lf1,ls1⟩:=Loc.of g1 (r:=w.heap.size) (by simp) (by omega)
  simp only [if_true] at R1' ⊢
  have R1:RS (w1.alloc (.cells #[.int .u8 (nextB s k),.int .i64 k] 145)) b s (k+1) u:=R1'.alloc _
  have G1:=gb_alloc (gb_trans G0 g1) (.cells #[.int .u8 (nextB s k),.int .i64 k] 145)
  clear R1' g1 R0 G0
  go_wp2_with fail
  refine (take_rs R1 (by omega) true h2).mono ?_
  rintro e w2 ⟨rfl,R2',g2⟩
  obtain ⟨lc2,lf2,ls2⟩:=Loc.of g2 (r:=w.heap.size) (by simp; omega) (by omega)
  obtain ⟨mc2,mf2,ms2⟩:=Loc.of g2 (r:=w1.heap.size) (by simp) (by omega)
  simp only [if_true] at R2' ⊢
  have R2:=R2'
  have G2:=gb_trans G1 g2
  clear R2' g2 R1 G1
  go_wp2_with fail
  refine (next_rs R2).mono ?_
  rintro e w' ⟨rfl,n,rfl⟩
  go_wp2_with fail
  refine (isKind_rs false h3).mono ?_
  rintro e w' ⟨rfl,rfl⟩
  go_wp2
  refine bodyPost_ret (v:=.tuple #[fieldV zF none 0 0,.bool false]) (by simp [results,Tryz.results143,go_sem,lc1,ls1,lc2,fieldV,zF]) rfl ⟨_,_,_,rfl,TVb.nil _ _,?_,?_⟩
  ·with_reducible repeat first | exact R2 | apply RS.drew | apply RS.drewN | apply RS.alloc | (refine RS.setOther ?_ (by omega) _)
  ·with_reducible repeat first | exact G2 | apply gb_drew | apply gb_drew1 | apply gb_alloc | apply gb_setB | (refine gb_setNew ?_ (by omega) _)
 | true =>
 have hk2:k+1+1 < s.size:=nextB_pos (isKindB_pos h3)
 obtain ⟨ok,at3,ts,sp,ex,hr⟩:∃ ok at3 ts sp ex,ru s (k+1+1+1)=⟨ok,at3,ts,sp,ex⟩:=⟨_,_,_,_,_,rfl⟩
 cases ok with
 | false =>
  have e:gdField ru s k=⟨false,at3,zF⟩:=by unfold gdField; rw [if_neg (by rw [h1]; decide),if_neg (by rw [h2]; decide),if_neg (by rw [h3]; decide),if_pos (by rw [hr]),hr]
  rw [e]; clear e
  go_enter Tryz.func143,Tryz.ntmps143
  go_wp2_with fail
  refine (letter_rs R0 (by omega) true h1).mono ?_
  rintro e w1 ⟨rfl,R1',g1⟩
  obtain ⟨lc1,lf1,ls1⟩:=Loc.of g1 (r:=w.heap.size) (by simp) (by omega)
  simp only [if_true] at R1' ⊢
  have R1:RS (w1.alloc (.cells #[.int .u8 (nextB s k),.int .i64 k] 145)) b s (k+1) u:=R1'.alloc _
  have G1:=gb_alloc (gb_trans G0 g1) (.cells #[.int .u8 (nextB s k),.int .i64 k] 145)
  clear R1' g1 R0 G0
  go_wp2_with fail
  refine (take_rs R1 (by omega) true h2).mono ?_
  rintro e w2 ⟨rfl,R2',g2⟩
  obtain ⟨lc2,lf2,ls2⟩:=Loc.of g2 (r:=w.heap.size) (by simp; omega) (by omega)
  obtain ⟨mc2,mf2,ms2⟩:=Loc.of g2 (r:=w1.heap.size) (by simp) (by omega)
  simp only [if_true] at R2' ⊢
  have R2:=R2'
  have G2:=gb_trans G1 g2
  clear R2' g2 R1 G1
  go_wp2_with fail
  refine (next_rs R2).mono ?_
  rintro e w' ⟨rfl,n,rfl⟩
  go_wp2_with fail
  refine (isKind_rs true h3).mono ?_
  rintro e w' ⟨rfl,rfl⟩
  obtain ⟨c0,c1,c2,_,f1,f3,le,lt⟩:=id R2
  have R3:RS ((w2.drewN n).setCell ⟨b,1,none⟩ (.int .i64 ((k:Int)+1+1+1))) b s (k+1+1+1) u:=by simpa using (R2.drewN n).inc hk2
  have G3:=gb_setB (gb_drew G2 n) 1 (.int .i64 ((k:Int)+1+1+1))
  have hz3:((w2.drewN n).setCell ⟨b,1,none⟩ (.int .i64 ((k:Int)+1+1+1))).heap.size=w2.heap.size:=by simp
  have C:=HRU s b (k+1+1+1) _ R3
  rw [hr] at C
  go_wp2_with fail
  refine C.mono ?_
  rintro e w4 ⟨a4,n4,c4,rfl,T4',R4,g4⟩
  obtain ⟨lc4,lf4,ls4⟩:=Loc.of g4 (r:=w.heap.size) (by rw [hz3]; omega) (by omega)
  obtain ⟨mc4,mf4,ms4⟩:=Loc.of g4 (r:=w1.heap.size) (by rw [hz3]; omega) (by omega)
  rw [hz3] at T4'
  have G4:=gb_trans G3 g4
  have T4:=T4'
  clear g4 C R3 G3 R2 G2 hr T4'
  simp only [] at R4 T4 ⊢
  go_wp2
  refine bodyPost_ret (v:=.tuple #[fieldV zF none 0 0,.bool false]) (by simp [results,Tryz.results143,go_sem,lc1,ls1,lc2,lc4,ls4,fieldV,zF]) rfl ⟨_,_,_,rfl,TVb.nil _ _,?_,?_⟩
  ·with_reducible repeat first | exact R4 | apply RS.drew | apply RS.drewN | apply RS.alloc | (refine RS.setOther ?_ (by omega) _)
  ·with_reducible repeat first | exact G4 | apply gb_drew | apply gb_drew1 | apply gb_alloc | apply gb_setB | (refine gb_setNew ?_ (by omega) _)
 | true =>
  have e:gdField ru s k=⟨true,at3,⟨nextB s k,k,nextB s (k+1+1),ts,sp,ex⟩⟩:=by unfold gdField; rw [if_neg (by rw [h1]; decide),if_neg (by rw [h2]; decide),if_neg (by rw [h3]; decide),if_neg (by rw [hr]; simp),hr]
  rw [e]; clear e
  go_enter Tryz.func143,Tryz.ntmps143
  go_wp2_with fail
  refine (letter_rs R0 (by omega) true h1).mono ?_
  rintro e w1 ⟨rfl,R1',g1⟩
  obtain ⟨lc1,lf1,ls1⟩:=Loc.of g1 (r:=w.heap.size) (by simp) (by omega)
  simp only [if_true] at R1' ⊢
  have R1:RS (w1.alloc (.cells #[.int .u8 (nextB s k),.int .i64 k] 145)) b s (k+1) u:=R1'.alloc _
  have G1:=gb_alloc (gb_trans G0 g1) (.cells #[.int .u8 (nextB s k),.int .i64 k] 145)
  clear R1' g1 R0 G0
  go_wp2_with fail
  refine (take_rs R1 (by omega) true h2).mono ?_
  rintro e w2 ⟨rfl,R2',g2⟩
  obtain ⟨lc2,lf2,ls2⟩:=Loc.of g2 (r:=w.heap.size) (by simp; omega) (by omega)
  obtain ⟨mc2,mf2,ms2⟩:=Loc.of g2 (r:=w1.heap.size) (by simp) (by omega)
  simp only [if_true] at R2' ⊢
  have R2:=R2'
  have G2:=gb_trans G1 g2
  clear R2' g2 R1 G1
  go_wp2_with fail
  refine (next_rs R2).mono ?_
  rintro e w' ⟨rfl,n,rfl⟩
  go_wp2_with fail
  refine (isKind_rs true h3).mono ?_
  rintro e w' ⟨rfl,rfl⟩
  obtain ⟨c0,c1,c2,_,f1,f3,le,lt⟩:=id R2
  have R3:RS ((w2.drewN n).setCell ⟨b,1,none⟩ (.int .i64 ((k:Int)+1+1+1))) b s (k+1+1+1) u:=by simpa using (R2.drewN n).inc hk2
  have G3:=gb_setB (gb_drew G2 n) 1 (.int .i64 ((k:Int)+1+1+1))
  have hz3:((w2.drewN n).setCell ⟨b,1,none⟩ (.int .i64 ((k:Int)+1+1+1))).heap.size=w2.heap.size:=by simp
  have C:=HRU s b (k+1+1+1) _ R3
  rw [hr] at C
  go_wp2_with fail
  refine C.mono ?_
  rintro e w4 ⟨a4,n4,c4,rfl,T4',R4,g4⟩
  obtain ⟨lc4,lf4,ls4⟩:=Loc.of g4 (r:=w.heap.size) (by rw [hz3]; omega) (by omega)
  obtain ⟨mc4,mf4,ms4⟩:=Loc.of g4 (r:=w1.heap.size) (by rw [hz3]; omega) (by omega)
  rw [hz3] at T4'
  have G4:=gb_trans G3 g4
  have T4:=T4'
  clear g4 C R3 G3 R2 G2 hr T4'
  simp only [] at R4 T4 ⊢
  go_wp2
  refine bodyPost_ret (v:=.tuple #[fieldV ⟨nextB s k,k,nextB s (k+1+1),ts,sp,ex⟩ a4 n4 c4,.bool true]) (by simp [results,Tryz.results143,go_sem,lc1,ls1,lc2,lc4,ls4,fieldV]) rfl ⟨_,_,_,rfl,?_,?_,?_⟩
  ·refine TVb.mono (base:=w2.heap.size) (ts:=ts) ?_ (by omega)
   with_reducible repeat first | exact T4 | apply TVb.alloc | (refine TVb.setOld ?_ (by omega))
  ·with_reducible repeat first | exact R4 | apply RS.drew | apply RS.drewN | apply RS.alloc | (refine RS.setOther ?_ (by omega) _)
  ·with_reducible repeat first | exact G4 | apply gb_drew | apply gb_drew1 | apply gb_alloc | apply gb_setB | (refine gb_setNew ?_ (by omega) _)
end Go.Proofs.YtbgilndohccicaaGreatDoor
namespace Go.Proofs.YtbgilndohccicaaGreatDoor
open Go.RowKit
structure RFd where
 l:Int
 p:Int
 k:Int
 t:SV
 sp:Int
 ex:Bool
def rfdV (r:RFd):List Value:=[.int .u8 r.l,.int .i64 r.p,.int .u8 r.k,.slice r.t.a r.t.n r.t.c,.int .i64 r.sp,.bool r.ex]
def flatGF (rs:List RFd):List Value:=rs.flatMap rfdV
structure FRel (w:World) (base:Nat) (r:RFd) (f:GFd):Prop where
 l:r.l=f.l
 p:r.p=f.p
 k:r.k=f.k
 sp:r.sp=f.sp
 ex:r.ex=f.ex
 ts:TVb w base (.slice r.t.a r.t.n r.t.c) f.ts
structure GFs (w:World) (base:Nat) (v:Value) (rs:List RFd) (fs:List GFd):Prop where
 row:w.ownsRow base 154 6 v rs.length (flatGF rs)
 len:rs.length=fs.length
 el:∀ (i:Nat) (r:RFd) (f:GFd),rs[i]?=some r→fs[i]?=some f→FRel w base r f
theorem GFs.nil (w:World) (base:Nat):GFs w base (.slice none 0 0) [] []:=⟨World.ownsRow_nil _ _ _ _,rfl,fun i r f h _=>by simp at h⟩
theorem FRel.kept {w w':World} {base b:Nat} {r:RFd} {f:GFd} (h:FRel w base r f) (g:w.grownBy w' (some b)) (hb:b < base):FRel w' base r f:=⟨h.l,h.p,h.k,h.sp,h.ex,h.ts.kept g hb⟩
theorem FRel.mono {w:World} {base base':Nat} {r:RFd} {f:GFd} (h:FRel w base r f) (hb:base'≤base):FRel w base' r f:=⟨h.l,h.p,h.k,h.sp,h.ex,h.ts.mono hb⟩
theorem GFs.kept {w w':World} {base b:Nat} {v:Value} {rs:List RFd} {fs:List GFd} (h:GFs w base v rs fs) (g:w.grownBy w' (some b)) (hb:b < base):GFs w' base v rs fs :=
 ⟨row_kept h.row g hb,h.len,fun i r f h1 h2=>(h.el i r f h1 h2).kept g hb⟩
theorem GFs.mono {w:World} {base base':Nat} {v:Value} {rs:List RFd} {fs:List GFd} (h:GFs w base v rs fs) (hb:base'≤base):GFs w base' v rs fs :=
 ⟨row_mono h.row hb,h.len,fun i r f h1 h2=>(h.el i r f h1 h2).mono hb⟩
theorem GFs.below {w w':World} {base:Nat} {v:Value} {rs:List RFd} {fs:List GFd} (h:GFs w base v rs fs) (hb:Below w.heap.size w w'):GFs w' base v rs fs :=
 ⟨World.ownsRow.kept h.row (gb_below hb none) (by cases hv:v.ownBlock <;> simp),h.len,fun i r f h1 h2 =>
  ⟨(h.el i r f h1 h2).l,(h.el i r f h1 h2).p,(h.el i r f h1 h2).k,(h.el i r f h1 h2).sp,(h.el i r f h1 h2).ex,World.ownsRow.kept (h.el i r f h1 h2).ts (gb_below hb none) (by cases hv:Value.ownBlock (.slice r.t.a r.t.n r.t.c) <;> simp)⟩⟩
theorem GFs.shape {w:World} {base:Nat} {v:Value} {rs:List RFd} {fs:List GFd} (h:GFs w base v rs fs):∃ a c,v=.slice a fs.length c:=by
 rw [← h.len]
 rcases h.row.2 with ⟨rfl,hn⟩ | ⟨g,cap,cur,rfl,_⟩
 ·exact ⟨none,0,by rw [hn]⟩
 ·exact ⟨_,_,rfl⟩
theorem cells_list (w:World) (o:Obj) (l:List Value) (T:TypeId):∀ (j:Nat) (u:Value),l[j]?=some u→((w.alloc o).alloc (.cells l.toArray T)).cell? ((⟨w.heap.size+1,0,none⟩:Addr).add j)=some u:=by
 intro j u hj
 have e:(⟨w.heap.size+1,0,none⟩:Addr).add j=⟨w.heap.size+1,j,none⟩:=by unfold Addr.add; split <;> simp_all
 have h:=World.cell?_alloc_mark (w.alloc o) l.toArray T (0,0) j
 have hz:(w.alloc o).heap.size=w.heap.size+1:=by simp
 rw [hz] at h
 rw [e,h]; simpa using hj
theorem GFs.app {w1 w2:World} {base:Nat} {v v':Value} {rs:List RFd} {fs:List GFd} {r:RFd} {f:GFd} {o1 o2:Obj} (V:GFs w1 base v rs fs) (F:FRel w1 base r f)
  (hown:w2.ownsRow base 154 6 v' (rs.length+1) (flatGF rs++rfdV r)) (hg:((w1.alloc o1).alloc o2).grownBy w2 v.ownBlock):GFs w2 base v' (rs++[r]) (fs++[f]):=by
 have hg1:w1.grownBy w2 v.ownBlock:=gb_trans (gb_trans (World.grownBy_alloc w1 o1 _) (World.grownBy_alloc _ o2 _)) hg
 have hk:∀ r f,FRel w1 base r f→FRel w2 base r f:=fun r f h=>⟨h.l,h.p,h.k,h.sp,h.ex,World.ownsRow.kept h.ts hg1 (row_apart h.ts V.row (by decide))⟩
 have hl:=V.len
 refine ⟨by simpa [flatGF] using hown,by simp [hl],fun i r' f' h1 h2=>?_⟩
 rcases Nat.lt_or_ge i rs.length with hi | hi
 ·rw [List.getElem?_append_left hi] at h1
  rw [List.getElem?_append_left (by omega)] at h2
  exact hk _ _ (V.el i r' f' h1 h2)
 ·rw [List.getElem?_append_right hi] at h1
  rw [List.getElem?_append_right (by omega)] at h2
  have hi0:i - rs.length=0:=by
   have:=(List.getElem?_eq_some_iff.1 h1).1; simp at this; omega
  have hj0:i - fs.length=0:=by omega
  rw [hi0] at h1; rw [hj0] at h2
  simp at h1 h2
  subst h1; subst h2
  exact hk _ _ F
theorem own_frame {w w1 w2:World} {b a:Nat} {s:ByteArray} {u:Bool} {base:Nat} {e:TypeId} {sz:Nat} {v:Value} {n:Nat} {xs:List Value} {o1 o2:Obj} (hb:b < base) (hbase:w.heap.size≤base) (R1:RS w1 b s a u) (V1:w1.ownsRow base e sz v n xs) (G1:w.grownBy w1 (some b))
  (hg:((w1.alloc o1).alloc o2).grownBy w2 v.ownBlock):RS w2 b s a u∧w.grownBy w2 (some b):=by
 have hr:∀ x,v.ownBlock=some x→base≤x:=fun x hx=>(World.ownsRow.lt V1 x hx).1
 have hg1:w1.grownBy w2 v.ownBlock:=gb_trans (gb_trans (World.grownBy_alloc w1 o1 _) (World.grownBy_alloc _ o2 _)) hg
 have hne:∀ k,k < base→some k≠v.ownBlock:=fun k hk e=>by have:=hr k e.symm; omega
 exact ⟨R1.kept hg1 (hne b hb),⟨hg1.os.trans G1.os,hg1.tape.trans G1.tape,hg1.output.trans G1.output,Nat.le_trans G1.size hg1.size,fun k hk hn=>(hg1.block k (Nat.lt_of_lt_of_le hk G1.size) (hne k (by omega))).trans (G1.block k hk hn)⟩⟩
theorem Tryz.infoGField:(Tryz.prog.info? 154).map (fun i=>(i.zero,i.size,i.bytes))=some (some (.agg #[.int .u8 0,.int .i64 0,.int .u8 0,.slice none 0 0,.int .i64 0,.bool false]),6,64):=by kernel_rfl
theorem infoParts2 {P:Program} {e:TypeId} {z:Option Value} {s b:Nat} (h:(P.info? e).map (fun i=>(i.zero,i.size,i.bytes))=some (z,s,b)):∃ i,P.info? e=some i∧i.zero=z∧i.size=s∧i.bytes=b:=by
 cases hi:P.info? e with
 | none=>rw [hi] at h; simp at h
 | some i=>rw [hi] at h; simp at h; exact ⟨i,rfl,h.1,h.2.1,h.2.2⟩
structure GSR where
 ok:Bool
 at_:Nat
 fs:List GFd
def gdLoop (ru:ByteArray→Nat→RuleR) (s:ByteArray):Nat→List GFd→Nat→GSR
 | 0,_,k=>⟨false,k,[]⟩
 | n+1,fs,k =>
  if (gdField ru s k).ok=false then ⟨false,(gdField ru s k).at_,[]⟩
  else if nextB s (gdField ru s k).at_=125 then ⟨true,(gdField ru s k).at_+1,fs++[(gdField ru s k).f]⟩
  else if fs.length=5∨nextB s (gdField ru s k).at_≠44 then ⟨false,(gdField ru s k).at_,[]⟩
  else gdLoop ru s n (fs++[(gdField ru s k).f]) ((gdField ru s k).at_+1)
def gdFields (ru:ByteArray→Nat→RuleR) (s:ByteArray) (k:Nat):GSR:=if nextB s k=125 then ⟨true,k+1,[]⟩ else gdLoop ru s 6 [] k
def FieldsPost (R:GSR) (w:World) (b:Nat) (s:ByteArray) (u:Bool) (e:Ending) (w':World):Prop:=∃ (a:Option Addr) (n c:Nat) (rs:List RFd),
 e=.returned (.tuple #[.slice a n c,.bool R.ok])∧GFs w' w.heap.size (.slice a n c) rs R.fs∧RS w' b s R.at_ u∧w.grownBy w' (some b)
set_option maxHeartbeats 1000000 in
set_option maxRecDepth 20000 in
theorem gfields_any {u:Bool} {ru:ByteArray→Nat→RuleR} (HRU:RuleC u ru) (s:ByteArray) (b k:Nat) (w:World) (h:RS w b s k u) :
  Calls Tryz.prog 134 #[.pointer (some ⟨b,0,none⟩)] w (FieldsPost (gdFields ru s k) w b s u):=by
 obtain ⟨i0,hi,hz0,hz1,hz2⟩:=infoParts2 Tryz.infoGField
 have hb:=h.blt
 by_cases h0:nextB s k=125
 ·have e:gdFields ru s k=⟨true,k+1,[]⟩:=by unfold gdFields; rw [if_pos h0]
  rw [e]; clear e
  have hb1:(nextB s k==125)=true:=by simpa using h0
  go_enter Tryz.func134,Tryz.ntmps134
  go_wp2_with fail
  refine (take_rs h (by omega) true hb1).mono ?_
  rintro e w1 ⟨rfl,R1,hg1⟩
  go_wp2
  go_ret2
  exact ⟨_,_,_,[],rfl,GFs.nil _ _,R1,hg1⟩
 ·have e:gdFields ru s k=gdLoop ru s 6 [] k:=by unfold gdFields; rw [if_neg h0]
  rw [e]; clear e
  have hb1:(nextB s k==125)=false:=by simpa using h0
  obtain ⟨R,hR⟩:∃ R,R=gdLoop ru s 6 [] k:=⟨_,rfl⟩
  rw [← hR]
  have HR:Hid (R=gdLoop ru s 6 [] k):=hR
  clear hR h0
  go_enter Tryz.func134,Tryz.ntmps134
  go_wp2_with fail
  refine (take_rs h (by omega) false hb1).mono ?_
  rintro e w1 ⟨rfl,R1',hg1⟩
  simp only [Bool.false_eq_true,if_false] at R1'
  have R1:RS w1 b s k u:=R1'
  clear R1'
  go_wp2
  go_loopg [4] 6 (fun gk v wr=>∃ fs rs k,gk=6 - fs.length∧fs.length < 6∧R=gdLoop ru s gk fs k∧RS wr b s k u∧GFs wr w.heap.size v rs fs∧w.grownBy wr (some b))
  case atStart=>exact ⟨[],[],k,rfl,by decide,HR.out,R1,GFs.nil _ _,hg1⟩
  case round =>
   obtain ⟨fs,rs,k,hgk,hlen,hR',R0,V0,G0⟩:=hrel
   have Fc:=gfield_any HRU s b k wr R0
   obtain ⟨ok,a,f,hr⟩:∃ ok a f,gdField ru s k=⟨ok,a,f⟩:=⟨_,_,_,rfl⟩
   obtain ⟨n',rfl⟩:∃ n',gk=n'+1:=⟨gk - 1,by omega⟩
   rw [gdLoop,hr] at hR'
   rw [hr] at Fc
   simp only [] at hR' Fc
   obtain ⟨ad,cp,rfl⟩:=V0.shape
   have hs0:=G0.size
   clear hr
   have HK:Hid (n'+1=6 - fs.length):=hgk
   clear hgk R1 hb1 HR
   cases ok with
   | false =>
    rw [if_pos rfl] at hR'
    subst hR'
    go_wp2_with fail
    refine Fc.mono ?_
    rintro e w1 ⟨a1,n1,c1,rfl,T1,R1,g1⟩
    simp only [fieldV] at R1 T1 ⊢
    have G1:=gb_trans G0 g1
    clear Fc
    go_wp2
    go_ret2
    exact ⟨_,_,_,[],rfl,GFs.nil _ _,R1.alloc _,gb_alloc G1 _⟩
   | true =>
    rw [if_neg (by decide)] at hR'
    have HR:Hid (R=_):=hR'
    clear hR'
    go_wp2_with fail
    refine Fc.mono ?_
    rintro e w1 ⟨a1,n1,c1,rfl,T1',R1,g1⟩
    simp only [fieldV] at R1 T1' ⊢
    have T1:=T1'.mono hs0
    have V1:=V0.kept g1 hb
    have G1:=gb_trans G0 g1
    have hs1:=G1.size
    have hvl:rs.length=fs.length:=V1.len
    clear Fc V0 T1' g1
    have F1:FRel w1 w.heap.size ⟨f.l,f.p,f.k,⟨a1,n1,c1⟩,f.sp,f.ex⟩ f:=⟨rfl,rfl,rfl,rfl,rfl,T1⟩
    have V1r:=V1.row
    rw [hvl] at V1r
    have HVL:Hid (rs.length=fs.length):=hvl
    clear hvl
    go_wp2_with (at_builtin; refine wpList_append_own _ rfl _ _ 146 rfl w.heap.size 154 i0 _ 6 64 Tryz.underlying146 hi hz0 hz1 hz2 rfl (by decide) _ fs.length (flatGF rs) rfl ((V1r.alloc _).alloc _) ⟨w1.heap.size+1,0,none⟩ 1 1 (rfdV ⟨f.l,f.p,f.k,⟨a1,n1,c1⟩,f.sp,f.ex⟩) rfl rfl ?c1 ?c2 ?c3 ?c4 ?c5 ?_)
    case c1=>exact cells_list _ _ _ _
    case c2=>intro y hy; simp [rfdV] at hy; rcases hy with rfl | rfl | rfl | rfl | rfl | rfl <;> rfl
    case c3=>unfold maxLen; omega
    case c4=>omega
    case c5=>simp; omega
    intro v' w2 hown hgr _
    rw [← HVL.out] at hown
    have V2:=V1.app F1 hown hgr
    obtain ⟨R2,G2⟩:=own_frame hb (Nat.le_refl _) R1 V1r G1 hgr
    obtain ⟨ad',cp',hv'⟩:=V2.shape
    have hl1:(fs++[f]).length=fs.length+1:=by simp
    rw [hl1] at hv'
    subst hv'
    clear hown hgr V1 V1r R1 F1 T1 hl1 HVL
    by_cases h125:nextB s a=125
    ·have HR2:=HR.out
     rw [if_pos h125] at HR2
     subst HR2
     have hb1:(nextB s a==125)=true:=by simpa using h125
     clear h125
     go_wp2_with fail
     refine (take_rs R2 (by omega) true hb1).mono ?_
     rintro e w3 ⟨rfl,R3,g3⟩
     have V3:=V2.kept g3 hb
     have G3:=gb_trans G2 g3
     simp only [if_true] at R3
     clear V2 g3 G2 R2
     go_wp2
     go_ret2
     exact ⟨_,_,_,_,rfl,V3,R3,G3⟩
    have hb1:(nextB s a==125)=false:=by simpa using h125
    have HR2:=HR.out
    rw [if_neg h125] at HR2
    clear h125 HR
    by_cases h5:fs.length=5
    ·rw [if_pos (.inl h5)] at HR2
     subst HR2
     go_wp2_with fail
     refine (take_rs R2 (by omega) false hb1).mono ?_
     rintro e w3 ⟨rfl,R3,g3⟩
     have G3:=gb_trans G2 g3
     simp only [Bool.false_eq_true,if_false] at R3
     have h5':5≤fs.length:=by omega
     clear V2 g3 G2 R2 h5
     go_wp2
     go_ret2
     exact ⟨_,_,_,[],rfl,GFs.nil _ _,R3,G3⟩
    have h6:fs.length < 5:=by omega
    by_cases h44:nextB s a=44
    ·rw [if_neg (by simp [h5,h44])] at HR2
     have hlt:a < s.size:=nextB_pos (by omega)
     have HR:Hid (R=_):=HR2
     clear HR2
     go_wp2_with fail
     refine (take_rs R2 (by omega) false hb1).mono ?_
     rintro e w3 ⟨rfl,R3',g3⟩
     simp only [Bool.false_eq_true,if_false] at R3'
     have R3:RS w3 b s a u:=R3'
     have V3:=V2.kept g3 hb
     have G3:=gb_trans G2 g3
     clear V2 g3 G2 R2 R3'
     go_wp2_with fail
     refine (next_rs R3).mono ?_
     rintro e w' ⟨rfl,n2,rfl⟩
     obtain ⟨c0,c1,c2,_,f1,f3,le,lt⟩:=id R3
     have R4:=(R3.drewN n2).inc hlt
     have G4:=gb_setB (gb_drew G3 n2) 1 (.int .i64 ((a:Int)+1))
     have V4:=(V3.kept (gb_drewN w3 n2 (some b)) hb).kept (gb_set (w3.drewN n2) b 1 (.int .i64 ((a:Int)+1))) hb
     clear R3 G3 V3
     go_wp2
     go_roundg n'
     case measure=>omega
     case rel =>
      have hk:=HK.out
      exact ⟨fs++[f],_,a+1,by simp; omega,by simp; omega,HR.out,R4,V4,G4⟩
    ·rw [if_pos (.inr h44)] at HR2
     subst HR2
     have h44':(nextB s a==44)=false:=by simpa using h44
     have h44'':(nextB s a != 44)=true:=by simpa using h44
     go_wp2_with fail
     refine (take_rs R2 (by omega) false hb1).mono ?_
     rintro e w3 ⟨rfl,R3',g3⟩
     simp only [Bool.false_eq_true,if_false] at R3'
     have R3:RS w3 b s a u:=R3'
     have G3:=gb_trans G2 g3
     clear V2 g3 G2 R2 R3'
     go_wp2_with fail
     refine (next_rs R3).mono ?_
     rintro e w' ⟨rfl,n2,rfl⟩
     go_wp2
     go_ret2
     exact ⟨_,_,_,[],rfl,GFs.nil _ _,R3.drewN n2,gb_drew G3 n2⟩
end Go.Proofs.YtbgilndohccicaaGreatDoor
