import Derived.Test.YtbgilndohccicaaGreatDoorBz48
import Derived.Test.YtbgilndohccicaaGreatDoorRows
import Derived.Test.YtbgilndohccicaaGreatDoorTie
import Derived.Test.YtbgilndohccicaaGreatDoorCards
import Derived.ProofKit
import Derived.LaidMore
import Derived.OpenShut
import Derived.ShutString
import Derived.ChangeOld
import Derived.Below
import Derived.Stop.Joined
import Derived.SevenTiedAt
namespace Go.Proofs.YtbgilndohccicaaGreatDoor
open Go.RowKit
def firstS:ByteArray:=⟨#[80,123,120,58,119,44,110,58,114,125,81,123,98,58,98,44,104,58,104,44,108,58,108,125]⟩
set_option maxRecDepth 100000 in
theorem first_ok:newE firstS 20=0:=by kernel_rfl
structure Sc (w:World) (a:Option Addr) (len:Nat) (O:Nat→OpV):Prop where
 row:0 < len→∃ g o,a=some ⟨g,o,none⟩∧g < w.heap.size∧∀ i,i < len →
  w.cell? ⟨g,o+i * 8,none⟩=some (.int .i64 (O i).k)∧w.cell? ⟨g,o+i * 8+1,none⟩=some (.int .i64 (O i).m)∧w.cell? ⟨g,o+i * 8+2,none⟩=some (.int .i64 (O i).a)∧w.cell? ⟨g,o+i * 8+3,none⟩=some (.int .i64 (O i).b) ∧
  w.cell? ⟨g,o+i * 8+4,none⟩=some (.int .u8 (O i).c)∧w.cell? ⟨g,o+i * 8+5,none⟩=some (.int .i64 (O i).v)∧w.cell? ⟨g,o+i * 8+6,none⟩=some (.string (O i).s)∧w.cell? ⟨g,o+i * 8+7,none⟩=some (.string (O i).t)
 ok:∀ i,i < len→(O i).ok
set_option maxRecDepth 20000 in
set_option maxHeartbeats 2000000 in
theorem plays_any (a:Option Addr) (len cap:Nat) (O:Nat→OpV) (lo hi most:Int) (w:World) (hS:Sc w a len O) (hlen:len≤1759218604441) (hE:Ends w) (hmo:most≤19) :
  Calls Tryz.prog 7 #[.slice a len cap,.int .i64 lo,.int .i64 hi,.int .i64 most] w fun e w'=>e=.returned (.bool true)∧Below w.heap.size w w':=by
 have HS:Hid (Sc w a len O):=hS
 have HE:Hid (Ends w):=hE
 have BA:Below w.heap.size w (w.alloc (.cells #[.slice none 0 0] 28)):=(Below.refl _ _).alloc (Nat.le_refl _) _
 have hW:WS w.heap.size (w.alloc (.cells #[.slice none 0 0] 28)) w.heap.size (.slice none 0 0) [] 0 :=
  ⟨by go_simp,by go_simp,World.ownsRow_nil _ _ _ _,fun i q h=>by simp at h,fun i q h=>by simp at h,fun i j q q' _ h=>by simp at h,Nat.le_refl _,by simp [Value.ownBlock]⟩
 have C:=begin_any w.heap.size w.heap.size _ [] 0 firstS 20 _ hW (by show 24≤_; omega) (hE.below BA) hE.1 (by simp)
 have HBA:Hid (Below w.heap.size w (w.alloc (.cells #[.slice none 0 0] 28))):=BA
 clear hS hE hW BA
 go_enter Tryz.func7,Tryz.ntmps7
 go_wp2_with fail
 refine C.mono ?_
 rintro e w1 ⟨rfl,B1,v,ps,W1,_,_,hl1⟩
 have hps:ps.length=1:=hl1 first_ok
 have HW1:Hid (WS w.heap.size w1 w.heap.size v ps 0):=W1
 have HB1:Hid (Below w.heap.size w w1):=HBA.out.trans B1.1
 have cw:=W1.c
 obtain ⟨va,vc,hv⟩:∃ a c,v=.slice a ps.length c:=by
  rcases W1.own.2 with ⟨e,hn⟩ | ⟨g,cap,cur,e,_⟩
  ·omega
  ·exact ⟨_,_,e⟩
 rw [hv,hps] at cw
 have hwl:=W1.lt
 clear C B1 W1 hl1
 go_wp2
 go_loopw [11] (fun iv wr=>∃ (i:Nat) (v:Value) (ps:List PQ),i≤len∧iv=.int .i64 i∧Hid (WS w.heap.size wr w.heap.size v ps i∧0 < ps.length∧ps.length≤i+1)∧Below w.heap.size w wr) (fun iv _=>len - (intOf iv).toNat)
 case atStart=>exact ⟨0,v,ps,by omega,rfl,⟨HW1.out,by omega,by omega⟩,HB1.out⟩
 case round =>
  clear HW1 HB1 hv hps cw
  obtain ⟨i,v,ps,hi,rfl,HW,hb⟩:=hrel
  by_cases hlt:i < len
  ·obtain ⟨g,so,ea,hg,hcell⟩:=HS.out.row (by omega)
   obtain ⟨q0,q1,q2,q3,q4,q5,q6,q7⟩:=hcell i hlt
   have ok:=HS.out.ok i hlt
   obtain ⟨o,ho⟩:∃ o,o=O i:=⟨_,rfl⟩
   rw [← ho] at q0 q1 q2 q3 q4 q5 q6 q7 ok
   have HOK:Hid (o.ok):=ok
   have z0:=(hb.cell (p:=⟨g,so+i * 8,none⟩) (by exact hg)).trans q0
   have z1:=(hb.cell (p:=⟨g,so+i * 8+1,none⟩) (by exact hg)).trans q1
   have z2:=(hb.cell (p:=⟨g,so+i * 8+2,none⟩) (by exact hg)).trans q2
   have z3:=(hb.cell (p:=⟨g,so+i * 8+3,none⟩) (by exact hg)).trans q3
   have z4:=(hb.cell (p:=⟨g,so+i * 8+4,none⟩) (by exact hg)).trans q4
   have z5:=(hb.cell (p:=⟨g,so+i * 8+5,none⟩) (by exact hg)).trans q5
   have z6:=(hb.cell (p:=⟨g,so+i * 8+6,none⟩) (by exact hg)).trans q6
   have z7:=(hb.cell (p:=⟨g,so+i * 8+7,none⟩) (by exact hg)).trans q7
   have hib:(0:Int)≤(i:Int)∧(i:Int) < (len:Int):=by omega
   have hszr:=hb.size
   have HBR:Hid (Below w.heap.size w wr):=hb
   have HEA:Hid (a=some ⟨g,so,none⟩):=ea
   rw [ea]
   clear q0 q1 q2 q3 q4 q5 q6 q7 hcell ok ho ea hb
   obtain ⟨okk,om,oa,ob,oc,ov,os,ot⟩:=o
   simp only [] at z0 z1 z2 z3 z4 z5 z6 z7
   rename World=>wo
   by_cases hm:most < okk
   ·have HW2:Hid (WS w.heap.size (wo.alloc (.cells #[.int .i64 okk,.int .i64 om,.int .i64 oa,.int .i64 ob,.int .u8 oc,.int .i64 ov,.string os,.string ot] 31)) w.heap.size v ps (i+1)∧0 < ps.length∧ps.length≤i+1+1):=⟨HW.out.1.below ((Below.refl _ _).alloc (Nat.le_refl _) _) (by omega),HW.out.2.1,by have:=HW.out.2.2; omega⟩
    have HB2:Hid (Below w.heap.size w (wo.alloc (.cells #[.int .i64 okk,.int .i64 om,.int .i64 oa,.int .i64 ob,.int .u8 oc,.int .i64 ov,.string os,.string ot] 31))):=HBR.out.alloc hszr _
    go_wp2
    exact ⟨⟨i+1,v,ps,by omega,by go_num,HW2,HB2.out⟩,by simp [intOf]; omega⟩
   ·have BB:Below wo.heap.size wo (wo.alloc (.cells #[.int .i64 okk,.int .i64 om,.int .i64 oa,.int .i64 ob,.int .u8 oc,.int .i64 ov,.string os,.string ot] 31)):=(Below.refl _ _).alloc (Nat.le_refl _) _
    have hWS:=HW.out.1.below BB (Nat.le_refl _)
    have SC:=step_any w.heap.size w.heap.size v ps i ⟨okk,om,oa,ob,oc,ov,os,ot⟩ _ hWS HOK.out (by simp only []; omega) ((HE.out.below HBR.out).below BB) HE.out.1 (by have:=HW.out.2.2; omega) (by omega) HW.out.2.1
    have hno:¬ wsS w.heap.size v ps wo.heap.size:=fun hh=>by have:=HW.out.1.s_lt hh; omega
    have HB3:Hid (Below w.heap.size w (wo.alloc (.cells #[.int .i64 okk,.int .i64 om,.int .i64 oa,.int .i64 ob,.int .u8 oc,.int .i64 ov,.string os,.string ot] 31))):=HBR.out.alloc hszr _
    unfold StPost at SC
    simp only [OpV.val] at SC
    clear BB hWS
    go_wp2_with fail
    refine SC.mono ?_
    rintro e w2 ⟨rfl,⟨B2,G2⟩,v',ps',W2,l1,l2⟩
    have eb:w2.heap[wo.heap.size]?=(wo.alloc (.cells #[.int .i64 okk,.int .i64 om,.int .i64 oa,.int .i64 ob,.int .u8 oc,.int .i64 ov,.string os,.string ot] 31)).heap[wo.heap.size]?:=G2.block _ (by simp) hno
    have k0:w2.cell? ⟨wo.heap.size,0,none⟩=some (.int .i64 okk):=(World.cell?_of_block (a:=⟨wo.heap.size,0,none⟩) eb).trans (by go_simp)
    have hs2:wo.heap.size < w2.heap.size:=by have:=G2.size; simp at this; omega
    have HW2:Hid (WS w.heap.size w2 w.heap.size v' ps' (i+1)∧0 < ps'.length∧ps'.length≤i+1+1):=⟨W2,by have:=HW.out.2.1; omega,by have:=HW.out.2.2; omega⟩
    have HB2:Hid (Below w.heap.size w w2):=HB3.out.trans B2
    clear SC B2 G2 W2 eb
    by_cases e1:okk=1
    ·subst e1
     go_wp2
     exact ⟨⟨i+1,v',ps',by omega,by go_num,HW2,HB2.out⟩,by simp [intOf]; omega⟩
    ·have e1':(okk==1)=false:=by simpa using e1
     by_cases e2:lo≤okk
     ·have e2':decide (lo≤okk)=true:=decide_eq_true e2
      go_wp2
      exact ⟨⟨i+1,v',ps',by omega,by go_num,HW2,HB2.out⟩,by simp [intOf]; omega⟩
     ·have e2':decide (lo≤okk)=false:=decide_eq_false e2
      go_wp2
      exact ⟨⟨i+1,v',ps',by omega,by go_num,HW2,HB2.out⟩,by simp [intOf]; omega⟩
  ·have hge:len≤i:=by omega
   clear hlt
   go_wp2
   go_ret
   exact ⟨rfl,hb⟩
end Go.Proofs.YtbgilndohccicaaGreatDoor
namespace Go.Proofs.YtbgilndohccicaaGreatDoor
open Go.ChangeShapes Go.WideShapes Go.ChangeAt Go.WideMaps Go.WideElems Go.RowKit
theorem own:ownKnob Tryz.prog.godebug=none:=by kernel_rfl
theorem laidOut:laidOutB Tryz.prog=true:=by kernel_rfl
theorem gEnds : Tryz.prog.globalNamed "remake/remakeref.ends" = some 0 := by kernel_rfl
theorem tEnds:(Tryz.prog.globals[0]?).map (·.type)=some 188:=by kernel_rfl
theorem cOp:Tryz.prog.cellsOf 31=8:=by kernel_rfl
theorem cInt:Tryz.prog.cellsOf 3=1:=by kernel_rfl
theorem cU8:Tryz.prog.cellsOf 5=1:=by kernel_rfl
theorem cI64:Tryz.prog.cellsOf 2=1:=by kernel_rfl
theorem cStr:Tryz.prog.cellsOf 9=1:=by kernel_rfl
theorem bOp:Tryz.prog.bytesOf 31=80:=by kernel_rfl
theorem door_met (os : Os) (args : Array Value) : laidMetH Tryz.prog [("remake/remakeref.ends", Rows.laid_remake_remakeref_ends)] ((World.doorLaid Tryz.prog 400 os).forCall (fun _ _ => 0) ⟨#[], args, []⟩).memory :=
 laidMetH_of_parts3 (fuel:=8) (laidMet_of_run' 8 (by kernel_rfl) (by kernel_rfl)) (by kernel_rfl) (by kernel_rfl)
set_option maxRecDepth 20000 in
theorem of_laid {W : World} (h : laidMetH Tryz.prog [("remake/remakeref.ends", Rows.laid_remake_remakeref_ends)] W) : Ends W := by
 rw [MakeChecks.laidMetH_plain _ _ _ (by kernel_rfl)] at h
 obtain ⟨ps,⟨g0,t0,cs0,f0,p0,q0,hg0,ht0,hv0,hd0,_,_⟩,_,_⟩:=h
 obtain rfl:=Option.some.inj (gEnds.symm.trans hg0)
 obtain rfl:=Option.some.inj (tEnds.symm.trans ht0)
 obtain ⟨xs,m1,rfl,hx1,hlen,hn3,hel⟩:=DataW.trod_array Tryz.underlying188 hd0
 simp only [Prod.mk.injEq,Rows.laid_remake_remakeref_ends,DataW.agg.injEq] at hx1
 have hmap:=hx1.1
 have hcell:∀ k,k < 7→W.cell? ⟨0,k,none⟩=some (.string (E k)):=by
  intro k hk
  have hk':=hel k hk
  rw [cStr,List.getElem?_eq_getElem (by omega)] at hk'
  obtain ⟨s,e1,e2,_⟩:=DataW.trod_string Tryz.underlying9 hk'
  have hv:=World.var?_cell hg0 hv0 k
  have hc:cs0[k]?=some (.string s):=by
   rw [Nat.mul_one] at e1
   have:(cs0.toList.drop k)[0]?=some (.string s):=by
    have h0:((cs0.toList.drop k).take 1)[0]?=some (.string s):=by rw [e1]; rfl
    simpa using h0
   simpa using this
  rw [hv,hc]
  have hm:(xs.map (·.1))[k]?=some (.lit (.string s.data.toList)):=by
   rw [List.getElem?_map,List.getElem?_eq_getElem (by omega),e2]; rfl
  rw [← hmap] at hm
  have he:s.data.toList=(E k).data.toList:=by
   match k,hk with
   | 0,_ | 1,_ | 2,_ | 3,_ | 4,_ | 5,_ | 6,_=>simp at hm; simp [E,← hm]
  have:s=E k:=by
   cases s; cases hE:E k
   rw [hE] at he
   simp only at he
   congr
   exact Array.toList_inj.1 he
  rw [this]
 exact ⟨World.block_lt_of_cell? W ⟨0,0,none⟩ (hcell 0 (by omega)),hcell⟩
theorem take_at {cs:List Value} {k:Nat} {v:Value} (h:(cs.drop k).take 1=[v]):cs[k]?=some v:=by
 have h0:((cs.drop k).take 1)[0]?=some v:=by rw [h]; rfl
 simpa using h0
section
variable {H : Type} {enc : TypeId × Value → H}
set_option maxRecDepth 20000 in
theorem open_op {W:World} {cs:List Value} {x:DataW H×List MemPlace} {fuel:Nat} (h:DataW.trod enc Tryz.prog W 0 (fun _=>true) true fuel 31 cs=some x) :
  ∃ o:OpV,o.ok∧cs[0]?=some (.int .i64 o.k)∧cs[1]?=some (.int .i64 o.m)∧cs[2]?=some (.int .i64 o.a)∧cs[3]?=some (.int .i64 o.b)∧cs[4]?=some (.int .u8 o.c)∧cs[5]?=some (.int .i64 o.v)∧cs[6]?=some (.string o.s)∧cs[7]?=some (.string o.t):=by
 obtain ⟨xs,n,rfl,hx,hl,hn,hf⟩:=DataW.trod_struct Tryz.underlying31 h
 have hn8:xs.length=8:=hn
 have g:∀ i,i < 8→xs[i]?=some (xs[i]?.getD (.nil,[])):=fun i hi=>by rw [List.getElem?_eq_getElem (by omega)]; rfl
 obtain ⟨n0,e0,_,b0⟩:=DataW.trod_int Tryz.underlying3 ((hf 0 _ rfl).trans (g 0 (by omega)))
 obtain ⟨n1,e1,_,b1⟩:=DataW.trod_int Tryz.underlying3 ((hf 1 _ rfl).trans (g 1 (by omega)))
 obtain ⟨n2,e2,_,b2⟩:=DataW.trod_int Tryz.underlying3 ((hf 2 _ rfl).trans (g 2 (by omega)))
 obtain ⟨n3,e3,_,b3⟩:=DataW.trod_int Tryz.underlying3 ((hf 3 _ rfl).trans (g 3 (by omega)))
 obtain ⟨n4,e4,_,b4⟩:=DataW.trod_int Tryz.underlying5 ((hf 4 _ rfl).trans (g 4 (by omega)))
 obtain ⟨n5,e5,_,b5⟩:=DataW.trod_int Tryz.underlying2 ((hf 5 _ rfl).trans (g 5 (by omega)))
 obtain ⟨s6,e6,_,b6⟩:=DataW.trod_string Tryz.underlying9 ((hf 6 _ rfl).trans (g 6 (by omega)))
 obtain ⟨s7,e7,_,b7⟩:=DataW.trod_string Tryz.underlying9 ((hf 7 _ rfl).trans (g 7 (by omega)))
 have f0:(cs.drop 0).take (Tryz.prog.cellsOf 3)=[.int .i64 n0]:=e0
 have f1:(cs.drop 1).take (Tryz.prog.cellsOf 3)=[.int .i64 n1]:=e1
 have f2:(cs.drop 2).take (Tryz.prog.cellsOf 3)=[.int .i64 n2]:=e2
 have f3:(cs.drop 3).take (Tryz.prog.cellsOf 3)=[.int .i64 n3]:=e3
 have f4:(cs.drop 4).take (Tryz.prog.cellsOf 5)=[.int .u8 n4]:=e4
 have f5:(cs.drop 5).take (Tryz.prog.cellsOf 2)=[.int .i64 n5]:=e5
 have f6:(cs.drop 6).take (Tryz.prog.cellsOf 9)=[.string s6]:=e6
 have f7:(cs.drop 7).take (Tryz.prog.cellsOf 9)=[.string s7]:=e7
 rw [cInt] at f0 f1 f2 f3
 rw [cU8] at f4
 rw [cI64] at f5
 rw [cStr] at f6 f7
 unfold maxLen at b6 b7
 exact ⟨⟨n0,n1,n2,n3,n4,n5,s6,s7⟩,⟨(bounds_i64 b5).1,(bounds_i64 b5).2,b6,b7,(bounds_i64 b1).1,(bounds_i64 b1).2⟩,take_at f0,take_at f1,take_at f2,take_at f3,take_at f4,take_at f5,take_at f6,take_at f7⟩
theorem open_ops {W:World} {c0:Value} {d:DataW H} {p:List MemPlace} {fuel:Nat} (h:DataW.trod enc Tryz.prog W 0 (fun _=>true) true fuel 22 [c0]=some (d,p)) :
  ∃ a len cap O,c0=.slice a len cap∧Sc W a len O∧((len=0)∨∃ el sp,d=.slice el sp∧el.length=len):=by
 rcases DataW.trod_slice Tryz.underlying22 h with ⟨hc,_⟩ | ⟨a,len,cap,el,rest,n,rfl,hc,hx,_,hl,hm,hel,hall,_,_⟩
 ·simp only [List.cons.injEq,and_true] at hc
  exact ⟨none,0,0,fun _=>⟨0,0,0,0,0,0,⟨#[]⟩,⟨#[]⟩⟩,hc,⟨fun h=>by omega,fun i h=>by omega⟩,.inl rfl⟩
 ·simp only [List.cons.injEq,and_true] at hc
  have hex:∀ i,∃ o:OpV,i < len→o.ok∧W.cell? (a.add (i * 8))=some (.int .i64 o.k)∧W.cell? ((a.add (i * 8)).add 1)=some (.int .i64 o.m)∧W.cell? ((a.add (i * 8)).add 2)=some (.int .i64 o.a)∧W.cell? ((a.add (i * 8)).add 3)=some (.int .i64 o.b)∧W.cell? ((a.add (i * 8)).add 4)=some (.int .u8 o.c)∧W.cell? ((a.add (i * 8)).add 5)=some (.int .i64 o.v)∧W.cell? ((a.add (i * 8)).add 6)=some (.string o.s)∧W.cell? ((a.add (i * 8)).add 7)=some (.string o.t):=by
   intro i
   by_cases hi:i < len
   ·have:=hall i hi
    rw [List.getElem?_eq_getElem (by omega),cOp] at this
    obtain ⟨cs,hcs,ht⟩:=Option.bind_eq_some_iff.1 this
    obtain ⟨o,ok,q0,q1,q2,q3,q4,q5,q6,q7⟩:=open_op ht
    obtain ⟨_,_,hcell⟩:=World.cells?_some hcs
    have h0:=(hcell 0 (by omega)).trans q0
    have e0:((a.add (i * 8)).add 0)=a.add (i * 8):=by simp [Addr.add]
    rw [e0] at h0
    exact ⟨o,fun _=>⟨ok,h0,(hcell 1 (by omega)).trans q1,(hcell 2 (by omega)).trans q2,(hcell 3 (by omega)).trans q3,(hcell 4 (by omega)).trans q4,(hcell 5 (by omega)).trans q5,(hcell 6 (by omega)).trans q6,(hcell 7 (by omega)).trans q7⟩⟩
   ·exact ⟨⟨0,0,0,0,0,0,⟨#[]⟩,⟨#[]⟩⟩,fun h=>absurd h hi⟩
  obtain ⟨O,hO⟩:=Classical.axiomOfChoice hex
  refine ⟨some a,len,cap,O,hc,⟨fun h0=>?_,fun i hi=>(hO i hi).1⟩,.inr ⟨_,_,(Prod.mk.inj hx).1,by simpa using hel⟩⟩
  obtain ⟨g,so,spot⟩:=a
  have hspot:spot=none:=by
   have:=(hO 0 h0).2.1
   simpa [Addr.add] using World.cell?_spot this
  subst hspot
  have ea:∀ j k,((⟨g,so,none⟩:Addr).add j).add k=⟨g,so+j+k,none⟩:=fun j k=>by rw [Addr.add_lit,Addr.add_lit]
  have ea0:∀ j,((⟨g,so,none⟩:Addr).add j)=⟨g,so+j,none⟩:=fun j=>by rw [Addr.add_lit]
  refine ⟨g,so,rfl,?_,fun i hi=>?_⟩
  ·have:=(hO 0 h0).2.1
   rw [ea0] at this
   exact World.block_lt_of_cell? W _ this
  ·obtain ⟨_,q0,q1,q2,q3,q4,q5,q6,q7⟩:=hO i hi
   rw [ea0] at q0
   rw [ea] at q1 q2 q3 q4 q5 q6 q7
   exact ⟨q0,q1,q2,q3,q4,q5,q6,q7⟩
end
theorem Sc.below {w w':World} {a:Option Addr} {len:Nat} {O:Nat→OpV} (h:Sc w a len O) (hb:Below w.heap.size w w'):Sc w' a len O:=by
 refine ⟨fun h0=>?_,h.ok⟩
 obtain ⟨g,so,ea,hg,hc⟩:=h.row h0
 refine ⟨g,so,ea,Nat.lt_of_lt_of_le hg hb.size,fun i hi=>?_⟩
 obtain ⟨q0,q1,q2,q3,q4,q5,q6,q7⟩:=hc i hi
 exact ⟨(hb.cell (by exact hg)).trans q0,(hb.cell (by exact hg)).trans q1,(hb.cell (by exact hg)).trans q2,(hb.cell (by exact hg)).trans q3,(hb.cell (by exact hg)).trans q4,(hb.cell (by exact hg)).trans q5,(hb.cell (by exact hg)).trans q6,(hb.cell (by exact hg)).trans q7⟩
set_option maxHeartbeats 400000 in
theorem begins_walk (a:Option Addr) (len cap:Nat) (O:Nat→OpV) (w:World) (hS:Sc w a len O) (hlen:len≤1759218604441) (hE:Ends w) :
  Calls Tryz.prog 6 #[.slice a len cap] w fun e w'=>e=.returned (.bool true)∧Below w.heap.size w w':=by
 have C:=plays_any a len cap O 16 19 19 w hS hlen hE (by omega)
 have HS:Hid (Sc w a len O∧Ends w):=⟨hS,hE⟩
 clear hS hE
 go_enter Tryz.func6,Tryz.ntmps6
 go_wp2_with fail
 refine C.mono ?_
 rintro e w1 ⟨rfl,B1⟩
 have C2:=plays_any a len cap O 2 11 19 w1 (HS.out.1.below B1) hlen (HS.out.2.below B1) (by omega)
 have HB1:Hid (Below w.heap.size w w1):=B1
 clear C B1
 go_wp2_with fail
 refine C2.mono ?_
 rintro e w2 ⟨rfl,B2⟩
 have HB2:Hid (Below w.heap.size w w2):=HB1.out.trans (B2.mono HB1.out.size)
 clear C2 B2
 go_wp2
 go_ret
 exact ⟨rfl,HB2.out⟩
end Go.Proofs.YtbgilndohccicaaGreatDoor
