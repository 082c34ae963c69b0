import Derived.Test.YtbgilndohccicaaGreatDoorBz46
import Derived.Lib.AppendStr
import Derived.Laws.IdiomStrings
import Derived.OwnWalk
import Derived.Below
import Derived.ArgAppend
namespace Go.Proofs.YtbgilndohccicaaGreatDoor
open Go.RowKit
theorem Tryz.infoByte:(Tryz.prog.info? 5).map (fun i=>(i.zero,i.size,i.bytes))=some (some (.int .u8 0),1,1):=by kernel_rfl
theorem infoParts {P:Program} {e:TypeId} {z:Option Value} {s b:Nat} (h:(P.info? e).map (fun i=>(i.zero,i.size,i.bytes))=some (z,s,b)):∃ i,P.info? e=some i∧i.zero=z∧i.size=s∧i.bytes=b:=by
 cases hi:P.info? e with
 | none=>rw [hi] at h; simp at h
 | some i=>rw [hi] at h; simp at h; exact ⟨i,rfl,h.1,h.2.1,h.2.2⟩
def cellsB (l:List Int):List Value:=l.map (Value.int .u8)
theorem cellsB_len (l:List Int):(cellsB l).length=l.length:=by simp [cellsB]
theorem cellsB_app (a b:List Int):cellsB (a++b)=cellsB a++cellsB b:=by simp [cellsB]
theorem strCells_bytes (s:ByteArray):Lib.strCells s=cellsB (bytesOf s):=by simp [Lib.strCells,cellsB,bytesOf,Function.comp_def]
def BV (w:World) (base:Nat) (v:Value) (l:List Int):Prop:=w.ownsRow base 5 1 v l.length (cellsB l)
theorem BV.cells {w:World} {base:Nat} {v:Value} {l:List Int} (h:BV w base v l) (hl:l≠[]):∃ g cap,v=.slice (some ⟨g,0,none⟩) l.length cap∧base≤g∧g < w.heap.size∧∀ i,i < l.length→w.cell? ⟨g,i,none⟩=some (.int .u8 (l[i]?.getD 0)):=by
 rcases h.2 with ⟨rfl,hn⟩ | ⟨g,cap,cur,rfl,hb,hg,_⟩
 ·exact absurd (List.length_eq_zero_iff.1 hn) hl
 ·refine ⟨g,cap,rfl,hb,(Array.getElem?_eq_some_iff.1 hg).1,fun i hi=>?_⟩
  have c:=World.ownsRow.cells h (g:=g) rfl i (.int .u8 (l[i]?.getD 0)) (by simp [cellsB,List.getElem?_eq_getElem hi])
  have e:∀ j,(⟨g,0,none⟩:Addr).add j=⟨g,j,none⟩:=fun j=>by unfold Addr.add; split <;> simp_all
  rw [e] at c; exact c
theorem BV.shape {w:World} {base:Nat} {v:Value} {l:List Int} (h:BV w base v l):∃ a c,v=.slice a l.length c:=by
 rcases h.2 with ⟨rfl,hn⟩ | ⟨g,cap,cur,rfl,_⟩
 ·exact ⟨none,0,by rw [hn]⟩
 ·exact ⟨_,_,rfl⟩
theorem BV.alloc {w:World} {base:Nat} {v:Value} {l:List Int} (h:BV w base v l) (o:Obj):BV (w.alloc o) base v l:=World.ownsRow.alloc h o
theorem BV.grown {w0 w w':World} {B base:Nat} {v:Value} {l:List Int} (h:BV w base v l) (hB:Below B w0 w) (g:w.grownBy w' v.ownBlock) (hb:B≤base) (hs:B≤w.heap.size):Below B w0 w' :=
 hB.grown g hs fun k hk=>Nat.le_trans hb (World.ownsRow.lt h k hk).1
theorem one_cell (w:World) (x:Int):∀ (j:Nat) (u:Value),[Value.int .u8 x][j]?=some u→(w.alloc (.cells #[.int .u8 x] 5)).cell? ((⟨w.heap.size,0,none⟩:Addr).add j)=some u:=by
 intro j u hj
 match j,hj with
 | 0,hj=>simp at hj; subst hj; simp [Addr.add]
theorem one_one (x:Int):∀ u∈[Value.int .u8 x],u.oneCell'=true:=by intro u hu; simp at hu; subst hu; rfl
set_option maxHeartbeats 400000 in
set_option maxRecDepth 20000 in
theorem digits_small (n:Nat) (w:World) (h:n < 128) :
  Calls Tryz.prog 112 #[.int .i64 n] w fun e w'=>∃ v,e=.returned v∧BV w' w.heap.size v (vint n)∧Below w.heap.size w w':=by
 obtain ⟨i0,hi,hz0,hz1,hz2⟩:=infoParts Tryz.infoByte
 have V0:BV w w.heap.size (.slice none 0 0) []:=World.ownsRow_nil _ _ _ _
 have hv:vint n=[(n:Int)]:=by simp [vint,h]
 rw [hv]
 go_enter Tryz.func112,Tryz.ntmps112
 go_wp2
 refine wp_loop_rounds 1 ?_; rw [rounds_succ]
 go_wp2_with (at_builtin; refine wpList_append_own _ rfl _ _ 161 rfl w.heap.size 5 i0 (.int .u8 0) 1 1 Tryz.underlying161 hi hz0 hz1 hz2 rfl (by decide) _ _ _ rfl (V0.alloc _) ⟨w.heap.size,0,none⟩ 1 1 [.int .u8 n] rfl rfl (one_cell _ _) (one_one _) (by unfold maxLen; decide) (by decide) (by simp) ?_)
 intro v' w2 hown hgr _
 have V2:BV w2 w.heap.size v' [(n:Int)]:=hown
 have B2:=(V0.alloc (.cells #[.int .u8 n] 5)).grown (B:=w.heap.size) ((Below.refl _ w).alloc (Nat.le_refl _) _) hgr (Nat.le_refl _) (by simp)
 obtain ⟨a,c,rfl⟩:=V2.shape
 go_wp2
 go_ret
 exact ⟨_,rfl,V2,B2⟩
set_option maxHeartbeats 400000 in
set_option maxRecDepth 20000 in
theorem digits_great (n:Nat) (w:World) (h:128≤n) (h2:n≤200) :
  Calls Tryz.prog 112 #[.int .i64 n] w fun e w'=>∃ v,e=.returned v∧BV w' w.heap.size v (vint n)∧Below w.heap.size w w':=by
 obtain ⟨i0,hi,hz0,hz1,hz2⟩:=infoParts Tryz.infoByte
 have V0:BV w w.heap.size (.slice none 0 0) []:=World.ownsRow_nil _ _ _ _
 have hv:vint n=[((n % 128+128:Nat):Int),((n / 128:Nat):Int)]:=by simp [vint]; omega
 rw [hv]; clear hv
 have e1:(n:Int).tmod 128=(n:Int) - 128:=by rw [Int.tmod_eq_emod_of_nonneg (by omega)]; omega
 have e2:(n:Int) / 128=1:=by omega
 have e3:((n % 128+128:Nat):Int)=(n:Int):=by omega
 have e4:((n / 128:Nat):Int)=1:=by omega
 rw [e3,e4]; clear e3 e4
 go_enter Tryz.func112,Tryz.ntmps112
 go_wp2
 refine wp_loop_rounds 2 ?_; rw [rounds_succ]
 go_wp2_with (at_builtin; refine wpList_append_own _ rfl _ _ 161 rfl w.heap.size 5 i0 (.int .u8 0) 1 1 Tryz.underlying161 hi hz0 hz1 hz2 rfl (by decide) _ _ _ rfl (V0.alloc _) ⟨w.heap.size,0,none⟩ 1 1 [.int .u8 n] rfl rfl (one_cell _ _) (one_one _) (by unfold maxLen; decide) (by decide) (by simp) ?_)
 intro v' w2 hown hgr _
 have V2:BV w2 w.heap.size v' [(n:Int)]:=hown
 have B2:=(V0.alloc (.cells #[.int .u8 n] 5)).grown (B:=w.heap.size) ((Below.refl _ w).alloc (Nat.le_refl _) _) hgr (Nat.le_refl _) (by simp)
 obtain ⟨a,c,rfl⟩:=V2.shape
 clear hown hgr V0
 have V2:BV w2 w.heap.size (.slice a 1 c) [(n:Int)]:=V2
 have hs2:=B2.size
 go_wp2
 rw [rounds_succ]
 go_wp2_with (at_builtin; refine wpList_append_own _ rfl _ _ 161 rfl w.heap.size 5 i0 (.int .u8 0) 1 1 Tryz.underlying161 hi hz0 hz1 hz2 rfl (by decide) _ _ _ rfl (V2.alloc _) ⟨w2.heap.size,0,none⟩ 1 1 [.int .u8 1] rfl rfl (one_cell _ _) (one_one _) (by simp [maxLen]) (by simp) (by simp; omega) ?_)
 intro v' w3 hown hgr _
 have V3:BV w3 w.heap.size v' [(n:Int),1]:=hown
 have B3:=(V2.alloc (.cells #[.int .u8 1] 5)).grown (B:=w.heap.size) (B2.alloc hs2 _) hgr (Nat.le_refl _) (by simp; omega)
 obtain ⟨a',c',rfl⟩:=V3.shape
 go_wp2
 go_ret
 exact ⟨_,rfl,V3,B3⟩
theorem digits_any (n:Nat) (w:World) (h2:n≤200) :
  Calls Tryz.prog 112 #[.int .i64 n] w fun e w'=>∃ v,e=.returned v∧BV w' w.heap.size v (vint n)∧Below w.heap.size w w':=by
 by_cases h:n < 128
 ·exact digits_small n w h
 ·exact digits_great n w (by omega) h2
theorem isB_vint (n:Nat) (h:n≤200):isB (vint n):=by
 intro x hx; unfold vint at hx; split at hx <;> simp at hx <;> omega
theorem isB_bytes (s:ByteArray):isB (bytesOf s):=by
 intro x hx; simp only [bytesOf,List.mem_map] at hx; obtain ⟨b,_,rfl⟩:=hx
 have:=b.toNat_lt; omega
theorem isB_app {a b:List Int} (ha:isB a) (hb:isB b):isB (a++b):=by
 intro x hx; rcases List.mem_append.1 hx with h | h
 ·exact ha x h
 ·exact hb x h
theorem isB_head (l:List Int) (h:l.length≤200) (hl:isB l):isB (headL l) :=
 isB_app (isB_app (by intro x hx; simp at hx; omega) (isB_vint _ h)) hl
theorem isB_tail (c:BitVec 32):isB (tail4 c.toNat):=by
 intro x hx; have:=c.isLt; simp [tail4] at hx; omega
theorem isB_pack (l:List Int) (h:l.length≤200) (hl:isB l):isB (packL l):=isB_app (isB_head l h hl) (isB_tail _)
set_option maxHeartbeats 400000 in
theorem pack_long (s:ByteArray) (w:World) (h:200 < s.size) (hm:s.size≤9223372036854775807) :
  Calls Tryz.prog 93 #[.string s] w fun e w'=>e=.returned (.tuple #[.string ByteArray.empty,.int .i64 1])∧w'=w:=by
 go_enter Tryz.func93,Tryz.ntmps93
 go_wp2
 go_ret2
 exact ⟨rfl,rfl⟩
theorem cellsB_one (l:List Int):∀ u∈cellsB l,u.oneCell'=true:=by
 intro u hu; simp [cellsB] at hu; obtain ⟨x,_,rfl⟩:=hu; rfl
theorem cellsB_at {w:World} {g:Nat} {l:List Int} (hc:∀ i,i < l.length→w.cell? ⟨g,i,none⟩=some (.int .u8 (l[i]?.getD 0))):∀ (j:Nat) (u:Value),(cellsB l)[j]?=some u→w.cell? ((⟨g,0,none⟩:Addr).add j)=some u:=by
 intro j u hj
 have e:(⟨g,0,none⟩:Addr).add j=⟨g,j,none⟩:=by unfold Addr.add; split <;> simp_all
 have hl:j < l.length:=by
  have:=(List.getElem?_eq_some_iff.1 hj).1; rwa [cellsB_len] at this
 rw [e,hc j hl,← hj]; simp [cellsB,List.getElem?_eq_getElem hl]
theorem conv_same (w:World):∃ W,(convert 161 161 (.slice (some ⟨w.heap.size,0,none⟩) 2 2)).run Tryz.prog (w.alloc (.cells #[.int .u8 82,.int .u8 77] 5))=.ok (.slice (some ⟨w.heap.size,0,none⟩) 2 2) W ∧
  Below w.heap.size w W∧W.heap.size=w.heap.size+1∧W.cell? ⟨w.heap.size,0,none⟩=some (.int .u8 82)∧W.cell? ⟨w.heap.size,1,none⟩=some (.int .u8 77):=by
 have hsh:(w.alloc (.cells #[.int .u8 82,.int .u8 77] 5)).shape? w.heap.size=some (5,2):=by
  simp [World.shape?,World.alloc,-World.alloc_eq]
 have hblk:((w.alloc (.cells #[.int .u8 82,.int .u8 77] 5)).freeze ⟨w.heap.size,2,none⟩ 1).heap[w.heap.size]?=some (.cells #[.int .u8 82,.int .u8 77] 5 (2,3)):=by
  simp [World.freeze,World.alloc,-World.alloc_eq]
  rw [Array.getElem_modify_self]
  simp
 refine ⟨(w.alloc (.cells #[.int .u8 82,.int .u8 77] 5)).freeze ⟨w.heap.size,2,none⟩ 1,?_,⟨rfl,rfl,rfl,?_,?_⟩,?_,?_,?_⟩
 ·simp [convert,run_underlying Tryz.underlying161,run_underlying Tryz.underlying5,markStringish,hsh,Result.andThen]
 ·simp [World.freeze,World.alloc,-World.alloc_eq]
 ·intro k hk
  have h1:w.heap.size≠k:=by omega
  simp [World.freeze,World.alloc,-World.alloc_eq,Array.getElem?_modify,Array.getElem?_push,h1,Ne.symm h1]
 ·simp [World.freeze,World.alloc,-World.alloc_eq]
 ·simp only [World.cell?,hblk]; rfl
 ·simp only [World.cell?,hblk]; rfl
def strOf (l:List Int):ByteArray:=⟨(l.map (fun x=>UInt8.ofNat x.toNat)).toArray⟩
theorem bytesOf_str (l:List Int) (h:isB l):bytesOf (strOf l)=l:=by
 simp only [bytesOf,strOf,List.map_map]
 conv=>rhs; rw [← List.map_id l]
 apply List.map_congr_left
 intro x hx
 have:=h x hx
 simp; omega
theorem foldl_push (l:List Int):∀ r:ByteArray,l.foldl (fun r n=>r.push (UInt8.ofNat n.toNat)) r=⟨r.data++(l.map (fun x=>UInt8.ofNat x.toNat)).toArray⟩:=by
 induction l with
 | nil=>intro r; simp
 | cons x l ih=>intro r; rw [List.foldl_cons,ih]; simp [ByteArray.push]
theorem conv_back {w:World} {base:Nat} {v:Value} {l:List Int} (h:BV w base v l) (hl:l≠[]):(convert 161 9 v).run Tryz.prog w=.ok (.string (strOf l)) w:=by
 obtain ⟨g,cap,rfl,_,_,hc⟩:=h.cells hl
 rw [run_convert_bytes_string _ 161 9 5 _ _ _ Tryz.underlying161 Tryz.underlying5 Tryz.underlying9]
 have hl:=run_loadCells_list (P:=Tryz.prog) w ⟨g,0,none⟩ (cellsB l) (cellsB_at hc)
 rw [cellsB_len] at hl
 rw [run_bytesToString w ⟨g,0,none⟩ l.length cap l hl,foldl_push]
 simp [strOf]
structure TailAt (l3:List Int) (c k q:Nat) (l:List Int):Prop where
 q:q=c / 256 ^ k
 l:l=l3++(tail4 c).take k
theorem TailAt.step {l3:List Int} {c k q:Nat} {l:List Int} (h:TailAt l3 c k q l) (hk:k < 4) (hc:c < 2 ^ 32):TailAt l3 c (k+1) (q / 256) (l++[(q:Int) % 256]):=by
 obtain ⟨hq,hl⟩:=h
 subst hq hl
 refine ⟨by rw [Nat.div_div_eq_div_mul,Nat.pow_succ],?_⟩
 rw [List.append_assoc]
 congr 1
 match k,hk with
 | 0,_=>simp [tail4]
 | 1,_=>simp [tail4]
 | 2,_=>simp [tail4]
 | 3,_=>simp [tail4]; omega
theorem vint_ne (n:Nat):vint n≠[]:=by unfold vint; split <;> simp
set_option maxHeartbeats 400000 in
set_option maxRecDepth 20000 in
theorem pack_short (s:ByteArray) (w:World) (h:s.size≤200) :
  Calls Tryz.prog 93 #[.string s] w fun e w'=>(∃ r,e=.returned (.tuple #[.string r,.int .i64 0])∧bytesOf r=packL (bytesOf s))∧Below w.heap.size w w':=by
 obtain ⟨i0,hi,hz0,hz1,hz2⟩:=infoParts Tryz.infoByte
 have hlen:=vint_len s.size
 have hv2:(vint s.size).length≤2:=by rw [hlen]; split <;> omega
 have hv1:1≤(vint s.size).length:=by rw [hlen]; split <;> omega
 clear hlen
 obtain ⟨W,hcv,B0,hW,c0,c1⟩:=conv_same w
 go_enter Tryz.func93,Tryz.ntmps93
 go_wp2_with fail
 refine (digits_any s.size _ h).mono ?_
 rintro e w1 ⟨v1,rfl,D1,hb1⟩
 have k0:w1.cell? ⟨w.heap.size,0,none⟩=some (.int .u8 82):=(hb1.cell (by show w.heap.size < _; omega)).trans c0
 have k1:w1.cell? ⟨w.heap.size,1,none⟩=some (.int .u8 77):=(hb1.cell (by show w.heap.size < _; omega)).trans c1
 have B1:=B0.trans (hb1.mono (by omega))
 have hs1:=B1.size
 obtain ⟨g,cp,rfl,hbg,hgs,hc⟩:=D1.cells (vint_ne _)
 clear B0 hb1 c0 c1 hcv
 go_wp2_with (at_builtin; refine wpList_append_grows _ rfl _ _ 161 rfl 5 i0 (.int .u8 0) 1 1 Tryz.underlying161 hi hz0 hz1 hz2 rfl (by decide) (some ⟨w.heap.size,0,none⟩) 2 2 (cellsB [82,77]) rfl (by simp) rfl ?c0 ⟨g,0,none⟩ (vint s.size).length cp (cellsB (vint s.size)) rfl (by rw [cellsB_len,Nat.mul_one]) (cellsB_at hc) (cellsB_one _) (by omega) (by unfold maxLen; omega) (by omega) ?_)
 case c0 =>
  intro b hb j u hj
  cases hb
  match j,hj with
  | 0,hj=>simp [cellsB] at hj; subst hj; simpa [Addr.add] using k0
  | 1,hj=>simp [cellsB] at hj; subst hj; simpa [Addr.add] using k1
 intro v2 w2 hown hgr
 have V2:BV w2 w1.heap.size v2 (([82,77]:List Int)++vint s.size):=by
  unfold BV; rw [cellsB_app,List.length_append]; exact hown
 have B2:Below w.heap.size w w2:=B1.grown hgr hs1 (by simp)
 have hs2:=B2.size
 have hl2:(([82,77]:List Int)++vint s.size).length≤4:=by simp; omega
 have hs12:=hgr.size
 obtain ⟨a2,cp2,hv⟩:=V2.shape
 clear hown hgr B1 k0 k1 hc D1 hbg hgs hW
 obtain ⟨l2,hl2e⟩:∃ l2,l2=([82,77]:List Int)++vint s.size:=⟨_,rfl⟩
 rw [← hl2e] at V2 hl2 hv
 subst hv
 have HL:Hid (l2=([82,77]:List Int)++vint s.size):=hl2e
 clear hl2e
 go_wp2_with (at_builtin; refine Lib.wpList_append_own_string _ rfl _ _ 161 9 rfl w1.heap.size 5 i0 Tryz.underlying161 Tryz.underlying9 hi hz0 hz1 hz2 _ _ _ rfl V2 s rfl (by unfold maxLen; omega) (by omega) hs12 ?_)
 intro v3 w3 hown hgr _
 have V3:BV w3 w1.heap.size v3 (headL (bytesOf s)):=by
  unfold BV; rw [headL,cellsB_app,List.length_append,← strCells_bytes,bytesOf_len,← HL.out]; exact hown
 have B3:Below w.heap.size w w3:=V2.grown B2 hgr hs1 hs2
 have hs3:w1.heap.size≤w3.heap.size:=Nat.le_trans hs12 hgr.size
 have hne:headL (bytesOf s)≠[]:=by simp [headL]
 have hl3:(headL (bytesOf s)).length≤204:=by rw [headL_len,bytesOf_len]; split <;> omega
 have hB:=isB_head (bytesOf s) (by rw [bytesOf_len]; exact h) (isB_bytes s)
 obtain ⟨g3,cp3,rfl,hbg,hgs,hc⟩:=V3.cells hne
 clear hown hgr V2 B2 hs2 hs12
 obtain ⟨l3,hl3e⟩:∃ l3,l3=headL (bytesOf s):=⟨_,rfl⟩
 have hpk:packL (bytesOf s)=l3++tail4 (crcL l3).toNat:=by rw [hl3e]; rfl
 rw [← hl3e] at V3 hl3 hB hc hne ⊢
 have HP:Hid (packL (bytesOf s)=l3++tail4 (crcL l3).toNat):=hpk
 clear hl3e hpk HL
 go_wp2_with fail
 refine (crcp_any g3 cp3 l3 w3 hB (by omega) hc).mono ?_
 rintro e w' ⟨rfl,rfl⟩
 have hcl:=(crcL l3).isLt
 obtain ⟨c,hcc⟩:∃ c,c=(crcL l3).toNat:=⟨_,rfl⟩
 rw [← hcc] at HP hcl ⊢
 clear hcc hc hbg hgs hB
 go_wp2
 go_loopw [4,6,7] (fun v sm i wr=>∃ (k q:Nat) (l:List Int),k≤4∧i=.int .i64 k∧sm=.int .u32 q∧q < 4294967296∧l.length≤l3.length+k∧Hid (TailAt l3 c k q l)∧BV wr w1.heap.size v l∧Below w.heap.size w wr∧w1.heap.size≤wr.heap.size) (fun _ _ i _=>4 - (intOf i).toNat)
 case atStart=>exact ⟨0,c,l3,Nat.zero_le _,rfl,rfl,hcl,Nat.le_refl _,⟨by simp,by simp⟩,V3,B3,hs3⟩
 case round =>
  obtain ⟨k,q,l,hk,rfl,rfl,hq,hl,HT,V,B,hs⟩:=hrel
  obtain ⟨a,cp,rfl⟩:=V.shape
  by_cases hlt:k < 4
  ·have hl':l.length≤208:=by omega
   go_wp2_with (at_builtin; refine wpList_append_own _ rfl _ _ 161 rfl w1.heap.size 5 i0 (.int .u8 0) 1 1 Tryz.underlying161 hi hz0 hz1 hz2 rfl (by decide) _ _ _ rfl (V.alloc _) ⟨wr.heap.size,0,none⟩ 1 1 [.int .u8 ((q:Int) % 256)] rfl rfl (one_cell _ _) (one_one _) (by unfold maxLen; omega) (by omega) (by simp; omega) ?_)
   intro v4 w4 hown hgr _
   have V4:BV w4 w1.heap.size v4 (l++[(q:Int) % 256]):=by
    unfold BV; rw [cellsB_app,List.length_append]; exact hown
   have hs4:w1.heap.size≤w4.heap.size:=Nat.le_trans hs (Nat.le_trans (by simp) hgr.size)
   have B4:=(V.alloc (.cells #[.int .u8 ((q:Int) % 256)] 5)).grown (B.alloc (Nat.le_trans hs1 hs) _) hgr hs1 (by simp; omega)
   have hqq:Hid ((q:Int) / 256=((q / 256:Nat):Int)):=by show (q:Int) / 256=_; simp
   have hT:TailAt l3 c (k+1) (q / 256) (l++[(q:Int) % 256]):=HT.out.step hlt hcl
   have hl4:(l++[(q:Int) % 256]).length≤l3.length+(k+1):=by simp; omega
   clear V HT hown hgr
   go_wp2
   exact ⟨⟨k+1,q / 256,_,by omega,rfl,by rw [← hqq.out],by omega,hl4,hT,V4,B4,hs4⟩,by simp [intOf]; omega⟩
  ·obtain rfl:k=4:=by omega
   have hln:l≠[]:=by rw [HT.out.l]; simp [hne]
   have hcv:=conv_back V hln
   have hlp:l=packL (bytesOf s):=by rw [HP.out,HT.out.l]; rfl
   have hbl:isB l:=by rw [hlp]; exact isB_pack _ (by rw [bytesOf_len]; exact h) (isB_bytes s)
   have HF:Hid (l=packL (bytesOf s)∧isB l):=⟨hlp,hbl⟩
   clear hlp hbl
   go_wp2
   go_ret2
   exact ⟨⟨_,rfl,by rw [bytesOf_str _ HF.out.2,HF.out.1]⟩,B⟩
def PackPost (s:ByteArray) (w:World) (e:Ending) (w':World):Prop :=
 (∃ r,e=.returned (.tuple #[.string r,.int .i64 (if 200 < s.size then 1 else 0)])∧bytesOf r=if 200 < s.size then [] else packL (bytesOf s))∧Below w.heap.size w w'
theorem ppack_any (s:ByteArray) (w:World) (hm:s.size≤9223372036854775807):Calls Tryz.prog 93 #[.string s] w (PackPost s w):=by
 by_cases h:200 < s.size
 ·refine (pack_long s w h hm).mono ?_
  rintro e w' ⟨rfl,rfl⟩
  exact ⟨⟨_,by rw [if_pos h],by rw [if_pos h]; rfl⟩,Below.refl _ _⟩
 ·refine (pack_short s w (by omega)).mono ?_
  rintro e w' ⟨⟨r,rfl,hr⟩,hb⟩
  exact ⟨⟨r,by rw [if_neg h],by rw [if_neg h,hr]⟩,hb⟩
end Go.Proofs.YtbgilndohccicaaGreatDoor
namespace Go.Proofs.YtbgilndohccicaaGreatDoor
open Go.RowKit
theorem conv_row (w:World) (l:List Int) (hm:l.length≤4096) (hl:l≠[]):(convert 161 9 (.slice (some ⟨w.heap.size,0,none⟩) l.length l.length)).run Tryz.prog (w.alloc (.cells (cellsB l).toArray 5))=.ok (.string (strOf l)) (w.alloc (.cells (cellsB l).toArray 5)):=by
 refine conv_back (base:=0) ⟨by rw [cellsB_len,Nat.mul_one],.inr ⟨w.heap.size,l.length,_,rfl,Nat.zero_le _,heap_alloc_new w _,Nat.le_refl _,by unfold maxLen; omega,by simp [cellsB_len],?_⟩⟩ hl
 rw [Nat.mul_one,← cellsB_len l]; simp
theorem bytes_eq {a b:ByteArray} (h:bytesOf a=bytesOf b):a=b:=by
 have e:∀ l m:List UInt8,l.map (fun b=>(b.toNat:Int))=m.map (fun b=>(b.toNat:Int))→l=m:=by
  intro l
  induction l with
  | nil=>intro m hm; cases m with
   | nil=>rfl
   | cons y m=>simp at hm
  | cons x l ih=>intro m hm; cases m with
   | nil=>simp at hm
   | cons y m =>
    simp only [List.map_cons,List.cons.injEq] at hm
    have:x.toNat=y.toNat:=by omega
    rw [ih m hm.2,UInt8.toNat_inj.1 this]
 have:=e _ _ h
 cases a; cases b; simp at this; simp [this]
theorem strOf_size (l:List Int):(strOf l).size=l.length:=by simp [strOf,ByteArray.size]
theorem packPost_short {s r:ByteArray} {w w':World} (h:¬ 200 < s.size) (hr:bytesOf r=packL (bytesOf s)) (hb:Below w.heap.size w w'):PackPost s w (.returned (.tuple #[.string r,.int .i64 0])) w' :=
 ⟨⟨r,by rw [if_neg h],by rw [if_neg h,hr]⟩,hb⟩
theorem packPost_long {s:ByteArray} {w w':World} (h:200 < s.size) (hb:Below w.heap.size w w'):PackPost s w (.returned (.tuple #[.string ⟨#[]⟩,.int .i64 1])) w' :=
 ⟨⟨_,by rw [if_pos h],by rw [if_pos h]; rfl⟩,hb⟩
end Go.Proofs.YtbgilndohccicaaGreatDoor
namespace Go.Proofs.YtbgilndohccicaaGreatDoor
open Go.RowKit
theorem bytesOf_extract (s:ByteArray) (a b:Nat):bytesOf (s.extract a b)=((bytesOf s).drop a).take (b - a):=by
 simp only [bytesOf,ByteArray.data_extract,Array.toList_extract,List.extract_eq_take_drop,List.map_take,List.map_drop]
theorem unp_false_short {c:ByteArray} {f:Nat} (h:c.size < f+4):unpF (bytesOf c) f=false:=by
 simp only [unpF,bytesOf_len]; rw [decide_eq_false (by omega)]; rfl
theorem unp_false_long {c:ByteArray} {f:Nat} (h:f+4≤c.size) (h2:200 < c.size - 4 - f):unpF (bytesOf c) f=false:=by
 simp only [unpF,bytesOf_len,List.length_take,List.length_drop]
 rw [decide_eq_false (p:=min _ _≤200) (by omega)]; simp
theorem unp_eq {c r:ByteArray} {f:Nat} (h:f+4≤c.size) (h2:¬ 200 < c.size - 4 - f) (hr:bytesOf r=packL (bytesOf (c.extract f (c.size - 4)))):unpF (bytesOf c) f=(r.toList==c.toList):=by
 simp only [unpF,bytesOf_len,List.length_take,List.length_drop]
 rw [decide_eq_true h,decide_eq_true (p:=min _ _≤200) (by omega),← bytesOf_extract,← hr]
 simp only [Bool.true_and]
 by_cases e:r=c
 ·subst e; simp
 ·have:bytesOf r≠bytesOf c:=fun h=>e (bytes_eq h)
  have h2:r.toList≠c.toList:=fun h=>this (by
   rw [ByteArray.toList_eq,ByteArray.toList_eq] at h
   simp only [bytesOf,h])
  rw [beq_eq_false_iff_ne.2 this,beq_eq_false_iff_ne.2 h2]
def UnpPost (c:ByteArray) (w:World) (e:Ending) (w':World):Prop :=
 (∃ (r:ByteArray) (x:Int),e=.returned (.tuple #[.string r,.int .i64 x])∧((∃ l,unpackL (bytesOf c)=some l∧bytesOf r=l∧x=0)∨(unpackL (bytesOf c)=none∧bytesOf r=[]∧x=16)))∧Below w.heap.size w w'
theorem unpPost_none {c:ByteArray} {w w':World} (h3:unpF (bytesOf c) 3=false) (h4:unpF (bytesOf c) 4=false) (hb:Below w.heap.size w w'):UnpPost c w (.returned (.tuple #[.string ⟨#[]⟩,.int .i64 16])) w' :=
 ⟨⟨_,_,rfl,.inr ⟨by rw [unpackL,if_neg (by rw [h3]; decide),if_neg (by rw [h4]; decide)],rfl,rfl⟩⟩,hb⟩
theorem unpPost_some {c:ByteArray} {w w':World} {f:Nat} (hf:f=3∨(f=4∧unpF (bytesOf c) 3=false)) (h:unpF (bytesOf c) f=true) (hb:Below w.heap.size w w'):UnpPost c w (.returned (.tuple #[.string (c.extract f (c.size - 4)),.int .i64 0])) w':=by
 refine ⟨⟨_,_,rfl,.inl ⟨_,?_,rfl,rfl⟩⟩,hb⟩
 rw [bytesOf_extract]
 rcases hf with rfl | ⟨rfl,h3⟩
 ·rw [unpackL,if_pos h,bytesOf_len]
 ·rw [unpackL,if_neg (by rw [h3]; decide),if_pos h,bytesOf_len]
def Tried (c:ByteArray) (k:Nat):Prop:=∀ f,3≤f→f < k→unpF (bytesOf c) f=false
theorem Tried.step {c:ByteArray} {k:Nat} (h:Tried c k) (hk:unpF (bytesOf c) k=false):Tried c (k+1):=fun f h3 hf=>by
 by_cases e:f=k
 ·rw [e]; exact hk
 ·exact h f h3 (by omega)
set_option maxHeartbeats 400000 in
set_option maxRecDepth 20000 in
theorem punp_any (c:ByteArray) (w:World) (hm:c.size≤9223372036854775807) :
  Calls Tryz.prog 95 #[.string c] w (UnpPost c w):=by
 go_enter Tryz.func95,Tryz.ntmps95
 go_wp2_with fail
 refine (digits_any 200 _ (by decide)).mono ?_
 rintro e w1 ⟨v1,rfl,D1,B1⟩
 obtain ⟨g,cp,rfl,_,_,_⟩:=D1.cells (vint_ne _)
 have hl2:(vint 200).length=2:=rfl
 rw [hl2]
 clear D1 hl2
 have hs1:=B1.size
 go_wp2
 go_loopw [5] (fun i wr=>∃ k:Nat,1≤k∧k≤3∧i=.int .i64 k∧Hid (Tried c (k+2))∧Below w.heap.size w wr) (fun i _=>3 - (intOf i).toNat)
 case atStart=>exact ⟨1,Nat.le_refl _,by omega,rfl,fun f _ _=>by omega,B1⟩
 case round =>
  obtain ⟨k,hk1,hk3,rfl,HT,B⟩:=hrel
  by_cases h3:k=3
  ·subst h3
   have H34:Hid (unpF (bytesOf c) 3=false∧unpF (bytesOf c) 4=false):=⟨HT.out 3 (by omega) (by omega),HT.out 4 (by omega) (by omega)⟩
   go_wp2
   go_ret2
   exact unpPost_none H34.out.1 H34.out.2 B
  by_cases hsh:c.size < k+2+4
  ·have H34:Hid (unpF (bytesOf c) 3=false∧unpF (bytesOf c) 4=false):=by
    have e:=unp_false_short (c:=c) (f:=k+2) hsh
    rcases (by omega:k=1∨k=2) with rfl | rfl
    ·exact ⟨e,unp_false_short (by omega)⟩
    ·exact ⟨HT.out 3 (by omega) (by omega),e⟩
   go_wp2
   go_ret2
   exact unpPost_none H34.out.1 H34.out.2 B
  have hex:(c.extract (2+k) (c.size - 4)).size=c.size - 4 - (2+k):=by rw [ByteArray.size_extract]; omega
  go_wp2_with fail
  refine (ppack_any _ wr (by rw [hex]; omega)).mono ?_
  rintro e w2 ⟨⟨r,rfl,hr⟩,hb2⟩
  have B2:=B.trans (hb2.mono B.size)
  rw [hex] at hr ⊢
  by_cases hlo:200 < c.size - 4 - (2+k)
  ·have hT:Tried c (k+1+2):=HT.out.step (unp_false_long (by omega) (by omega))
   rw [if_pos hlo] at hr ⊢
   have HT':Hid (Tried c (k+1+2)):=hT
   clear hT HT hb2 hr
   go_wp2
   exact ⟨⟨k+1,by omega,by omega,rfl,HT',B2⟩,by simp [intOf]; omega⟩
  ·rw [if_neg hlo] at hr ⊢
   have hu:unpF (bytesOf c) (2+k)=(r.toList==c.toList):=unp_eq (by omega) (by omega) hr
   clear hb2 hr hex
   cases hq:(r.toList==c.toList) with
   | true =>
    rw [hq] at hu
    have HU:Hid (unpF (bytesOf c) (2+k)=true):=hu
    clear hu
    go_wp2
    go_ret2
    refine unpPost_some ?_ HU.out B2
    rcases (by omega:k=1∨k=2) with rfl | rfl
    ·exact .inl rfl
    ·exact .inr ⟨rfl,HT.out 3 (by omega) (by omega)⟩
   | false =>
    rw [hq] at hu
    have HT':Hid (Tried c (k+1+2)):=HT.out.step (by rw [Nat.add_comm k 2]; exact hu)
    clear hu HT
    go_wp2
    exact ⟨⟨k+1,by omega,by omega,rfl,HT',B2⟩,by simp [intOf]; omega⟩
set_option maxHeartbeats 400000 in
theorem mpack_any (s:ByteArray) (w:World) (hm:s.size≤9223372036854775807):Calls Tryz.prog 61 #[.string s] w (PackPost s w):=by
 go_enter Tryz.func61,Tryz.ntmps61
 go_wp2_with fail
 refine (ppack_any s w hm).mono ?_
 rintro e w2 ⟨⟨r,rfl,hr⟩,hb2⟩
 have HR:Hid (PackPost s w (.returned (.tuple #[.string r,.int .i64 (if 200 < s.size then 1 else 0)])) w2):=⟨⟨r,rfl,hr⟩,hb2⟩
 clear hr hb2
 obtain ⟨x,hx⟩:∃ x:Int,x=if 200 < s.size then 1 else 0:=⟨_,rfl⟩
 rw [← hx] at HR ⊢
 clear hx
 go_wp2
 go_ret2
 exact HR.out
set_option maxHeartbeats 400000 in
theorem munp_any (c:ByteArray) (w:World) (hm:c.size≤9223372036854775807):Calls Tryz.prog 63 #[.string c] w (UnpPost c w):=by
 go_enter Tryz.func63,Tryz.ntmps63
 go_wp2_with fail
 refine (punp_any c w hm).mono ?_
 rintro e w2 ⟨⟨r,x,rfl,hr⟩,hb2⟩
 have HR:Hid (UnpPost c w (.returned (.tuple #[.string r,.int .i64 x])) w2):=⟨⟨r,x,rfl,hr⟩,hb2⟩
 clear hr hb2
 go_wp2
 go_ret2
 exact HR.out
end Go.Proofs.YtbgilndohccicaaGreatDoor
namespace Go.Proofs.YtbgilndohccicaaGreatDoor
open Go.RowKit
theorem or_top (x:BitVec 32) (β:Bool):x >>> 1 ||| bt β=x >>> 1 ^^^ bt β:=by
 apply BitVec.eq_of_getLsbD_eq
 intro i hi
 rw [BitVec.getLsbD_or,BitVec.getLsbD_xor,BitVec.getLsbD_ushiftRight]
 by_cases h:i=31
 ·subst h
  rw [BitVec.getLsbD_of_ge _ _ (by decide)]; simp
 ·have:(bt β).getLsbD i=false:=by
   cases β
   ·simp [bt]
   ·simp only [bt,if_true,BitVec.getLsbD,BitVec.toNat_ofNat]
    rw [show 2147483648 % 2 ^ 32=2 ^ 31 by decide,Nat.testBit_two_pow]; simp; omega
  rw [this]; simp
theorem shr1_nat (z:BitVec 32):(z.toNat:Int) / (2:Int)=((z >>> 1).toNat:Int):=by
 rw [BitVec.toNat_ushiftRight,Nat.shiftRight_eq_div_pow]; rfl
theorem bits_or32 (a b:BitVec 32):bits .or .u32 (a.toNat:Int) (b.toNat:Int)=((a ||| b).toNat:Int):=by
 rw [u32_or_nat _ _ a.isLt b.isLt,BitVec.toNat_or]
theorem r_mid (C:BitVec 32) (β:Bool):bits .or .u32 ((C.toNat:Int) / 2) (((bv β).toNat:Int) * 2147483648 % 4294967296)=((C >>> 1 ^^^ bt β).toNat:Int):=by
 have e:((bv β).toNat:Int) * 2147483648 % 4294967296=((bt β).toNat:Int):=by cases β <;> rfl
 rw [e,shr1_nat,bits_or32,or_top]
theorem r_odd (C:BitVec 32) (β:Bool) (B:Int) (hB:B=(bv β).toNat) (h:C.toNat % 2=1) :
  bits .xor .u32 (bits .or .u32 ((C.toNat:Int) / 2) (B * 2147483648 % 4294967296)) 3988292384=((lfK C ^^^ bt β).toNat:Int):=by
 rw [hB,r_mid,show (3988292384:Int)=((3988292384#32:BitVec 32).toNat:Int) from rfl,bits_xor32]
 have e:C.getLsbD 0=true:=by simp [BitVec.getLsbD,Nat.testBit_zero,h]
 simp only [lfK,e,if_true]
 rw [BitVec.xor_assoc,BitVec.xor_comm (bt β),← BitVec.xor_assoc]
theorem r_even (C:BitVec 32) (β:Bool) (B:Int) (hB:B=(bv β).toNat) (h:¬ C.toNat % 2=1) :
  bits .or .u32 ((C.toNat:Int) / 2) (B * 2147483648 % 4294967296)=((lfK C ^^^ bt β).toNat:Int):=by
 rw [hB,r_mid]
 have e:C.getLsbD 0=false:=by simp [BitVec.getLsbD,Nat.testBit_zero]; omega
 simp only [lfK,e,if_false,Bool.false_eq_true,BitVec.xor_zero]
theorem r_odd0 (C:BitVec 32) (β:Bool) (hB:β=false) (h:C.toNat % 2=1) :
  bits .xor .u32 (bits .or .u32 ((C.toNat:Int) / 2) 0) 3988292384=((lfK C ^^^ bt β).toNat:Int):=r_odd C β 0 (by rw [hB]; rfl) h
theorem r_even0 (C:BitVec 32) (β:Bool) (hB:β=false) (h:¬ C.toNat % 2=1) :
  bits .or .u32 ((C.toNat:Int) / 2) 0=((lfK C ^^^ bt β).toNat:Int):=r_even C β 0 (by rw [hB]; rfl) h
theorem and_one (n:Nat) (h:n < 4294967296):bits .and .u32 (n:Int) 1=((n % 2:Nat):Int):=by
 rw [show (1:Int)=((1:Nat):Int) from rfl,u32_and_nat n 1 h (by decide),nat_mask1]
theorem b_in (s:ByteArray) (k:Nat) (h:k / 8 < s.size):bits .and .u32 ((s[k / 8].toNat:Int) % 4294967296 / 2 ^ (k % 8)) 1=((bv (bitAt (bytesOf s) k)).toNat:Int):=by
 have hb:s[k / 8].toNat < 256:=s[k / 8].toNat_lt
 have e:(s[k / 8].toNat:Int) % 4294967296 / 2 ^ (k % 8)=((s[k / 8].toNat / 2 ^ (k % 8):Nat):Int):=by
  rw [Int.emod_eq_of_lt (by omega) (by omega)]; simp
 have hd:s[k / 8].toNat / 2 ^ (k % 8)≤s[k / 8].toNat:=Nat.div_le_self _ _
 rw [e,and_one _ (by omega)]
 unfold bitAt; rw [bytesOf_get s _ h,Option.getD_some,Int.toNat_natCast,Nat.testBit_eq_decide_div_mod_eq]
 by_cases hh:s[k / 8].toNat / 2 ^ (k % 8) % 2=1
 ·simp [hh,bv]
 ·have:s[k / 8].toNat / 2 ^ (k % 8) % 2=0:=by omega
  simp [this,bv]
theorem b_not (β:Bool):bits .xor .u32 ((bv β).toNat:Int) 1=((bv (!β)).toNat:Int):=by cases β <;> decide
theorem b_flip (s:ByteArray) (k:Nat) (h:k / 8 < s.size):bits .xor .u32 (bits .and .u32 ((s[k / 8].toNat:Int) % 4294967296 / 2 ^ (k % 8)) 1) 1=((bv (!bitAt (bytesOf s) k)).toNat:Int):=by
 rw [b_in s k h,b_not]
theorem rfC_next (b:Nat→Bool) (k:Nat):rfC b (k+1)=lfK (rfC b k) ^^^ bt (Bool.xor (b k) (decide (k < 32))):=rfl
theorem int_eq {k:IntKind} {a b:Int} (h:a=b):Value.int k a=.int k b:=by rw [h]
set_option maxHeartbeats 400000 in
theorem crcr_any (s:ByteArray) (w:World) (hm:s.size≤4096) :
  Calls Tryz.prog 94 #[.string s] w fun e w'=>e=.returned (.int .u32 (crcL (bytesOf s)).toNat)∧w'=w:=by
 go_enter Tryz.func94,Tryz.ntmps94
 go_wp2
 go_loop [3,4] (fun c i=>∃ k:Nat,k≤8 * s.size+32∧i=.int .i64 k∧c=.int .u32 (rfC (bitAt (bytesOf s)) k).toNat) (fun _ i=>8 * s.size+32 - (intOf i).toNat)
 case atStart=>exact ⟨0,Nat.zero_le _,rfl,rfl⟩
 case round =>
  obtain ⟨k,hk,rfl,rfl⟩:=hrel
  by_cases hlt:k < 8 * s.size+32
  ·have hand:=and_one (rfC (bitAt (bytesOf s)) k).toNat (rfC (bitAt (bytesOf s)) k).isLt
   by_cases hodd:(rfC (bitAt (bytesOf s)) k).toNat % 2=1
   ·rw [hodd] at hand
    have HO:Hid ((rfC (bitAt (bytesOf s)) k).toNat % 2=1):=hodd
    clear hodd
    by_cases h8:k < 8 * s.size
    ·have hk8:k / 8 < s.size:=by omega
     by_cases h32:k < 32
     ·go_wp2
      exact ⟨⟨k+1,by omega,rfl,int_eq ((r_odd _ _ _ (b_flip s k hk8) HO.out).trans (by rw [rfC_next]; simp [h32]))⟩,by simp [intOf]; omega⟩
     ·go_wp2
      exact ⟨⟨k+1,by omega,rfl,int_eq ((r_odd _ _ _ (b_in s k hk8) HO.out).trans (by rw [rfC_next]; simp [h32]))⟩,by simp [intOf]; omega⟩
    ·have hbe:=bitAt_end (bytesOf s) k (by rw [bytesOf_len]; omega)
     by_cases h32:k < 32
     ·go_wp2
      exact ⟨⟨k+1,by omega,rfl,int_eq ((r_odd _ true _ (by decide) HO.out).trans (by rw [rfC_next]; simp [h32,hbe]))⟩,by simp [intOf]; omega⟩
     ·go_wp2
      exact ⟨⟨k+1,by omega,rfl,int_eq ((r_odd0 _ false rfl HO.out).trans (by rw [rfC_next]; simp [h32,hbe]))⟩,by simp [intOf]; omega⟩
   ·rw [show (rfC (bitAt (bytesOf s)) k).toNat % 2=0 by omega] at hand
    have HO:Hid (¬ (rfC (bitAt (bytesOf s)) k).toNat % 2=1):=hodd
    clear hodd
    by_cases h8:k < 8 * s.size
    ·have hk8:k / 8 < s.size:=by omega
     by_cases h32:k < 32
     ·go_wp2
      exact ⟨⟨k+1,by omega,rfl,int_eq ((r_even _ _ _ (b_flip s k hk8) HO.out).trans (by rw [rfC_next]; simp [h32]))⟩,by simp [intOf]; omega⟩
     ·go_wp2
      exact ⟨⟨k+1,by omega,rfl,int_eq ((r_even _ _ _ (b_in s k hk8) HO.out).trans (by rw [rfC_next]; simp [h32]))⟩,by simp [intOf]; omega⟩
    ·have hbe:=bitAt_end (bytesOf s) k (by rw [bytesOf_len]; omega)
     by_cases h32:k < 32
     ·go_wp2
      exact ⟨⟨k+1,by omega,rfl,int_eq ((r_even _ true _ (by decide) HO.out).trans (by rw [rfC_next]; simp [h32,hbe]))⟩,by simp [intOf]; omega⟩
     ·go_wp2
      exact ⟨⟨k+1,by omega,rfl,int_eq ((r_even0 _ false rfl HO.out).trans (by rw [rfC_next]; simp [h32,hbe]))⟩,by simp [intOf]; omega⟩
  ·obtain rfl:k=8 * s.size+32:=by omega
   have hx:bits .xor .u32 (rfC (bitAt (bytesOf s)) (8 * s.size+32)).toNat 4294967295=(crcL (bytesOf s)).toNat:=by
    have e:=crc_ref (bytesOf s)
    rw [bytesOf_len] at e
    rw [e,show (4294967295:Int)=((4294967295#32:BitVec 32).toNat:Int) from rfl,bits_xor32,crcL,bytesOf_len,show (4294967295#32:BitVec 32)=BitVec.allOnes 32 from rfl,BitVec.xor_allOnes]
   have hq:¬ ((8 * s.size+32:Nat):Int) < (s.size:Int) * 8+32:=by omega
   go_wp2
   go_ret
   exact ⟨rfl,rfl⟩
end Go.Proofs.YtbgilndohccicaaGreatDoor
