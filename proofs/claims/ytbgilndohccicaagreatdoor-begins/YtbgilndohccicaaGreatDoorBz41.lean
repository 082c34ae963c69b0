import Derived.Test.YtbgilndohccicaaGreatDoorBz40
namespace Go.Proofs.YtbgilndohccicaaGreatDoor
open Go.RowKit
def numAt (N:Nat→Int) (i:Int):Int:=if 0≤i∧i < 6 then N i.toNat else 0
def numV (N:Nat→Int):Value:=.agg #[.int .i64 (N 0),.int .i64 (N 1),.int .i64 (N 2),.int .i64 (N 3),.int .i64 (N 4),.int .i64 (N 5)]
set_option maxHeartbeats 1000000 in
theorem numberAt_any (N:Nat→Int) (i:Int) (w:World) :
  Calls Tryz.prog 121 #[numV N,.int .i64 i] w fun e w'=>e=.returned (.int .i64 (numAt N i))∧Below w.heap.size w w':=by
 unfold numV
 by_cases h:0≤i∧i < 6
 ·have e:numAt N i=N i.toNat:=by unfold numAt; rw [if_pos h]
  rw [e]
  have:i=0∨i=1∨i=2∨i=3∨i=4∨i=5:=by omega
  clear h e
  rcases this with rfl | rfl | rfl | rfl | rfl | rfl
  all_goals
   go_enter Tryz.func121,Tryz.ntmps121
   go_wp2
   go_ret
   exact ⟨rfl,(Below.refl _ _).alloc (Nat.le_refl _) _⟩
 ·have e:numAt N i=0:=by unfold numAt; rw [if_neg h]
  rw [e]
  by_cases h1:i < 0
  ·clear h e
   go_enter Tryz.func121,Tryz.ntmps121
   go_wp2
   go_ret
   exact ⟨rfl,(Below.refl _ _).alloc (Nat.le_refl _) _⟩
  ·have h2:6≤i:=by omega
   clear h e
   go_enter Tryz.func121,Tryz.ntmps121
   go_wp2
   go_ret
   exact ⟨rfl,(Below.refl _ _).alloc (Nat.le_refl _) _⟩
def zPT:PT:=⟨0,0,0⟩
def pV (t:PT):List Value:=[.int .u8 t.w,.int .i64 t.v,.int .i64 t.i]
theorem flatP_map (ts:List PT):flatP ts=ts.flatMap pV:=by
 induction ts with
 | nil=>rfl
 | cons t r ih=>simp only [flatP,ih,List.flatMap_cons,pV,List.cons_append,List.nil_append]
structure PCell (w:World) (g i:Nat) (t:PT):Prop where
 c0:w.cell? ⟨g,i * 3,none⟩=some (.int .u8 t.w)
 c1:w.cell? ⟨g,i * 3+1,none⟩=some (.int .i64 t.v)
 c2:w.cell? ⟨g,i * 3+2,none⟩=some (.int .i64 t.i)
theorem PCell.below {w w':World} {B g i:Nat} {t:PT} (h:PCell w g i t) (hb:Below B w w') (hg:g < B):PCell w' g i t :=
 ⟨(hb.cell (p:=⟨g,_,none⟩) hg).trans h.c0,(hb.cell (p:=⟨g,_,none⟩) hg).trans h.c1,(hb.cell (p:=⟨g,_,none⟩) hg).trans h.c2⟩
theorem TPb.cells {w:World} {base:Nat} {v:Value} {ts:List PT} (h:TPb w base v ts):(v=.slice none 0 0∧ts=[])∨∃ g cap,v=.slice (some ⟨g,0,none⟩) ts.length cap∧g < w.heap.size∧ts.length≤maxLen∧∀ i,i < ts.length→PCell w g i (ts[i]?.getD zPT):=by
 have h':=h
 unfold TPb at h'
 rw [flatP_map] at h'
 rcases h.2 with ⟨rfl,hn⟩ | ⟨g,cap,cur,rfl,_,hg,h1,h2,_⟩
 ·exact .inl ⟨rfl,List.length_eq_zero_iff.1 hn⟩
 ·refine .inr ⟨g,cap,rfl,?_,by omega,fun i hi=>?_⟩
  ·exact (World.ownsRow.lt h' g rfl).2
  ·have hx:=getD_of hi zPT
   exact ⟨by simpa using row_cell h' (fun _=>rfl) (j:=0) hx rfl,row_cell h' (fun _=>rfl) (j:=1) hx rfl,row_cell h' (fun _=>rfl) (j:=2) hx rfl⟩
def evP1 (N:Nat→Int) (t:PT) (l:List Int):List Int:=if isOpB t.w=true then l.dropLast.dropLast++[joinI (top l.dropLast) t.w (top l)] else if t.w=48 then l++[t.v] else l++[numAt N t.i]
def evP (N:Nat→Int):List PT→List Int→List Int
 | [],l=>l
 | t :: r,l=>evP N r (evP1 N t l)
theorem evP_ev (N:Nat→Int) (fs:List (Int×Int)):∀ (ps:List GT) (l:List Int),evP N (ps.map (ptOf fs)) l=ev (fun c=>numAt N (idxF fs c)) ps l:=by
 intro ps
 induction ps with
 | nil=>intro l; rfl
 | cons t r ih=>intro l; exact ih _
theorem evP_app (N:Nat→Int):∀ (a b:List PT) (l:List Int),evP N (a++b) l=evP N b (evP N a l):=by
 intro a
 induction a with
 | nil=>intro b l; rfl
 | cons t r ih=>intro b l; exact ih b _
theorem evP1_len (N:Nat→Int) (t:PT) (l:List Int):(evP1 N t l).length≤l.length+1:=by
 unfold evP1; split
 ·simp; omega
 ·split <;> simp
theorem evP_take {N:Nat→Int} {ts:List PT} {k:Nat} {t:PT} (h:ts[k]?=some t):evP N (ts.take (k+1)) []=evP1 N t (evP N (ts.take k) []):=by
 rw [List.take_add_one,h,evP_app]; rfl
theorem PL.new (w:World):PL (w.alloc (.cells #[.slice none 0 0] 196)) w.heap.size (w.heap.size+1) (.slice none 0 0) [] :=
 ⟨by go_simp,by go_simp,World.ownsRow_nil _ _ _ _,Nat.lt_succ_self _,by simp⟩
theorem below_gbB {B b:Nat} {w0 w w':World} (h:Below B w0 w) (g:w.grownBy w' (some b)) (hs:B≤w.heap.size) (hb:B≤b):Below B w0 w' :=
 h.grown g hs (fun x hx=>by injection hx with hx; omega)
set_option maxHeartbeats 2000000 in
set_option maxRecDepth 20000 in
theorem reckon_row (g cap m:Nat) (ts:List PT) (ex:Bool) (N:Nat→Int) (w:World) (hm:m=ts.length) (hmx:m≤900) (hg:g < w.heap.size) (hc:∀ i,i < m→PCell w g i (ts[i]?.getD zPT)) :
  Calls Tryz.prog 105 #[.agg #[.slice (some ⟨g,0,none⟩) m cap,.bool ex],numV N] w fun e w'=>e=.returned (.int .i64 (top (evP N ts [])))∧Below w.heap.size w w':=by
 obtain ⟨R,hR⟩:∃ R,R=top (evP N ts []):=⟨_,rfl⟩
 rw [← hR]
 have HR:Hid (R=top (evP N ts [])):=hR
 have HM:Hid (m=ts.length):=hm
 have HC:Hid (∀ i,i < m→PCell w g i (ts[i]?.getD zPT)):=hc
 have CN:=fun i W=>numberAt_any N i W
 unfold numV at CN ⊢
 obtain ⟨W,hW⟩:∃ W,W=(w.alloc (.cells #[.slice (some ⟨g,0,none⟩) m cap,.bool ex] 177)).alloc (.cells #[.int .i64 (N 0),.int .i64 (N 1),.int .i64 (N 2),.int .i64 (N 3),.int .i64 (N 4),.int .i64 (N 5)] 49):=⟨_,rfl⟩
 have B0:Below w.heap.size w W:=by rw [hW]; exact ((Below.refl _ _).alloc (Nat.le_refl _) _).alloc (by simp) _
 have z0:W.heap.size=w.heap.size+1+1:=by rw [hW]; simp
 have y0:W.cell? ⟨w.heap.size,0,none⟩=some (.slice (some ⟨g,0,none⟩) m cap):=by rw [hW]; go_simp
 have n0:W.cell? ⟨w.heap.size+1,0,none⟩=some (.int .i64 (N 0)):=by rw [hW]; go_simp
 have n1:W.cell? ⟨w.heap.size+1,1,none⟩=some (.int .i64 (N 1)):=by rw [hW]; go_simp
 have n2:W.cell? ⟨w.heap.size+1,2,none⟩=some (.int .i64 (N 2)):=by rw [hW]; go_simp
 have n3:W.cell? ⟨w.heap.size+1,3,none⟩=some (.int .i64 (N 3)):=by rw [hW]; go_simp
 have n4:W.cell? ⟨w.heap.size+1,4,none⟩=some (.int .i64 (N 4)):=by rw [hW]; go_simp
 have n5:W.cell? ⟨w.heap.size+1,5,none⟩=some (.int .i64 (N 5)):=by rw [hW]; go_simp
 have P0:PL (W.alloc (.cells #[.slice none 0 0] 196)) (w.heap.size+1+1) (w.heap.size+1+1+1) (.slice none 0 0) []:=by
  have:=PL.new W; rw [z0] at this; exact this
 have HB0:Hid (Below w.heap.size w W):=B0
 have HP0:Hid (PL (W.alloc (.cells #[.slice none 0 0] 196)) (w.heap.size+1+1) (w.heap.size+1+1+1) (.slice none 0 0) []):=P0
 clear hR hm hc B0 P0
 go_enter Tryz.func105,Tryz.ntmps105
 go_wp2_with fail
 rw [← hW]
 clear hW
 have u0:w.heap.size < W.heap.size:=by omega
 have u1:w.heap.size+1 < W.heap.size:=by omega
 go_wp2
 go_loopw [15] (fun i wr=>∃ (k:Nat) (v:Value),k≤m∧i=.int .i64 k∧(evP N (ts.take k) []).length≤k∧PL wr (w.heap.size+1+1) (w.heap.size+1+1+1) v (evP N (ts.take k) [])∧Below (w.heap.size+1+1) W wr) (fun i _=>m - (intOf i).toNat)
 case atStart=>exact ⟨0,_,Nat.zero_le _,rfl,Nat.le_refl _,HP0.out,(Below.refl _ _).alloc (by omega) _⟩
 case round =>
  obtain ⟨k,v,hk,rfl,hl,P,hb⟩:=hrel
  have HP:Hid (PL wr (w.heap.size+1+1) (w.heap.size+1+1+1) v (evP N (ts.take k) [])):=P
  have hsz:=P.le
  have hBW:Below w.heap.size w wr:=HB0.out.trans (hb.mono (by omega))
  have hgr:g < wr.heap.size:=by omega
  have hz2:w.heap.size+1+1 < wr.heap.size:=by omega
  obtain ⟨l,hl0⟩:∃ l,l=evP N (ts.take k) []:=⟨_,rfl⟩
  have HL:Hid (l=evP N (ts.take k) []):=hl0
  rw [← hl0] at HP hl
  clear P hl0
  by_cases hlt:k < m
  ·obtain ⟨t,ht⟩:∃ t,t=ts[k]?.getD zPT:=⟨_,rfl⟩
   have htk:ts[k]?=some t:=by rw [ht]; exact getD_of (by rw [← HM.out]; exact hlt) zPT
   have HN:Hid (evP N (ts.take (k+1)) []=evP1 N t l):=by show _=_; rw [HL.out]; exact evP_take htk
   have HN1:Hid ((evP1 N t l).length≤k+1):=Nat.le_trans (evP1_len N t l) (by omega)
   obtain ⟨x0,x1,x2⟩:=(HC.out k hlt).below hBW hg
   rw [← ht] at x0 x1 x2
   obtain ⟨tw,tv,ti⟩:=t
   simp only [] at x0 x1 x2
   obtain ⟨wa,hwa⟩:∃ wa,wa=wr.alloc (.cells #[.int .u8 tw,.int .i64 tv,.int .i64 ti] 198):=⟨_,rfl⟩
   have Pa:PL wa (w.heap.size+1+1) (w.heap.size+1+1+1) v l:=by rw [hwa]; exact HP.out.below ((Below.refl _ _).alloc (Nat.le_refl _) _)
   have Ba:Below (w.heap.size+1+1) W wa:=by rw [hwa]; exact hb.alloc (by omega) _
   have za:wr.heap.size < wa.heap.size:=by rw [hwa]; simp
   have q0:wa.cell? ⟨wr.heap.size,0,none⟩=some (.int .u8 tw):=by rw [hwa]; go_simp
   have q1:wa.cell? ⟨wr.heap.size,1,none⟩=some (.int .i64 tv):=by rw [hwa]; go_simp
   have q2:wa.cell? ⟨wr.heap.size,2,none⟩=some (.int .i64 ti):=by rw [hwa]; go_simp
   clear ht htk HL
   by_cases hs:tw=43∨tw=45∨tw=42
   ·have HE:Hid (evP1 N ⟨tw,tv,ti⟩ l=l.dropLast.dropLast++[joinI (top l.dropLast) tw (top l)]):=by
     show _=_; unfold evP1; rw [if_pos (by rcases hs with rfl | rfl | rfl <;> rfl)]
    obtain ⟨jv,hjv⟩:∃ jv,jv=joinI (top l.dropLast) tw (top l):=⟨_,rfl⟩
    rw [← hjv] at HE
    have CJ:=fun W=>join_any (top l.dropLast) tw (top l) W
    rw [← hjv] at CJ
    obtain ⟨d1,hd1⟩:∃ d1,d1=top l:=⟨_,rfl⟩
    obtain ⟨d2,hd2⟩:∃ d2,d2=top l.dropLast:=⟨_,rfl⟩
    have C1:=ppop_any Pa (by omega)
    rw [← hd1] at CJ C1
    rw [← hd2] at CJ
    have C2:=fun W v (h:PL W (w.heap.size+1+1) (w.heap.size+1+1+1) v l.dropLast)=>ppop_any h (by simp; omega)
    rw [← hd2] at C2
    have C3:=fun W v (h:PL W (w.heap.size+1+1) (w.heap.size+1+1+1) v l.dropLast.dropLast)=>ppush_any h (by simp; omega) jv
    clear hjv hd1 hd2 Pa
    rcases hs with rfl | rfl | rfl
    all_goals
     go_wp2_with fail
     rw [← hwa]
     clear hwa
     refine C1.mono ?_
     rintro e w1 ⟨rfl,⟨v1,P1⟩,G1⟩
     have r0:=(World.cell?_of_block (a:=⟨wr.heap.size,0,none⟩) (G1.block wr.heap.size za (by simp; omega))).trans q0
     have s1:=G1.size
     have B1:=below_gbB Ba G1 (by omega) (Nat.le_refl _)
     have z1:wr.heap.size < w1.heap.size:=by omega
     have D2:=C2 w1 v1 P1
     clear C1 C2 q0 q1 q2
     go_wp2_with fail
     refine D2.mono ?_
     rintro e w2 ⟨rfl,⟨v2,P2⟩,G2⟩
     have r1:=(World.cell?_of_block (a:=⟨wr.heap.size,0,none⟩) (G2.block wr.heap.size z1 (by simp; omega))).trans r0
     have s2:=G2.size
     have B2:=below_gbB B1 G2 (by omega) (Nat.le_refl _)
     have z2:wr.heap.size < w2.heap.size:=by omega
     have D3:=C3 w2 v2 P2
     clear D2 C3 r0 G1 G2
     go_wp2_with fail
     refine (CJ _).mono ?_
     rintro e w2' ⟨rfl,rfl⟩
     go_wp2_with fail
     refine D3.mono ?_
     rintro e w3 ⟨rfl,v3,P3,F3⟩
     have B3:=F3.below P2 (Nat.le_refl _) B2
     clear D3 CJ
     go_wp2
     go_roundw
     case rel=>exact ⟨k+1,v3,by omega,by go_num,by rw [HN.out]; exact HN1.out,by rw [HN.out,HE.out]; exact P3,B3⟩
     case measure=>simp [intOf]; omega
   ·have t1:(tw==43)=false:=by simp; omega
    have t2:(tw==45)=false:=by simp; omega
    have t3:(tw==42)=false:=by simp; omega
    have hsg:isOpB tw=false:=by unfold isOpB; rw [t1,t2,t3]; rfl
    by_cases h48:tw=48
    ·have HE:Hid (evP1 N ⟨tw,tv,ti⟩ l=l++[tv]):=by show _=_; unfold evP1; simp only []; rw [hsg,if_neg (by decide),if_pos h48]
     subst h48
     have C3:=ppush_any Pa (by omega) tv
     clear hsg hs t1 t2 t3
     go_wp2_with fail
     rw [← hwa]
     clear hwa
     go_wp2_with fail
     refine C3.mono ?_
     rintro e w3 ⟨rfl,v3,P3,F3⟩
     have B3:=F3.below Pa (Nat.le_refl _) Ba
     clear C3
     go_wp2
     go_roundw
     case rel=>exact ⟨k+1,v3,by omega,by go_num,by rw [HN.out]; exact HN1.out,by rw [HN.out,HE.out]; exact P3,B3⟩
     case measure=>simp [intOf]; omega
    ·have HE:Hid (evP1 N ⟨tw,tv,ti⟩ l=l++[numAt N ti]):=by show _=_; unfold evP1; simp only []; rw [hsg,if_neg (by decide),if_neg h48]
     have t4:(tw==48)=false:=by simp [h48]
     obtain ⟨x,hx⟩:∃ x,x=numAt N ti:=⟨_,rfl⟩
     have C1:=CN ti wa
     rw [← hx] at C1 HE
     have C3:=fun W (h:PL W (w.heap.size+1+1) (w.heap.size+1+1+1) v l)=>ppush_any h (by omega) x
     have m0:=(hb.cell (p:=⟨w.heap.size+1,0,none⟩) (by show w.heap.size+1 < _; omega)).trans n0
     have m1:=(hb.cell (p:=⟨w.heap.size+1,1,none⟩) (by show w.heap.size+1 < _; omega)).trans n1
     have m2:=(hb.cell (p:=⟨w.heap.size+1,2,none⟩) (by show w.heap.size+1 < _; omega)).trans n2
     have m3:=(hb.cell (p:=⟨w.heap.size+1,3,none⟩) (by show w.heap.size+1 < _; omega)).trans n3
     have m4:=(hb.cell (p:=⟨w.heap.size+1,4,none⟩) (by show w.heap.size+1 < _; omega)).trans n4
     have m5:=(hb.cell (p:=⟨w.heap.size+1,5,none⟩) (by show w.heap.size+1 < _; omega)).trans n5
     have hz3:w.heap.size+1 < wr.heap.size:=by omega
     clear hsg hs h48 hx
     go_wp2_with fail
     rw [← hwa]
     clear hwa
     refine C1.mono ?_
     rintro e w1 ⟨rfl,B1⟩
     have P1:=Pa.below B1
     have B2:Below (w.heap.size+1+1) W w1:=Ba.trans (B1.mono (by omega))
     have D3:=C3 w1 P1
     clear C1 C3
     go_wp2_with fail
     refine D3.mono ?_
     rintro e w3 ⟨rfl,v3,P3,F3⟩
     have B3:=F3.below P1 (Nat.le_refl _) B2
     clear D3
     go_wp2
     go_roundw
     case rel=>exact ⟨k+1,v3,by omega,by go_num,by rw [HN.out]; exact HN1.out,by rw [HN.out,HE.out]; exact P3,B3⟩
     case measure=>simp [intOf]; omega
  ·obtain rfl:k=m:=by omega
   have HR2:Hid (top l=R):=by
    show _=_
    rw [HR.out,HL.out,List.take_of_length_le (by rw [← HM.out]; omega)]
   have C1:=ppop_any HP.out (by omega)
   rw [HR2.out] at C1
   go_wp2_with fail
   refine C1.mono ?_
   rintro e w1 ⟨rfl,_,G1⟩
   have B1:=below_gbB hb G1 (by omega) (Nat.le_refl _)
   clear C1
   go_wp2
   go_ret
   exact ⟨rfl,HB0.out.trans (B1.mono (by omega))⟩
set_option maxHeartbeats 400000 in
theorem reckon_nil (ex:Bool) (N:Nat→Int) (w:World) :
  Calls Tryz.prog 105 #[.agg #[.slice none 0 0,.bool ex],numV N] w fun e w'=>e=.returned (.int .i64 0)∧Below w.heap.size w w':=by
 unfold numV
 obtain ⟨W,hW⟩:∃ W,W=(w.alloc (.cells #[.slice none 0 0,.bool ex] 177)).alloc (.cells #[.int .i64 (N 0),.int .i64 (N 1),.int .i64 (N 2),.int .i64 (N 3),.int .i64 (N 4),.int .i64 (N 5)] 49):=⟨_,rfl⟩
 have B0:Below w.heap.size w W:=by rw [hW]; exact ((Below.refl _ _).alloc (Nat.le_refl _) _).alloc (by simp) _
 have z0:W.heap.size=w.heap.size+1+1:=by rw [hW]; simp
 have y0:W.cell? ⟨w.heap.size,0,none⟩=some (.slice none 0 0):=by rw [hW]; go_simp
 have P0:PL (W.alloc (.cells #[.slice none 0 0] 196)) (w.heap.size+1+1) (w.heap.size+1+1+1) (.slice none 0 0) []:=by
  have:=PL.new W; rw [z0] at this; exact this
 have C1:=ppop_any P0 (by simp)
 rw [show top []=0 from rfl] at C1
 go_enter Tryz.func105,Tryz.ntmps105
 go_wp2_with fail
 rw [← hW]
 clear hW
 have u0:w.heap.size < W.heap.size:=by omega
 go_wp2_with fail
 refine wp_loop_rounds 1 ?_; rw [rounds_succ]
 go_wp2_with fail
 refine C1.mono ?_
 rintro e w1 ⟨rfl,_,G1⟩
 have B1:Below (w.heap.size+1+1) W w1:=below_gbB ((Below.refl _ _).alloc (by omega) _) G1 (by simp; omega) (Nat.le_refl _)
 clear C1
 go_wp2
 go_ret
 exact ⟨rfl,B0.trans (B1.mono (by omega))⟩
theorem reckon_any {a:Option Addr} {n c base:Nat} {ts:List PT} (ex:Bool) (N:Nat→Int) {w:World} (h:TPb w base (.slice a n c) ts) (hm:ts.length≤900) :
  Calls Tryz.prog 105 #[.agg #[.slice a n c,.bool ex],numV N] w fun e w'=>e=.returned (.int .i64 (top (evP N ts [])))∧Below w.heap.size w w':=by
 rcases h.cells with ⟨e,rfl⟩ | ⟨g,cap,e,hg,_,hc⟩
 ·cases e; exact reckon_nil ex N w
 ·cases e; exact reckon_row g _ _ ts ex N w rfl hm hg hc
end Go.Proofs.YtbgilndohccicaaGreatDoor
namespace Go.Proofs.YtbgilndohccicaaGreatDoor
open Go.RowKit
def zMV:MV:=⟨0,⟨none,0,0⟩,0,⟨none,0,0⟩⟩
def mvV (p:MV):Value:=.agg #[.int .u8 p.l,.slice p.f.a p.f.n p.f.c,.int .u8 p.s,.slice p.r.a p.r.n p.r.c]
structure MCell (w:World) (g i:Nat) (p:MV):Prop where
 c0:w.cell? ⟨g,i * 4,none⟩=some (.int .u8 p.l)
 c1:w.cell? ⟨g,i * 4+1,none⟩=some (.slice p.f.a p.f.n p.f.c)
 c2:w.cell? ⟨g,i * 4+2,none⟩=some (.int .u8 p.s)
 c3:w.cell? ⟨g,i * 4+3,none⟩=some (.slice p.r.a p.r.n p.r.c)
theorem MCell.below {w w':World} {B g i:Nat} {t:MV} (h:MCell w g i t) (hb:Below B w w') (hg:g < B):MCell w' g i t :=
 ⟨(hb.cell (p:=⟨g,_,none⟩) hg).trans h.c0,(hb.cell (p:=⟨g,_,none⟩) hg).trans h.c1,(hb.cell (p:=⟨g,_,none⟩) hg).trans h.c2,(hb.cell (p:=⟨g,_,none⟩) hg).trans h.c3⟩
theorem Mks.cells {w:World} {base:Nat} {v:Value} {vs:List MV} {ms:List PM} (h:Mks w base v vs ms):(v=.slice none 0 0∧vs=[])∨∃ g cap,v=.slice (some ⟨g,0,none⟩) vs.length cap∧g < w.heap.size∧vs.length≤maxLen∧∀ i,i < vs.length→MCell w g i (vs[i]?.getD zMV):=by
 have h':=h.row
 unfold flatMk at h'
 rcases h.row.2 with ⟨rfl,hn⟩ | ⟨g,cap,cur,rfl,_,hg,h1,h2,_⟩
 ·exact .inl ⟨rfl,List.length_eq_zero_iff.1 hn⟩
 ·refine .inr ⟨g,cap,rfl,?_,by omega,fun i hi=>?_⟩
  ·exact (World.ownsRow.lt h' g rfl).2
  ·have hx:=getD_of hi zMV
   exact ⟨by simpa using row_cell h' (fun _=>rfl) (j:=0) hx rfl,row_cell h' (fun _=>rfl) (j:=1) hx rfl,row_cell h' (fun _=>rfl) (j:=2) hx rfl,row_cell h' (fun _=>rfl) (j:=3) hx rfl⟩
def findMV (vs:List MV) (x:Int):Option MV:=if x=0 then none else vs.find? (fun p=>p.s==x)
def findPM (ms:List PM) (x:Int):Option PM:=if x=0 then none else ms.find? (fun p=>p.src==x)
theorem findMV_hit (vs:List MV) (x:Int) (k:Nat) (hx:x≠0) (hk:k < vs.length) (hno:∀ j,j < k→¬ (vs[j]?.getD zMV).s=x) (h:((vs[k]?.getD zMV).s==x)=true):findMV vs x=some (vs[k]?.getD zMV):=by
 unfold findMV
 rw [if_neg hx]
 have:vs.find? (fun p=>p.s==x)=some vs[k]:=by
  rw [List.find?_eq_some_iff_getElem]
  refine ⟨by simpa [List.getElem?_eq_getElem hk] using h,k,hk,rfl,fun j hj=>?_⟩
  have:=hno j hj
  have hj':j < vs.length:=by omega
  simpa [List.getElem?_eq_getElem hj'] using this
 rw [this,List.getElem?_eq_getElem hk]; rfl
theorem findMV_none (vs:List MV) (x:Int) (hno:∀ j,j < vs.length→¬ (vs[j]?.getD zMV).s=x):findMV vs x=none:=by
 unfold findMV
 split
 ·rfl
 ·rw [List.find?_eq_none]
  intro p hp
  obtain ⟨j,hj,rfl⟩:=List.getElem_of_mem hp
  have:=hno j hj
  simpa [List.getElem?_eq_getElem hj] using this
theorem noM_step {vs:List MV} {x:Int} {k:Nat} (hno:∀ j,j < k→¬ (vs[j]?.getD zMV).s=x) (h1:((vs[k]?.getD zMV).s==x)=false):∀ j,j < k+1→¬ (vs[j]?.getD zMV).s=x:=by
 intro j hj
 rcases Nat.lt_succ_iff_lt_or_eq.1 hj with h | rfl
 ·exact hno j h
 ·simpa using h1
theorem find_both {α β:Type} {P:α→β→Prop} (f:α→Bool) (g:β→Bool):∀ (vs:List α) (ms:List β),vs.length=ms.length→(∀ (i:Nat) a b,vs[i]?=some a→ms[i]?=some b→f a=g b∧P a b) →
  (vs.find? f=none∧ms.find? g=none)∨∃ a b,vs.find? f=some a∧ms.find? g=some b∧P a b:=by
 intro vs
 induction vs with
 | nil =>
  intro ms hl _
  cases ms with
  | nil=>exact .inl ⟨rfl,rfl⟩
  | cons _ _=>simp at hl
 | cons a r ih =>
  intro ms hl hP
  cases ms with
  | nil=>simp at hl
  | cons b q =>
   have h0:=hP 0 a b rfl rfl
   simp only [List.find?_cons]
   rw [h0.1]
   cases g b with
   | true=>exact .inr ⟨a,b,rfl,rfl,h0.2⟩
   | false=>exact ih q (by simpa using hl) fun i a' b' h1 h2=>hP (i+1) a' b' (by simpa using h1) (by simpa using h2)
theorem Mks.find {w:World} {base:Nat} {v:Value} {vs:List MV} {ms:List PM} (h:Mks w base v vs ms) (x:Int) :
  (findMV vs x=none∧findPM ms x=none)∨∃ p m,findMV vs x=some p∧findPM ms x=some m∧p.l=m.l∧FVb w base p.f.val m.fs∧∃ us,Rls w base p.r.val us m.rs:=by
 unfold findMV findPM
 by_cases hx:x=0
 ·rw [if_pos hx,if_pos hx]; exact .inl ⟨rfl,rfl⟩
 ·rw [if_neg hx,if_neg hx]
  exact find_both (P:=fun p m=>p.l=m.l∧FVb w base p.f.val m.fs∧∃ us,Rls w base p.r.val us m.rs) (fun p=>p.s==x) (fun m=>m.src==x) vs ms h.len fun i p m h1 h2=>by
   obtain ⟨a,b,c⟩:=h.el i p m h1 h2
   exact ⟨by rw [b],a,c⟩
set_option maxHeartbeats 400000 in
theorem ufind_nil (x:Int) (w:World) :
  Calls Tryz.prog 82 #[.agg #[.slice none 0 0],.int .u8 x] w fun e w'=>e=.returned (.tuple #[mvV zMV,.bool false])∧Below w.heap.size w w':=by
 go_enter Tryz.func82,Tryz.ntmps82
 go_wp2
 refine wp_loop_rounds 1 ?_; rw [rounds_succ]
 go_wp2
 exact bodyPost_ret (v:=.tuple #[mvV zMV,.bool false]) (by simp [results,Tryz.results82,go_sem,mvV,zMV]) rfl ⟨rfl,((Below.refl _ _).alloc (Nat.le_refl _) _).alloc (by simp) _⟩
set_option maxHeartbeats 1000000 in
set_option maxRecDepth 20000 in
theorem ufind_row (x:Int) (g cap:Nat) (vs:List MV) (w:World) (hg:g < w.heap.size) (hm:vs.length≤9223372036854775807) (hc:∀ i,i < vs.length→MCell w g i (vs[i]?.getD zMV)) :
  Calls Tryz.prog 82 #[.agg #[.slice (some ⟨g,0,none⟩) vs.length cap],.int .u8 x] w fun e w'=>e=.returned (.tuple #[mvV ((findMV vs x).getD zMV),.bool (findMV vs x).isSome])∧Below w.heap.size w w':=by
 obtain ⟨n,hn⟩:∃ n,n=vs.length:=⟨_,rfl⟩
 rw [← hn] at hm hc ⊢
 have HN:Hid (n=vs.length):=hn
 have HC:Hid (∀ i,i < n→MCell w g i (vs[i]?.getD zMV)):=hc
 obtain ⟨W,hW⟩:∃ W,W=(w.alloc (.cells #[.slice (some ⟨g,0,none⟩) n cap] 56)).alloc (.cells #[.int .u8 0,.slice none 0 0,.int .u8 0,.slice none 0 0] 134):=⟨_,rfl⟩
 have B0:Below w.heap.size w W:=by rw [hW]; exact ((Below.refl _ _).alloc (Nat.le_refl _) _).alloc (by simp) _
 have z0:W.heap.size=w.heap.size+1+1:=by rw [hW]; simp
 have y0:W.cell? ⟨w.heap.size+1,0,none⟩=some (.int .u8 0):=by rw [hW]; go_simp
 have y1:W.cell? ⟨w.heap.size+1,1,none⟩=some (.slice none 0 0):=by rw [hW]; go_simp
 have y2:W.cell? ⟨w.heap.size+1,2,none⟩=some (.int .u8 0):=by rw [hW]; go_simp
 have y3:W.cell? ⟨w.heap.size+1,3,none⟩=some (.slice none 0 0):=by rw [hW]; go_simp
 have yf:∀ o,W.frozen? ⟨w.heap.size+1,o,none⟩=false:=by intro o; rw [hW]; go_simp
 have HB0:Hid (Below w.heap.size w W):=B0
 have HYF:Hid (∀ o,W.frozen? ⟨w.heap.size+1,o,none⟩=false):=yf
 clear hn hc B0 yf
 obtain ⟨bx,hbx⟩:∃ bx,(x != 0)=bx:=⟨_,rfl⟩
 go_enter Tryz.func82,Tryz.ntmps82
 go_wp2
 rw [← hW]
 clear hW
 go_loopw [11] (fun i wr=>∃ k:Nat,k≤n∧i=.int .i64 k∧Hid (x≠0→∀ j,j < k→¬ (vs[j]?.getD zMV).s=x)∧Below W.heap.size W wr) (fun i _=>n - (intOf i).toNat)
 case atStart=>exact ⟨0,Nat.zero_le _,rfl,fun _ j hj=>by omega,Below.refl _ _⟩
 case round =>
  obtain ⟨k,hk,rfl,hno,hb⟩:=hrel
  have u1:w.heap.size+1 < W.heap.size:=by omega
  have r0:=(hb.cell (p:=⟨w.heap.size+1,0,none⟩) u1).trans y0
  have r1:=(hb.cell (p:=⟨w.heap.size+1,1,none⟩) u1).trans y1
  have r2:=(hb.cell (p:=⟨w.heap.size+1,2,none⟩) u1).trans y2
  have r3:=(hb.cell (p:=⟨w.heap.size+1,3,none⟩) u1).trans y3
  have rf0:=(hb.frozen (p:=⟨w.heap.size+1,0,none⟩) u1).trans (HYF.out 0)
  have rf1:=(hb.frozen (p:=⟨w.heap.size+1,1,none⟩) u1).trans (HYF.out 1)
  have rf2:=(hb.frozen (p:=⟨w.heap.size+1,2,none⟩) u1).trans (HYF.out 2)
  have rf3:=(hb.frozen (p:=⟨w.heap.size+1,3,none⟩) u1).trans (HYF.out 3)
  have hsz:=hb.size
  have hsz1:w.heap.size+1 < wr.heap.size:=by omega
  have hB:Below w.heap.size w wr:=HB0.out.trans (hb.mono HB0.out.size)
  by_cases hlt:k < n
  ·obtain ⟨c0,c1,c2,c3⟩:=(HC.out k hlt).below hB hg
   obtain ⟨p,hp⟩:∃ p,p=vs[k]?.getD zMV:=⟨_,rfl⟩
   have HPK:Hid (p=vs[k]?.getD zMV):=hp
   rw [← hp] at c0 c1 c2 c3
   clear hp
   have hgr:g < wr.heap.size:=by omega
   obtain ⟨pl,⟨pa,pn,pc⟩,ps,⟨qa,qn,qc⟩⟩:=p
   simp only [] at c0 c1 c2 c3
   cases hps:ps==x with
   | false =>
    have HNO:Hid (x≠0→∀ j,j < k+1→¬ (vs[j]?.getD zMV).s=x):=fun hx=>noM_step (hno.out hx) (by rw [← HPK.out]; exact hps)
    go_wp2
    go_roundw
    case rel=>exact ⟨k+1,by omega,by go_num,HNO,hb.alloc hsz _⟩
    case measure=>simp [intOf]; omega
   | true =>
    cases bx with
    | false =>
     have HNO:Hid (x≠0→∀ j,j < k+1→¬ (vs[j]?.getD zMV).s=x):=fun hx=>absurd (by simpa using hbx) hx
     go_wp2
     go_roundw
     case rel=>exact ⟨k+1,by omega,by go_num,HNO,hb.alloc hsz _⟩
     case measure=>simp [intOf]; omega
    | true =>
     have HF:Hid (findMV vs x=some ⟨pl,⟨pa,pn,pc⟩,ps,⟨qa,qn,qc⟩⟩):=by
      show _=_
      have:=findMV_hit vs x k (by simpa using hbx) (by rw [← HN.out]; exact hlt) (hno.out (by simpa using hbx)) (by rw [← HPK.out]; exact hps)
      rw [← HPK.out] at this; exact this
     go_wp2
     refine bodyPost_ret (v:=.tuple #[.agg #[.int .u8 pl,.slice pa pn pc,.int .u8 ps,.slice qa qn qc],.bool true]) (by simp [results,Tryz.results82,go_sem,r0,r1,r2,r3,hsz1]) rfl ⟨by rw [HF.out]; rfl,?_⟩
     with_reducible repeat first | exact hB | (refine Below.setN ?_ (by omega) _) | (refine Below.alloc ?_ (by simp; omega) _)
  ·have HF:Hid (findMV vs x=none):=by
    show _=_
    by_cases hx:x=0
    ·unfold findMV; rw [if_pos hx]
    ·exact findMV_none vs x fun j hj=>hno.out hx j (by rw [← HN.out] at hj; omega)
   go_wp2
   refine bodyPost_ret (v:=.tuple #[mvV zMV,.bool false]) (by simp [results,Tryz.results82,go_sem,r0,r1,r2,r3,mvV,zMV]) rfl ⟨by rw [HF.out]; rfl,?_⟩
   with_reducible repeat first | exact hB | (refine Below.setN ?_ (by omega) _)
theorem ufind_any {w:World} {base:Nat} {v:Value} {vs:List MV} {ms:List PM} (h:Mks w base v vs ms) (x:Int) :
  Calls Tryz.prog 82 #[.agg #[v],.int .u8 x] w fun e w'=>e=.returned (.tuple #[mvV ((findMV vs x).getD zMV),.bool (findMV vs x).isSome])∧Below w.heap.size w w':=by
 rcases h.cells with ⟨rfl,rfl⟩ | ⟨g,cap,rfl,hg,hm,hc⟩
 ·have e:findMV [] x=none:=by unfold findMV; split <;> rfl
  rw [e]
  exact ufind_nil x w
 ·exact ufind_row x g cap vs w hg (by unfold maxLen at hm; omega) hc
end Go.Proofs.YtbgilndohccicaaGreatDoor
