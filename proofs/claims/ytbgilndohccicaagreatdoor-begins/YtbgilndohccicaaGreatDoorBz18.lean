import Derived.Test.YtbgilndohccicaaGreatDoorBz17
namespace Go.Proofs.YtbgilndohccicaaGreatDoor
open Go.RowKit
def twFs:List Int→List GFd→Option Int
 | _,[]=>none
 | pre,f :: r=>if pre.any (fun p=>p==f.l)=true then some f.p else twFs (pre++[f.l]) r
def twCs:List Int→List GCd→Option Int
 | _,[]=>none
 | pre,c :: r=>if pre.any (fun p=>p==c.l)=true then some c.p else
  match twFs [] c.fs with
  | some p=>some p
  | none=>twCs (pre++[c.l]) r
def gTwice (cs:List GCd):Int:=(twCs [] cs).getD (-1)
theorem has_take {α:Type} (f:α→Int) (cs:List α) (L:Nat→Int) (i:Nat) (x:Int) (hi:i≤cs.length) (h:∀ j c,cs[j]?=some c→L j=f c):hasB L i x=((cs.take i).map f).any (fun p=>p==x):=by
 have e:(cs.take i).map f=(List.range i).map L:=by
  apply List.ext_getElem?
  intro j
  by_cases hj:j < i
  ·have hc:j < cs.length:=by omega
   simp only [List.getElem?_map,List.getElem?_take,hj,if_true,List.getElem?_eq_getElem hc,Option.map_some,List.getElem?_range hj]
   rw [h j _ (List.getElem?_eq_getElem hc)]
  ·rw [List.getElem?_eq_none (by simp; omega),List.getElem?_eq_none (by simp; omega)]
 rw [e,List.any_map,hasB]; rfl
theorem drop_cons {α:Type} {l:List α} {i:Nat} {x:α} (h:l[i]?=some x):l.drop i=x :: l.drop (i+1):=by
 obtain ⟨hi,rfl⟩:=List.getElem?_eq_some_iff.1 h
 exact List.drop_eq_getElem_cons hi
theorem take_map {α:Type} (f:α→Int) {l:List α} {i:Nat} {x:α} (h:l[i]?=some x):(l.take (i+1)).map f=(l.take i).map f++[f x]:=by
 rw [List.take_add_one,h]; simp
theorem twCs_hit {cs:List GCd} {i:Nat} {c:GCd} (h:twCs [] cs=twCs ((cs.take i).map (·.l)) (cs.drop i)) (hc:cs[i]?=some c) (hy:((cs.take i).map (·.l)).any (fun p=>p==c.l)=true):gTwice cs=c.p:=by
 rw [gTwice,h,drop_cons hc,twCs,if_pos hy]; rfl
theorem twCs_field {cs:List GCd} {i:Nat} {c:GCd} {p:Int} (h:twCs [] cs=twCs ((cs.take i).map (·.l)) (cs.drop i)) (hc:cs[i]?=some c) (hy:((cs.take i).map (·.l)).any (fun p=>p==c.l)=false) (hf:twFs [] c.fs=some p):gTwice cs=p:=by
 rw [gTwice,h,drop_cons hc,twCs,if_neg (by rw [hy]; decide),hf]; rfl
theorem twCs_step {cs:List GCd} {i:Nat} {c:GCd} (h:twCs [] cs=twCs ((cs.take i).map (·.l)) (cs.drop i)) (hc:cs[i]?=some c) (hy:((cs.take i).map (·.l)).any (fun p=>p==c.l)=false) (hf:twFs [] c.fs=none):twCs [] cs=twCs ((cs.take (i+1)).map (·.l)) (cs.drop (i+1)):=by
 rw [h,drop_cons hc,twCs,if_neg (by rw [hy]; decide),hf,take_map (·.l) hc]
theorem twCs_end {cs:List GCd} {i:Nat} (h:twCs [] cs=twCs ((cs.take i).map (·.l)) (cs.drop i)) (hi:cs.length≤i):gTwice cs=-1:=by
 rw [gTwice,h,List.drop_eq_nil_of_le hi,twCs]; rfl
theorem twFs_hit {cs:List GFd} {i:Nat} {c:GFd} (h:twFs [] cs=twFs ((cs.take i).map (·.l)) (cs.drop i)) (hc:cs[i]?=some c) (hy:((cs.take i).map (·.l)).any (fun p=>p==c.l)=true):twFs [] cs=some c.p:=by
 rw [h,drop_cons hc,twFs,if_pos hy]
theorem twFs_step {cs:List GFd} {i:Nat} {c:GFd} (h:twFs [] cs=twFs ((cs.take i).map (·.l)) (cs.drop i)) (hc:cs[i]?=some c) (hy:((cs.take i).map (·.l)).any (fun p=>p==c.l)=false):twFs [] cs=twFs ((cs.take (i+1)).map (·.l)) (cs.drop (i+1)):=by
 rw [h,drop_cons hc,twFs,if_neg (by rw [hy]; decide),take_map (·.l) hc]
theorem twFs_end {cs:List GFd} {i:Nat} (h:twFs [] cs=twFs ((cs.take i).map (·.l)) (cs.drop i)) (hi:cs.length≤i):twFs [] cs=none:=by
 rw [h,List.drop_eq_nil_of_le hi,twFs]
set_option maxHeartbeats 400000 in
theorem twice_nil (w:World):Calls Tryz.prog 53 #[.slice none 0 0] w fun e w'=>e=.returned (.int .i64 (-1))∧Below w.heap.size w w':=by
 go_enter Tryz.func53,Tryz.ntmps53
 go_wp2
 refine wp_loop_rounds 1 ?_; rw [rounds_succ]
 go_wp2
 go_ret
 exact ⟨rfl,Below.refl _ _⟩
set_option maxHeartbeats 2000000 in
set_option maxRecDepth 20000 in
theorem gtwice_row (g cap:Nat) (rs:List RCd) (cs:List GCd) (w:World) (hg:g < w.heap.size) (hm:rs.length≤9223372036854775807) (hcap:rs.length≤cap) (hlen:rs.length=cs.length)
  (hc:∀ i,i < rs.length→CCell w g i (rs[i]?.getD zR)) (hel:∀ (i:Nat) (r:RCd) (c:GCd),rs[i]?=some r→cs[i]?=some c→CRel w 0 r c) :
  Calls Tryz.prog 53 #[.slice (some ⟨g,0,none⟩) rs.length cap] w fun e w'=>e=.returned (.int .i64 (gTwice cs))∧Below w.heap.size w w':=by
 obtain ⟨n,hn⟩:∃ n,n=rs.length:=⟨_,rfl⟩
 rw [← hn] at hm hc hcap hlen ⊢
 have HN:Hid (n=rs.length∧n=cs.length):=⟨hn,hlen⟩
 have HE:Hid (∀ (i:Nat) (r:RCd) (c:GCd),rs[i]?=some r→cs[i]?=some c→CRel w 0 r c):=hel
 have HC:Hid (∀ i,i < n→CCell w g i (rs[i]?.getD zR)):=hc
 have HL:Hid (∀ (i:Nat) (c:GCd),cs[i]?=some c→(rs[i]?.getD zR).l=c.l):=by
  intro i c h
  have hi:i < rs.length:=by have:=(List.getElem?_eq_some_iff.1 h).1; omega
  exact (hel i _ c (getD_of hi zR) h).l
 clear hn hlen hel hc
 go_enter Tryz.func53,Tryz.ntmps53
 go_wp2
 go_loopw [9] (fun i wr=>∃ k:Nat,k≤n∧i=.int .i64 k∧Hid (twCs [] cs=twCs ((cs.take k).map (·.l)) (cs.drop k))∧Below w.heap.size w wr) (fun i _=>n - (intOf i).toNat)
 case atStart=>exact ⟨0,Nat.zero_le _,rfl,(by simp:_=_),Below.refl _ _⟩
 case round =>
  obtain ⟨k,hk,rfl,HT,hb⟩:=hrel
  by_cases hlt:k < n
  ·obtain ⟨r,hr⟩:∃ r,r=rs[k]?.getD zR:=⟨_,rfl⟩
   have hrk:rs[k]?=some r:=by rw [hr]; exact getD_of (by rw [← HN.out.1]; exact hlt) zR
   obtain ⟨c,hck⟩:∃ c,cs[k]?=some c:=⟨_,List.getElem?_eq_getElem (by rw [← HN.out.2]; exact hlt)⟩
   have hrel:=HE.out k r c hrk hck
   obtain ⟨c0,c1,c2,c3,c4⟩:=(HC.out k hlt).below hb hg
   rw [← hr] at c0 c1 c2 c3 c4
   have HK:Hid (cs[k]?=some c∧CRel w 0 r c):=⟨hck,hrel⟩
   have hasC:hasB (fun j=>(rs[j]?.getD zR).l) k r.l=((cs.take k).map (·.l)).any (fun p=>p==c.l):=by
    rw [← hrel.l]; exact has_take (·.l) cs (fun j=>(rs[j]?.getD zR).l) k r.l (by rw [← HN.out.2]; exact hk) HL.out
   have hkc:¬ (cap:Int) < (k:Int):=by omega
   have hsz:=hb.size
   have CL:∀ W:World,Below w.heap.size w W→Calls Tryz.prog 87 #[.slice (some ⟨g,0,none⟩) k cap,.int .u8 r.l] W fun e w'=>e=.returned (.bool (hasB (fun j=>(rs[j]?.getD zR).l) k r.l))∧Below W.heap.size W w' :=
    fun W hW=>hasClass_row r.l g cap k (fun j=>rs[j]?.getD zR) W (Nat.lt_of_lt_of_le hg hW.size) (by omega) (fun i hi=>(HC.out i (by omega)).below hW hg)
   rw [hasC] at CL
   clear hr hrk hck hrel hasC
   cases hy:((cs.take k).map (·.l)).any (fun p=>p==c.l) with
   | true =>
    rw [hy] at CL
    have HV:Hid (gTwice cs=r.p):=by show _=_; rw [HK.out.2.p]; exact twCs_hit HT.out HK.out.1 hy
    go_wp2
    go_region_with (go_at_call 87; refine (CL _ (by with_reducible repeat first | exact hb | apply Below.drew | (refine Below.alloc ?_ hsz _))).mono ?_; rintro e w2 ⟨rfl,hb2⟩)
    have hs2:wr.heap.size < w2.heap.size:=by have:=hb2.size; simp at this; omega
    have l0:w2.cell? ⟨wr.heap.size,0,none⟩=some (.int .u8 r.l):=(hb2.cell (by show wr.heap.size < _; simp)).trans (by go_simp)
    have l1:w2.cell? ⟨wr.heap.size,1,none⟩=some (.int .i64 r.p):=(hb2.cell (by show wr.heap.size < _; simp)).trans (by go_simp)
    have l4:w2.cell? ⟨wr.heap.size,4,none⟩=some (.slice r.f.a r.f.n r.f.c):=(hb2.cell (by show wr.heap.size < _; simp)).trans (by go_simp)
    have B2:Below w.heap.size w w2:=(((hb.alloc hsz _).drew).trans (hb2.mono (by simp; omega)))
    clear hb2 CL
    go_wp2
    go_ret
    exact ⟨ret_int HV.out.symm,B2⟩
   | false =>
    rw [hy] at CL
    have HY:Hid (((cs.take k).map (·.l)).any (fun p=>p==c.l)=false):=hy
    clear hy
    go_wp2
    go_region_with (go_at_call 87; refine (CL _ (by with_reducible repeat first | exact hb | apply Below.drew | (refine Below.alloc ?_ hsz _))).mono ?_; rintro e w2 ⟨rfl,hb2⟩)
    have hs2:wr.heap.size < w2.heap.size:=by have:=hb2.size; simp at this; omega
    have l0:w2.cell? ⟨wr.heap.size,0,none⟩=some (.int .u8 r.l):=(hb2.cell (by show wr.heap.size < _; simp)).trans (by go_simp)
    have l1:w2.cell? ⟨wr.heap.size,1,none⟩=some (.int .i64 r.p):=(hb2.cell (by show wr.heap.size < _; simp)).trans (by go_simp)
    have l4:w2.cell? ⟨wr.heap.size,4,none⟩=some (.slice r.f.a r.f.n r.f.c):=(hb2.cell (by show wr.heap.size < _; simp)).trans (by go_simp)
    have B2:Below w.heap.size w w2:=(((hb.alloc hsz _).drew).trans (hb2.mono (by simp; omega)))
    clear hb2 CL
    obtain ⟨frs,hfs⟩:=HK.out.2.fs
    rcases hfs.cells with ⟨hnil,hfr⟩ | ⟨fg,fcap,hfv,hfg,hfc,hfm,hfcell⟩
    ·have hfs0:c.fs=[]:=by have:=hfs.len; rw [hfr] at this; exact List.length_eq_zero_iff.1 this.symm
     have HN':Hid (twCs [] cs=twCs ((cs.take (k+1)).map (·.l)) (cs.drop (k+1))):=twCs_step HT.out HK.out.1 HY.out (by rw [hfs0]; rfl)
     rw [hnil] at l4
     clear hfs hfr hfs0
     go_wp2
     refine wp_loop_rounds 1 ?_; rw [rounds_succ]
     go_wp2
     exact ⟨⟨k+1,by omega,rfl,HN',B2⟩,by simp [intOf]; omega⟩
    ·rw [hfv] at l4
     obtain ⟨m,hm'⟩:∃ m,m=frs.length:=⟨_,rfl⟩
     have hml:m=c.fs.length:=hm'.trans hfs.len
     rw [← hm'] at l4 hfc hfm hfcell
     have HM:Hid (m=frs.length∧m=c.fs.length):=⟨hm',hml⟩
     have HF:Hid (∀ i,i < m→GFCell w fg i (frs[i]?.getD zRF)):=hfcell
     have HFE:Hid (∀ (i:Nat) (r:RFd) (f:GFd),frs[i]?=some r→c.fs[i]?=some f→FRel w 0 r f):=hfs.el
     have hmx:m≤9223372036854775807:=by unfold maxLen at hfm; omega
     have HFL:Hid (∀ (i:Nat) (f:GFd),c.fs[i]?=some f→(frs[i]?.getD zRF).l=f.l):=by
      intro i f h
      have hi:i < frs.length:=by have:=(List.getElem?_eq_some_iff.1 h).1; omega
      exact (hfs.el i _ f (getD_of hi zRF) h).l
     clear hfs hfv hm' hml hfcell hfm c0 c1 c2 c3 c4
     obtain ⟨pb,hpb⟩:∃ pb,pb=wr.heap.size:=⟨_,rfl⟩
     rw [← hpb] at hs2 l0 l1 l4 ⊢
     clear hpb hsz hb
     go_wp2
     go_loopw [27] (fun i wi=>∃ j:Nat,j≤m∧i=.int .i64 j∧Hid (twFs [] c.fs=twFs ((c.fs.take j).map (·.l)) (c.fs.drop j))∧Below w2.heap.size w2 wi) (fun i _=>m - (intOf i).toNat)
     case atStart=>exact ⟨0,Nat.zero_le _,rfl,(by simp:_=_),Below.refl _ _⟩
     case round =>
      obtain ⟨j,hj,rfl,HTF,hbi⟩:=hrel
      have hisz:=hbi.size
      have hBw:Below w.heap.size w wr:=B2.trans (hbi.mono B2.size)
      have hwsz:=hBw.size
      have l1':wr.cell? ⟨pb,1,none⟩=some (.int .i64 r.p):=(hbi.cell (by exact hs2)).trans l1
      have l4':wr.cell? ⟨pb,4,none⟩=some (.slice (some ⟨fg,0,none⟩) m fcap):=(hbi.cell (by exact hs2)).trans l4
      have hpw:pb < wr.heap.size:=Nat.lt_of_lt_of_le hs2 hisz
      by_cases hjl:j < m
      ·obtain ⟨fr,hfr⟩:∃ fr,fr=frs[j]?.getD zRF:=⟨_,rfl⟩
       have hfrk:frs[j]?=some fr:=by rw [hfr]; exact getD_of (by rw [← HM.out.1]; exact hjl) zRF
       obtain ⟨f,hfk⟩:∃ f,c.fs[j]?=some f:=⟨_,List.getElem?_eq_getElem (by rw [← HM.out.2]; exact hjl)⟩
       have hfrel:=HFE.out j fr f hfrk hfk
       obtain ⟨d0,d1,d2,d3,d4,d5⟩:=(HF.out j hjl).below hBw hfg
       rw [← hfr] at d0 d1 d2 d3 d4 d5
       have hasF:hasB (fun i=>(frs[i]?.getD zRF).l) j fr.l=((c.fs.take j).map (·.l)).any (fun p=>p==f.l):=by
        rw [← hfrel.l]; exact has_take (·.l) c.fs (fun i=>(frs[i]?.getD zRF).l) j fr.l (by rw [← HM.out.2]; exact hj) HFL.out
       have hjc:¬ (fcap:Int) < (j:Int):=by omega
       have CF:∀ W:World,Below w.heap.size w W→Calls Tryz.prog 88 #[.slice (some ⟨fg,0,none⟩) j fcap,.int .u8 fr.l] W fun e w'=>e=.returned (.bool (hasB (fun i=>(frs[i]?.getD zRF).l) j fr.l))∧Below W.heap.size W w' :=
        fun W hW=>hasField_row fr.l fg fcap j (fun i=>frs[i]?.getD zRF) W (Nat.lt_of_lt_of_le hfg hW.size) (by omega) (fun i hi=>(HF.out i (by omega)).below hW hfg)
       rw [hasF] at CF
       have HFK:Hid (c.fs[j]?=some f∧FRel w 0 fr f):=⟨hfk,hfrel⟩
       clear hfr hfrk hfk hfrel hasF
       cases hyf:((c.fs.take j).map (·.l)).any (fun p=>p==f.l) with
       | true =>
        rw [hyf] at CF
        have HV:Hid (gTwice cs=fr.p):=by
         show _=_
         rw [HFK.out.2.p]; exact twCs_field HT.out HK.out.1 HY.out (twFs_hit HTF.out HFK.out.1 hyf)
        go_wp2
        go_region_with (go_at_call 88; refine (CF _ (by with_reducible repeat first | exact hBw | apply Below.drew | (refine Below.alloc ?_ hwsz _))).mono ?_; rintro e w3 ⟨rfl,hb3⟩)
        all_goals
         have m1:w3.cell? ⟨wr.heap.size,1,none⟩=some (.int .i64 fr.p):=(hb3.cell (by show wr.heap.size < _; simp)).trans (by go_simp)
         have B3:Below w2.heap.size w2 w3:=(((hbi.alloc hisz _).drew).trans (hb3.mono (by simp; omega)))
         clear hb3 CF
         go_wp2
         go_ret
         exact ⟨ret_int HV.out.symm,B2.trans (B3.mono B2.size)⟩
       | false =>
        rw [hyf] at CF
        have HTF':Hid (twFs [] c.fs=twFs ((c.fs.take (j+1)).map (·.l)) (c.fs.drop (j+1))):=twFs_step HTF.out HFK.out.1 hyf
        clear hyf
        go_wp2
        go_region_with (go_at_call 88; refine (CF _ (by with_reducible repeat first | exact hBw | apply Below.drew | (refine Below.alloc ?_ hwsz _))).mono ?_; rintro e w3 ⟨rfl,hb3⟩)
        all_goals
         have m1:w3.cell? ⟨wr.heap.size,1,none⟩=some (.int .i64 fr.p):=(hb3.cell (by show wr.heap.size < _; simp)).trans (by go_simp)
         have B3:Below w2.heap.size w2 w3:=(((hbi.alloc hisz _).drew).trans (hb3.mono (by simp; omega)))
         clear hb3 CF
         go_wp2
         exact ⟨⟨j+1,by omega,rfl,HTF',B3⟩,by simp [intOf]; omega⟩
      ·have HN':Hid (twCs [] cs=twCs ((cs.take (k+1)).map (·.l)) (cs.drop (k+1))):=twCs_step HT.out HK.out.1 HY.out (twFs_end HTF.out (by rw [← HM.out.2]; omega))
       go_wp2
       exact ⟨⟨k+1,by omega,rfl,HN',hBw⟩,by simp [intOf]; omega⟩
  ·go_wp2
   go_ret
   exact ⟨by rw [twCs_end HT.out (by rw [← HN.out.2]; omega)]; rfl,hb⟩
theorem gtwice_any {base:Nat} {v:Value} {rs:List RCd} {cs:List GCd} {w:World} (h:GCs w base v rs cs) :
  Calls Tryz.prog 53 #[v] w fun e w'=>e=.returned (.int .i64 (gTwice cs))∧Below w.heap.size w w':=by
 rcases h.cells with ⟨rfl,hr⟩ | ⟨g,cap,rfl,hg,hcap,hm,hc⟩
 ·have:cs=[]:=by have:=h.len; rw [hr] at this; exact List.length_eq_zero_iff.1 this.symm
  subst this
  exact twice_nil w
 ·exact gtwice_row g cap rs cs w hg (by unfold maxLen at hm; omega) hcap h.len hc (fun i r c h1 h2=>(h.el i r c h1 h2).mono (Nat.zero_le _))
end Go.Proofs.YtbgilndohccicaaGreatDoor
namespace Go.Proofs.YtbgilndohccicaaGreatDoor
open Go.RowKit
def schF (f:GFd):Int×Int:=(f.l,f.k)
def schC (c:GCd):Int×List (Int×Int):=(c.l,c.fs.map schF)
theorem Cls.app {w1 w2:World} {base:Nat} {v v':Value} {vs:List (Int×SV)} {cs:List (Int×List (Int×Int))} {l:Int} {sv:SV} {fs:List (Int×Int)} (V1:Cls w1 base v vs cs) (F1:FVb w1 base sv.val fs)
  (hown:w2.ownsRow base 99 2 v' (vs.length+1) (flatC vs++[.int .u8 l,.slice sv.a sv.n sv.c])) (hg1:w1.grownBy w2 v.ownBlock):Cls w2 base v' (vs++[(l,sv)]) (cs++[(l,fs)]):=by
 have hfk:∀ (x:SV) f,FVb w1 base x.val f→FVb w2 base x.val f:=fun x f h=>World.ownsRow.kept h hg1 (row_apart h V1.row (by decide))
 refine ⟨by simpa [flatC_app,flatC] using hown,by simp [V1.ls],fun i p c h1 h2=>?_⟩
 have hl:=V1.len
 rcases Nat.lt_or_ge i vs.length with hi | hi
 ·rw [List.getElem?_append_left hi] at h1
  rw [List.getElem?_append_left (by omega)] at h2
  exact hfk _ _ (V1.fld i p c h1 h2)
 ·rw [List.getElem?_append_right hi] at h1
  rw [List.getElem?_append_right (by omega)] at h2
  have hi0:i - vs.length=0:=by
   have:=(List.getElem?_eq_some_iff.1 h1).1; simp at this; omega
  have hj0:i - cs.length=0:=by omega
  rw [hi0] at h1; rw [hj0] at h2
  simp at h1 h2
  subst h1; subst h2
  exact hfk _ _ F1
theorem take_step {α β:Type} (f:α→β) {l:List α} {i:Nat} {x:α} (h:l[i]?=some x):(l.map f).take (i+1)=(l.map f).take i++[f x]:=by
 rw [List.take_add_one,List.getElem?_map,h]; rfl
theorem own_loc {W w4:World} {base:Nat} {e:TypeId} {sz n:Nat} {v:Value} {xs:List Value} (V:W.ownsRow base e sz v n xs) (g:W.grownBy w4 v.ownBlock) {r:Nat} (hr:r < base) (hW:r < W.heap.size):Loc W w4 r:=by
 have e:=g.block r hW (fun h=>by have:=(World.ownsRow.lt V r h.symm).1; omega)
 exact ⟨fun o=>World.cell?_of_block (a:=⟨_,o,none⟩) e,fun o=>World.frozen?_of_block (a:=⟨_,o,none⟩) e,Nat.lt_of_lt_of_le hW g.size⟩
def SchPost (cs:List GCd) (w:World) (e:Ending) (w':World):Prop:=∃ (a:Option Addr) (n c:Nat) (vs:List (Int×SV)),
 e=.returned (.agg #[.slice a n c])∧Cls w' w.heap.size (.slice a n c) vs (cs.map schC)∧Below w.heap.size w w'
set_option maxHeartbeats 400000 in
theorem schemaOf_nil (w:World):Calls Tryz.prog 54 #[.slice none 0 0] w (SchPost [] w):=by
 go_enter Tryz.func54,Tryz.ntmps54
 go_wp2
 refine wp_loop_rounds 1 ?_; rw [rounds_succ]
 go_wp2
 refine bodyPost_ret (v:=.agg #[.slice none 0 0]) (by simp [results,Tryz.results54,go_sem]) rfl ⟨_,_,_,[],rfl,Cls.nil _ _,?_⟩
 with_reducible repeat first | exact Below.refl _ _ | apply Below.drew | (refine Below.setCell ?_ (by first | exact Nat.le_refl _ | (show _≤_; omega)) _) | (refine Below.alloc ?_ (by simp) _)
def OfPost (c:GCd) (w:World) (e:Ending) (w':World):Prop:=∃ (a:Option Addr) (n k:Nat),e=.returned (.agg #[.int .u8 c.l,.slice a n k])∧FVb w' w.heap.size (.slice a n k) (c.fs.map schF)∧Below w.heap.size w w'
set_option maxHeartbeats 1000000 in
set_option maxRecDepth 20000 in
theorem of_nil (r:RCd) (c:GCd) (w:World) (hl:r.l=c.l) (hf:c.fs=[]) :
  Calls Tryz.prog 89 #[.agg #[.int .u8 r.l,.int .i64 r.p,.int .u8 r.fl,.int .i64 r.fp,.slice none 0 0]] w (OfPost c w):=by
 unfold OfPost
 rw [hf,← hl]
 clear hf hl
 go_enter Tryz.func89,Tryz.ntmps89
 go_wp2
 refine wp_loop_rounds 1 ?_; rw [rounds_succ]
 go_wp2
 refine bodyPost_ret (v:=.agg #[.int .u8 r.l,.slice none 0 0]) (by simp [results,Tryz.results89,go_sem]) rfl ⟨_,_,_,rfl,World.ownsRow_nil _ _ _ _,?_⟩
 with_reducible repeat first | exact Below.refl _ _ | apply Below.drew | (refine Below.setCell ?_ (by first | exact Nat.le_refl _ | (show _≤_; omega)) _) | (refine Below.alloc ?_ (by simp; try omega) _)
set_option maxHeartbeats 2000000 in
set_option maxRecDepth 20000 in
theorem of_row (r:RCd) (c:GCd) (frs:List RFd) (fg fcap m:Nat) (w:World) (hl:r.l=c.l) (hm1:m=frs.length) (hm2:m=c.fs.length) (hm6:m≤6) (hfg:fg < w.heap.size)
  (hF:∀ i,i < m→GFCell w fg i (frs[i]?.getD zRF)) (hE:∀ (i:Nat) (r:RFd) (f:GFd),frs[i]?=some r→c.fs[i]?=some f→FRel w 0 r f) :
  Calls Tryz.prog 89 #[.agg #[.int .u8 r.l,.int .i64 r.p,.int .u8 r.fl,.int .i64 r.fp,.slice (some ⟨fg,0,none⟩) m fcap]] w (OfPost c w):=by
 obtain ⟨iF,hiF,hzF0,hzF1,hzF2⟩:=infoParts2 Tryz.infoField
 have HM:Hid (m=frs.length∧m=c.fs.length):=⟨hm1,hm2⟩
 have HF:Hid (∀ i,i < m→GFCell w fg i (frs[i]?.getD zRF)):=hF
 have HFE:Hid (∀ (i:Nat) (r:RFd) (f:GFd),frs[i]?=some r→c.fs[i]?=some f→FRel w 0 r f):=hE
 unfold OfPost
 rw [← hl]
 clear hl hm1 hm2 hF hE
 have B0:Below w.heap.size w (((w.alloc (.cells #[.int .u8 r.l,.int .i64 r.p,.int .u8 r.fl,.int .i64 r.fp,.slice (some ⟨fg,0,none⟩) m fcap] 148)).alloc (.cells #[.int .u8 0,.slice none 0 0] 99)).alloc (.cells #[.int .u8 r.l,.slice none 0 0] 99)) :=
  (((Below.refl _ _).alloc (Nat.le_refl _) _).alloc (by simp) _).alloc (by simp; omega) _
 go_enter Tryz.func89,Tryz.ntmps89
 go_wp2
 go_loopw [13] (fun i wi=>∃ (j:Nat) (fv:Value),j≤m∧i=.int .i64 j∧FVb wi (w.heap.size+3) fv ((c.fs.map schF).take j)∧wi.cell? ⟨w.heap.size+2,0,none⟩=some (.int .u8 r.l)∧wi.cell? ⟨w.heap.size+2,1,none⟩=some fv∧wi.frozen? ⟨w.heap.size+2,1,none⟩=false ∧
  wi.cell? ⟨w.heap.size+1,0,none⟩=some (.int .u8 0)∧wi.cell? ⟨w.heap.size+1,1,none⟩=some (.slice none 0 0)∧wi.frozen? ⟨w.heap.size+1,0,none⟩=false∧wi.frozen? ⟨w.heap.size+1,1,none⟩=false∧w.heap.size+3≤wi.heap.size∧Below w.heap.size w wi) (fun i _=>m - (intOf i).toNat)
 case atStart=>exact ⟨0,.slice none 0 0,Nat.zero_le _,rfl,World.ownsRow_nil _ _ _ _,by go_simp,by go_simp,by go_simp,by go_simp,by go_simp,by go_simp,by go_simp,by simp,B0⟩
 case round =>
  obtain ⟨j,fv,hj,rfl,F,d0,d1,df1,q0,q1,qf0,qf1,hszi,hbi⟩:=hrel
  have hp2:w.heap.size+2 < wr.heap.size:=by omega
  have hp1:w.heap.size+1 < wr.heap.size:=by omega
  have hfl:((c.fs.map schF).take j).length=j:=by rw [List.length_take,List.length_map,← HM.out.2]; omega
  obtain ⟨fa,fc,hfv⟩:=F.shape
  rw [hfl] at hfv
  subst hfv
  have HFL:Hid (((c.fs.map schF).take j).length=j):=hfl
  have Fr:wr.ownsRow (w.heap.size+3) 174 2 (.slice fa j fc) j (flatF ((c.fs.map schF).take j)):=by
   have:=F; unfold FVb at this; rw [hfl] at this; exact this
  clear hfl B0
  by_cases hjl:j < m
  ·obtain ⟨fr,hfr⟩:∃ fr,fr=frs[j]?.getD zRF:=⟨_,rfl⟩
   have hfrk:frs[j]?=some fr:=by rw [hfr]; exact getD_of (by rw [← HM.out.1]; exact hjl) zRF
   obtain ⟨f,hfk⟩:∃ f,c.fs[j]?=some f:=⟨_,List.getElem?_eq_getElem (by rw [← HM.out.2]; exact hjl)⟩
   have hfrel:=HFE.out j fr f hfrk hfk
   obtain ⟨x0,x1,x2,x3,x4,x5⟩:=(HF.out j hjl).below hbi hfg
   rw [← hfr] at x0 x1 x2 x3 x4 x5
   have HST:Hid ((c.fs.map schF).take (j+1)=(c.fs.map schF).take j++[(fr.l,fr.k)]):=by
    show _=_; rw [take_step schF hfk,schF,hfrel.l,hfrel.k]
   clear hfr hfrk hfk hfrel
   go_wp2_with (at_builtin; refine wpList_append_own _ rfl _ _ 97 rfl (w.heap.size+3) 174 iF (.agg #[.int .u8 0,.int .u8 0]) 2 2 Tryz.underlying97 hiF hzF0 hzF1 hzF2 rfl (by decide) _ j (flatF ((c.fs.map schF).take j)) rfl ((Fr.alloc _).alloc _) ⟨wr.heap.size+1,0,none⟩ 1 1 [.int .u8 fr.l,.int .u8 fr.k] rfl rfl ?c1 ?c2 ?c3 ?c4 ?c5 ?_)
   case c1=>exact cell_pair _ _ _ _ _
   case c2=>intro u hu; simp at hu; rcases hu with rfl | rfl <;> rfl
   case c3=>unfold maxLen; omega
   case c4=>omega
   case c5=>simp; omega
   intro v' w5 hown hgr _
   have hg5:wr.grownBy w5 (Value.ownBlock (.slice fa j fc)):=gb_trans (gb_trans (World.grownBy_alloc _ _ _) (World.grownBy_alloc _ _ _)) hgr
   have F5:FVb w5 (w.heap.size+3) v' ((c.fs.map schF).take (j+1)):=by
    unfold FVb; rw [HST.out,List.length_append,HFL.out,flatF_app]; exact hown
   obtain ⟨y2c,y2f,y2l⟩:=own_loc Fr hg5 (r:=w.heap.size+2) (by omega) hp2
   obtain ⟨y1c,y1f,y1l⟩:=own_loc Fr hg5 (r:=w.heap.size+1) (by omega) hp1
   have g0:w5.cell? ⟨w.heap.size+2,0,none⟩=some (.int .u8 r.l):=by rw [y2c]; exact d0
   have g1:w5.cell? ⟨w.heap.size+2,1,none⟩=some (.slice fa j fc):=by rw [y2c]; exact d1
   have gf1:w5.frozen? ⟨w.heap.size+2,1,none⟩=false:=by rw [y2f]; exact df1
   have z0:w5.cell? ⟨w.heap.size+1,0,none⟩=some (.int .u8 0):=by rw [y1c]; exact q0
   have z1:w5.cell? ⟨w.heap.size+1,1,none⟩=some (.slice none 0 0):=by rw [y1c]; exact q1
   have zf0:w5.frozen? ⟨w.heap.size+1,0,none⟩=false:=by rw [y1f]; exact qf0
   have zf1:w5.frozen? ⟨w.heap.size+1,1,none⟩=false:=by rw [y1f]; exact qf1
   have hs5:w.heap.size+3≤w5.heap.size:=Nat.le_trans hszi hg5.size
   have B5:Below w.heap.size w w5:=hbi.grown hg5 (by omega) (fun x hx=>by have:=(World.ownsRow.lt Fr x hx).1; omega)
   obtain ⟨fa',fc',hv'⟩:=F5.shape
   have hl1:((c.fs.map schF).take (j+1)).length=j+1:=by rw [List.length_take,List.length_map,← HM.out.2]; omega
   rw [hl1] at hv'
   subst hv'
   have F6:=F5.set0 (p:=w.heap.size+2) (o:=1) (u:=.slice fa' (j+1) fc') (by omega)
   have B6:Below w.heap.size w (w5.setCell ⟨w.heap.size+2,1,none⟩ (.slice fa' (j+1) fc')):=B5.setCell (by show _≤w.heap.size+2; omega) _
   clear hown hgr hg5 F5 F Fr y2c y2f y1c y1f hl1
   go_wp2
   refine ⟨⟨j+1,_,by omega,rfl,F6,?_,?_,?_,?_,?_,?_,?_,?_,B6⟩,by simp [intOf]; omega⟩
   ·go_simp
   ·go_simp
   ·go_simp
   ·go_simp
   ·go_simp
   ·go_simp
   ·go_simp
   ·simpa using hs5
  ·obtain rfl:j=m:=by omega
   have hfs:(c.fs.map schF).take j=c.fs.map schF:=List.take_of_length_le (by rw [List.length_map,← HM.out.2]; omega)
   rw [hfs] at F
   clear Fr hfs
   go_wp2
   refine bodyPost_ret (v:=.agg #[.int .u8 r.l,.slice fa j fc]) (by simp [results,Tryz.results89,go_sem,q0,q1]) rfl ⟨_,_,_,rfl,?_,?_⟩
   ·refine FVb.mono (World.ownsRow.kept (World.ownsRow.kept F (gb_set _ (w.heap.size+1) _ _) ?_) (gb_set _ (w.heap.size+1) _ _) ?_) (by omega)
    all_goals
     cases hv:Value.ownBlock (.slice fa j fc) with
     | none=>exact .inl rfl
     | some x=>right; have:=(World.ownsRow.lt F x hv).1; simp; omega
   ·exact (hbi.setCell (by show _≤w.heap.size+1; omega) _).setCell (by show _≤w.heap.size+1; omega) _
theorem of_any {r:RCd} {c:GCd} {w:World} (h:CRel w 0 r c) (h6:c.fs.length≤6) :
  Calls Tryz.prog 89 #[.agg #[.int .u8 r.l,.int .i64 r.p,.int .u8 r.fl,.int .i64 r.fp,.slice r.f.a r.f.n r.f.c]] w (OfPost c w):=by
 obtain ⟨frs,hfs⟩:=h.fs
 rcases hfs.cells with ⟨hnil,hfr⟩ | ⟨fg,fcap,hfv,hfg,hfc,hfm,hfcell⟩
 ·have hfs0:c.fs=[]:=by have:=hfs.len; rw [hfr] at this; exact List.length_eq_zero_iff.1 this.symm
  rw [hnil]
  exact of_nil r c w h.l hfs0
 ·rw [hfv]
  exact of_row r c frs fg _ _ w h.l rfl hfs.len (by rw [hfs.len]; exact h6) hfg hfcell hfs.el
set_option maxHeartbeats 2000000 in
set_option maxRecDepth 20000 in
theorem schemaOf_row (g cap:Nat) (rs:List RCd) (cs:List GCd) (w:World) (hg:g < w.heap.size) (hm:rs.length≤6) (hlen:rs.length=cs.length)
  (hc:∀ i,i < rs.length→CCell w g i (rs[i]?.getD zR)) (hel:∀ (i:Nat) (r:RCd) (c:GCd),rs[i]?=some r→cs[i]?=some c→CRel w 0 r c) (h6:∀ c∈cs,c.fs.length≤6) :
  Calls Tryz.prog 54 #[.slice (some ⟨g,0,none⟩) rs.length cap] w (SchPost cs w):=by
 obtain ⟨iC,hiC,hzC0,hzC1,hzC2⟩:=infoParts2 Tryz.infoClass
 obtain ⟨n,hn⟩:∃ n,n=rs.length:=⟨_,rfl⟩
 rw [← hn] at hm hc hlen ⊢
 have HN:Hid (n=rs.length∧n=cs.length):=⟨hn,hlen⟩
 have HE:Hid (∀ (i:Nat) (r:RCd) (c:GCd),rs[i]?=some r→cs[i]?=some c→CRel w 0 r c):=hel
 have HC:Hid (∀ i,i < n→CCell w g i (rs[i]?.getD zR)):=hc
 have H6:Hid (∀ c∈cs,c.fs.length≤6):=h6
 clear hn hlen hel hc h6
 have B0:Below w.heap.size w ((w.alloc (.cells #[.slice none 0 0] 45)).alloc (.cells #[.slice none 0 0] 45)):=((Below.refl _ _).alloc (Nat.le_refl _) _).alloc (by simp) _
 go_enter Tryz.func54,Tryz.ntmps54
 go_wp2
 go_loopw [9] (fun i wr=>∃ (k:Nat) (v:Value) (vs:List (Int×SV)),k≤n∧i=.int .i64 k∧Cls wr (w.heap.size+2) v vs ((cs.map schC).take k)∧wr.cell? ⟨w.heap.size,0,none⟩=some (.slice none 0 0)∧wr.frozen? ⟨w.heap.size,0,none⟩=false ∧
  wr.cell? ⟨w.heap.size+1,0,none⟩=some v∧wr.frozen? ⟨w.heap.size+1,0,none⟩=false∧w.heap.size+2≤wr.heap.size∧Below w.heap.size w wr) (fun i _=>n - (intOf i).toNat)
 case atStart=>exact ⟨0,.slice none 0 0,[],Nat.zero_le _,rfl,by rw [List.take_zero]; exact Cls.nil _ _,by go_simp,by go_simp,by go_simp,by go_simp,by simp,B0⟩
 case round =>
  rename World=>wo
  obtain ⟨k,v,vs,hk,rfl,V,r0,rf0,r1,rf1,hsz,hb⟩:=hrel
  have hvk:vs.length=k:=by
   rw [V.len,List.length_take,List.length_map,← HN.out.2]; omega
  obtain ⟨va,vc,hv⟩:=V.shape
  have hvl:((cs.map schC).take k).length=k:=by rw [← V.len]; exact hvk
  rw [hvl] at hv
  subst hv
  have HVK:Hid (vs.length=k):=hvk
  clear hvk hvl B0
  by_cases hlt:k < n
  ·obtain ⟨r,hr⟩:∃ r,r=rs[k]?.getD zR:=⟨_,rfl⟩
   have hrk:rs[k]?=some r:=by rw [hr]; exact getD_of (by rw [← HN.out.1]; exact hlt) zR
   obtain ⟨c,hck⟩:∃ c,cs[k]?=some c:=⟨_,List.getElem?_eq_getElem (by rw [← HN.out.2]; exact hlt)⟩
   have hrel:=HE.out k r c hrk hck
   obtain ⟨c0,c1,c2,c3,c4⟩:=(HC.out k hlt).below hb hg
   rw [← hr] at c0 c1 c2 c3 c4
   have hc6:c.fs.length≤6:=H6.out c (List.mem_of_getElem? hck)
   have HS:Hid ((cs.map schC).take (k+1)=(cs.map schC).take k++[(c.l,c.fs.map schF)]):=by
    show _=_; rw [take_step schC hck,schC]
   have hsz0:w.heap.size < wo.heap.size:=by omega
   have hsz1:w.heap.size+1 < wo.heap.size:=by omega
   have BW:Below wo.heap.size wo (wo.alloc (.cells #[.int .u8 r.l,.int .i64 r.p,.int .u8 r.fl,.int .i64 r.fp,.slice r.f.a r.f.n r.f.c] 148)):=(Below.refl _ _).alloc (Nat.le_refl _) _
   have OC:=of_any ((hrel.below hb).below BW) hc6
   have HV:Hid (Cls wo (w.heap.size+2) (.slice va k vc) vs ((cs.map schC).take k)):=V
   have HB:Hid (Below w.heap.size w wo):=hb
   clear hr hrk hck hrel V hb
   go_wp2_with fail
   refine OC.mono ?_
   rintro e w1 ⟨fa,fn,fc,rfl,F1',B1'⟩
   have B1:Below wo.heap.size wo w1:=BW.trans (B1'.mono (by simp))
   have hs1:wo.heap.size+1≤w1.heap.size:=by have:=B1'.size; simpa using this
   have F1:FVb w1 (w.heap.size+2) (SV.val ⟨fa,fn,fc⟩) (c.fs.map schF):=F1'.mono (by simp; omega)
   have V1:=HV.out.below B1
   have V1r:=V1.row
   rw [HVK.out] at V1r
   have e0:w1.cell? ⟨w.heap.size,0,none⟩=some (.slice none 0 0):=(B1.cell (by exact hsz0)).trans r0
   have e1:w1.cell? ⟨w.heap.size+1,0,none⟩=some (.slice va k vc):=(B1.cell (by exact hsz1)).trans r1
   have ef0:w1.frozen? ⟨w.heap.size,0,none⟩=false:=(B1.frozen (by exact hsz0)).trans rf0
   have ef1:w1.frozen? ⟨w.heap.size+1,0,none⟩=false:=(B1.frozen (by exact hsz1)).trans rf1
   have hW0:w.heap.size < w1.heap.size:=by omega
   have hW1:w.heap.size+1 < w1.heap.size:=by omega
   have HB1:Hid (Below w.heap.size w w1):=HB.out.trans (B1.mono HB.out.size)
   clear OC F1' B1' BW
   go_wp2_with (at_builtin; refine wpList_append_own _ rfl _ _ 43 rfl (w.heap.size+2) 99 iC (.agg #[.int .u8 0,.slice none 0 0]) 2 32 Tryz.underlying43 hiC hzC0 hzC1 hzC2 rfl (by decide) _ k (flatC vs) rfl ((V1r.alloc _).alloc _) ⟨w1.heap.size+1,0,none⟩ 1 1 [.int .u8 c.l,.slice fa fn fc] rfl rfl ?c1 ?c2 ?c3 ?c4 ?c5 ?_)
   case c1=>exact cell_pair _ _ _ _ _
   case c2=>intro u hu; simp at hu; rcases hu with rfl | rfl <;> rfl
   case c3=>unfold maxLen; omega
   case c4=>omega
   case c5=>simp; omega
   intro v' w4 hown hgr _
   rw [← HVK.out] at hown
   have hg4:w1.grownBy w4 (Value.ownBlock (.slice va k vc)):=gb_trans (gb_trans (World.grownBy_alloc _ _ _) (World.grownBy_alloc _ _ _)) hgr
   have V4':=V1.app (sv:=⟨fa,fn,fc⟩) F1 hown hg4
   rw [← HS.out] at V4'
   obtain ⟨q0c,q0f,q0l⟩:=own_loc V1r hg4 (r:=w.heap.size) (by omega) hW0
   obtain ⟨q1c,q1f,q1l⟩:=own_loc V1r hg4 (r:=w.heap.size+1) (by omega) hW1
   have g0:w4.cell? ⟨w.heap.size,0,none⟩=some (.slice none 0 0):=by rw [q0c]; exact e0
   have g1:w4.cell? ⟨w.heap.size+1,0,none⟩=some (.slice va k vc):=by rw [q1c]; exact e1
   have gf0:w4.frozen? ⟨w.heap.size,0,none⟩=false:=by rw [q0f]; exact ef0
   have gf1:w4.frozen? ⟨w.heap.size+1,0,none⟩=false:=by rw [q1f]; exact ef1
   have hs4:w.heap.size+2≤w4.heap.size:=by omega
   have B4:Below w.heap.size w w4:=HB1.out.grown hg4 (by omega) (fun x hx=>by have:=(World.ownsRow.lt V1r x hx).1; omega)
   obtain ⟨va',vc',hv'⟩:=V4'.shape
   have hl1:((cs.map schC).take (k+1)).length=k+1:=by rw [List.length_take,List.length_map,← HN.out.2]; omega
   rw [hl1] at hv'
   subst hv'
   have V5:=V4'.kept (gb_set w4 (w.heap.size+1) 0 (.slice va' (k+1) vc')) (by omega)
   have B5:Below w.heap.size w (w4.setCell ⟨w.heap.size+1,0,none⟩ (.slice va' (k+1) vc')):=B4.setCell (by show _≤w.heap.size+1; omega) _
   clear hown hgr hg4 V4' V1 V1r F1 q0c q0f q1c q1f hl1
   go_wp2
   refine ⟨⟨k+1,_,_,by omega,rfl,V5,?_,?_,?_,?_,?_,B5⟩,by simp [intOf]; omega⟩
   ·go_simp
   ·go_simp
   ·go_simp
   ·go_simp
   ·simpa using hs4
  ·obtain rfl:k=n:=by omega
   have hfull:(cs.map schC).take k=cs.map schC:=List.take_of_length_le (by rw [List.length_map,← HN.out.2]; omega)
   rw [hfull] at V
   have hsz0:w.heap.size < wo.heap.size:=by omega
   go_wp2
   refine bodyPost_ret (v:=.agg #[.slice va k vc]) (by simp [results,Tryz.results54,go_sem,r0]) rfl ⟨_,_,_,vs,rfl,?_,?_⟩
   ·exact (V.kept (gb_set _ _ _ _) (by omega)).mono (by omega)
   ·exact hb.setCell (Nat.le_refl _) _
end Go.Proofs.YtbgilndohccicaaGreatDoor
