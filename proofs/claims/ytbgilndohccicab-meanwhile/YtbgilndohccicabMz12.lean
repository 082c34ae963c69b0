import Derived.Test.YtbgilndohccicabMz11
namespace Go.Proofs.Ytbgilndohccicab
open Go.RowKit

/-- A field as it lies in memory: its terms by their slice. -/
structure RFd where
  l : Int
  p : Int
  k : Int
  t : SV
  sp : Int
  ex : Bool
def rfdV (r : RFd) : List Value := [.int .u8 r.l, .int .i64 r.p, .int .u8 r.k, .slice r.t.a r.t.n r.t.c, .int .i64 r.sp, .bool r.ex]
def flatGF (rs : List RFd) : List Value := rs.flatMap rfdV
theorem flatGF_app (a b : List RFd) : flatGF (a ++ b) = flatGF a ++ flatGF b := by simp [flatGF]
structure FRel (w : World) (base : Nat) (r : RFd) (f : GFd) : Prop where
  l : r.l = f.l
  p : r.p = f.p
  k : r.k = f.k
  sp : r.sp = f.sp
  ex : r.ex = f.ex
  ts : TVb w base (.slice r.t.a r.t.n r.t.c) f.ts
/-- v is a slice of fields, made since base. -/
structure GFs (w : World) (base : Nat) (v : Value) (rs : List RFd) (fs : List GFd) : Prop where
  row : w.ownsRow base 162 6 v rs.length (flatGF rs)
  len : rs.length = fs.length
  el : ∀ (i : Nat) (r : RFd) (f : GFd), rs[i]? = some r → fs[i]? = some f → FRel w base r f
theorem GFs.nil (w : World) (base : Nat) : GFs w base (.slice none 0 0) [] [] := ⟨World.ownsRow_nil _ _ _ _, rfl, fun i r f h _ => by simp at h⟩
theorem FRel.kept {w w' : World} {base b : Nat} {r : RFd} {f : GFd} (h : FRel w base r f) (g : w.grownBy w' (some b)) (hb : b < base) : FRel w' base r f := ⟨h.l, h.p, h.k, h.sp, h.ex, h.ts.kept g hb⟩
theorem FRel.mono {w : World} {base base' : Nat} {r : RFd} {f : GFd} (h : FRel w base r f) (hb : base' ≤ base) : FRel w base' r f := ⟨h.l, h.p, h.k, h.sp, h.ex, h.ts.mono hb⟩
theorem GFs.kept {w w' : World} {base b : Nat} {v : Value} {rs : List RFd} {fs : List GFd} (h : GFs w base v rs fs) (g : w.grownBy w' (some b)) (hb : b < base) : GFs w' base v rs fs :=
  ⟨row_kept h.row g hb, h.len, fun i r f h1 h2 => (h.el i r f h1 h2).kept g hb⟩
theorem GFs.mono {w : World} {base base' : Nat} {v : Value} {rs : List RFd} {fs : List GFd} (h : GFs w base v rs fs) (hb : base' ≤ base) : GFs w base' v rs fs :=
  ⟨row_mono h.row hb, h.len, fun i r f h1 h2 => (h.el i r f h1 h2).mono hb⟩
theorem GFs.alloc {w : World} {base : Nat} {v : Value} {rs : List RFd} {fs : List GFd} (h : GFs w base v rs fs) (o : Obj) : GFs (w.alloc o) base v rs fs :=
  ⟨h.row.alloc o, h.len, fun i r f h1 h2 => ⟨(h.el i r f h1 h2).l, (h.el i r f h1 h2).p, (h.el i r f h1 h2).k, (h.el i r f h1 h2).sp, (h.el i r f h1 h2).ex, (h.el i r f h1 h2).ts.alloc o⟩⟩
theorem GFs.below {w w' : World} {base : Nat} {v : Value} {rs : List RFd} {fs : List GFd} (h : GFs w base v rs fs) (hb : Below w.heap.size w w') : GFs w' base v rs fs :=
  ⟨World.ownsRow.kept h.row (gb_below hb none) (by cases hv : v.ownBlock <;> simp), h.len, fun i r f h1 h2 =>
    ⟨(h.el i r f h1 h2).l, (h.el i r f h1 h2).p, (h.el i r f h1 h2).k, (h.el i r f h1 h2).sp, (h.el i r f h1 h2).ex, World.ownsRow.kept (h.el i r f h1 h2).ts (gb_below hb none) (by cases hv : Value.ownBlock (.slice r.t.a r.t.n r.t.c) <;> simp)⟩⟩
theorem GFs.shape {w : World} {base : Nat} {v : Value} {rs : List RFd} {fs : List GFd} (h : GFs w base v rs fs) : ∃ a c, v = .slice a fs.length c := by
  rw [← h.len]
  rcases h.row.2 with ⟨rfl, hn⟩ | ⟨g, cap, cur, rfl, _⟩
  · exact ⟨none, 0, by rw [hn]⟩
  · exact ⟨_, _, rfl⟩
theorem cells_list (w : World) (o : Obj) (l : List Value) (T : TypeId) : ∀ (j : Nat) (u : Value), l[j]? = some u → ((w.alloc o).alloc (.cells l.toArray T)).cell? ((⟨w.heap.size + 1, 0, none⟩ : Addr).add j) = some u := by
  intro j u hj
  have e : (⟨w.heap.size + 1, 0, none⟩ : Addr).add j = ⟨w.heap.size + 1, j, none⟩ := by unfold Addr.add; split <;> simp_all
  have h := World.cell?_alloc_mark (w.alloc o) l.toArray T (0, 0) j
  have hz : (w.alloc o).heap.size = w.heap.size + 1 := by simp
  rw [hz] at h
  rw [e, h]; simpa using hj
/-- One field more. -/
theorem GFs.app {w1 w2 : World} {base : Nat} {v v' : Value} {rs : List RFd} {fs : List GFd} {r : RFd} {f : GFd} {o1 o2 : Obj} (V : GFs w1 base v rs fs) (F : FRel w1 base r f)
    (hown : w2.ownsRow base 162 6 v' (rs.length + 1) (flatGF rs ++ rfdV r)) (hg : ((w1.alloc o1).alloc o2).grownBy w2 v.ownBlock) : GFs w2 base v' (rs ++ [r]) (fs ++ [f]) := by
  have hg1 : w1.grownBy w2 v.ownBlock := gb_trans (gb_trans (World.grownBy_alloc w1 o1 _) (World.grownBy_alloc _ o2 _)) hg
  have hk : ∀ r f, FRel w1 base r f → FRel w2 base r f := fun r f h => ⟨h.l, h.p, h.k, h.sp, h.ex, World.ownsRow.kept h.ts hg1 (row_apart h.ts V.row (by decide))⟩
  have hl := V.len
  refine ⟨by simpa [flatGF] using hown, by simp [hl], fun i r' f' h1 h2 => ?_⟩
  rcases Nat.lt_or_ge i rs.length with hi | hi
  · rw [List.getElem?_append_left hi] at h1
    rw [List.getElem?_append_left (by omega)] at h2
    exact hk _ _ (V.el i r' f' h1 h2)
  · rw [List.getElem?_append_right hi] at h1
    rw [List.getElem?_append_right (by omega)] at h2
    have hi0 : i - rs.length = 0 := by
      have := (List.getElem?_eq_some_iff.1 h1).1; simp at this; omega
    have hj0 : i - fs.length = 0 := by omega
    rw [hi0] at h1; rw [hj0] at h2
    simp at h1 h2
    subst h1; subst h2
    exact hk _ _ F
/-- What an append to a slice of ours leaves alone. -/
theorem own_frame {w w1 w2 : World} {b a : Nat} {s : ByteArray} {u : Bool} {base : Nat} {e : TypeId} {sz : Nat} {v : Value} {n : Nat} {xs : List Value} {o1 o2 : Obj} (hb : b < base) (hbase : w.heap.size ≤ base) (R1 : RS w1 b s a u) (V1 : w1.ownsRow base e sz v n xs) (G1 : w.grownBy w1 (some b))
    (hg : ((w1.alloc o1).alloc o2).grownBy w2 v.ownBlock) : RS w2 b s a u ∧ w.grownBy w2 (some b) := by
  have hr : ∀ x, v.ownBlock = some x → base ≤ x := fun x hx => (World.ownsRow.lt V1 x hx).1
  have hg1 : w1.grownBy w2 v.ownBlock := gb_trans (gb_trans (World.grownBy_alloc w1 o1 _) (World.grownBy_alloc _ o2 _)) hg
  have hne : ∀ k, k < base → some k ≠ v.ownBlock := fun k hk e => by have := hr k e.symm; omega
  exact ⟨R1.kept hg1 (hne b hb), ⟨hg1.os.trans G1.os, hg1.tape.trans G1.tape, hg1.output.trans G1.output, Nat.le_trans G1.size hg1.size, fun k hk hn => (hg1.block k (Nat.lt_of_lt_of_le hk G1.size) (hne k (by omega))).trans (G1.block k hk hn)⟩⟩

theorem Try.infoGField : (Try.prog.info? 162).map (fun i => (i.zero, i.size, i.bytes)) = some (some (.agg #[.int .u8 0, .int .i64 0, .int .u8 0, .slice none 0 0, .int .i64 0, .bool false]), 6, 64) := by kernel_rfl
theorem infoParts2 {P : Program} {e : TypeId} {z : Option Value} {s b : Nat} (h : (P.info? e).map (fun i => (i.zero, i.size, i.bytes)) = some (z, s, b)) : ∃ i, P.info? e = some i ∧ i.zero = z ∧ i.size = s ∧ i.bytes = b := by
  cases hi : P.info? e with
  | none => rw [hi] at h; simp at h
  | some i => rw [hi] at h; simp at h; exact ⟨i, rfl, h.1, h.2.1, h.2.2⟩

structure GSR where
  ok : Bool
  at_ : Nat
  fs : List GFd
def gdLoop (ru : ByteArray → Nat → RuleR) (s : ByteArray) : Nat → List GFd → Nat → GSR
  | 0, _, k => ⟨false, k, []⟩
  | n + 1, fs, k =>
    if (gdField ru s k).ok = false then ⟨false, (gdField ru s k).at_, []⟩
    else if nextB s (gdField ru s k).at_ = 125 then ⟨true, (gdField ru s k).at_ + 1, fs ++ [(gdField ru s k).f]⟩
    else if fs.length = 5 ∨ nextB s (gdField ru s k).at_ ≠ 44 then ⟨false, (gdField ru s k).at_, []⟩
    else gdLoop ru s n (fs ++ [(gdField ru s k).f]) ((gdField ru s k).at_ + 1)
def gdFields (ru : ByteArray → Nat → RuleR) (s : ByteArray) (k : Nat) : GSR := if nextB s k = 125 then ⟨true, k + 1, []⟩ else gdLoop ru s 6 [] k
def FieldsPost (R : GSR) (w : World) (b : Nat) (s : ByteArray) (u : Bool) (e : Ending) (w' : World) : Prop := ∃ (a : Option Addr) (n c : Nat) (rs : List RFd),
  e = .returned (.tuple #[.slice a n c, .bool R.ok]) ∧ GFs w' w.heap.size (.slice a n c) rs R.fs ∧ RS w' b s R.at_ u ∧ w.grownBy w' (some b)

set_option maxHeartbeats 1000000 in
set_option maxRecDepth 20000 in
theorem gfields_any {u : Bool} {ru : ByteArray → Nat → RuleR} (HRU : RuleC u ru) (s : ByteArray) (b k : Nat) (w : World) (h : RS w b s k u) :
    Calls Try.prog 105 #[.pointer (some ⟨b, 0, none⟩)] w (FieldsPost (gdFields ru s k) w b s u) := by
  obtain ⟨i0, hi, hz0, hz1, hz2⟩ := infoParts2 Try.infoGField
  have hb := h.blt
  by_cases h0 : nextB s k = 125
  · have e : gdFields ru s k = ⟨true, k + 1, []⟩ := by unfold gdFields; rw [if_pos h0]
    rw [e]; clear e
    have hb1 : (nextB s k == 125) = true := by simpa using h0
    go_enter Try.func105, Try.ntmps105
    go_wp2_with fail
    refine (take_rs h (by omega) true hb1).mono ?_
    rintro e w1 ⟨rfl, R1, hg1⟩
    go_wp2
    go_ret2
    exact ⟨_, _, _, [], rfl, GFs.nil _ _, R1, hg1⟩
  · have e : gdFields ru s k = gdLoop ru s 6 [] k := by unfold gdFields; rw [if_neg h0]
    rw [e]; clear e
    have hb1 : (nextB s k == 125) = false := by simpa using h0
    obtain ⟨R, hR⟩ : ∃ R, R = gdLoop ru s 6 [] k := ⟨_, rfl⟩
    rw [← hR]
    have HR : Hid (R = gdLoop ru s 6 [] k) := hR
    clear hR h0
    go_enter Try.func105, Try.ntmps105
    go_wp2_with fail
    refine (take_rs h (by omega) false hb1).mono ?_
    rintro e w1 ⟨rfl, R1', hg1⟩
    simp only [Bool.false_eq_true, if_false] at R1'
    have R1 : RS w1 b s k u := R1'
    clear R1'
    go_wp2
    go_loopg [4] 6 (fun gk v wr => ∃ fs rs k, gk = 6 - fs.length ∧ fs.length < 6 ∧ R = gdLoop ru s gk fs k ∧ RS wr b s k u ∧ GFs wr w.heap.size v rs fs ∧ w.grownBy wr (some b))
    case atStart => exact ⟨[], [], k, rfl, by decide, HR.out, R1, GFs.nil _ _, hg1⟩
    case round =>
      obtain ⟨fs, rs, k, hgk, hlen, hR', R0, V0, G0⟩ := hrel
      have Fc := gfield_any HRU s b k wr R0
      obtain ⟨ok, a, f, hr⟩ : ∃ ok a f, gdField ru s k = ⟨ok, a, f⟩ := ⟨_, _, _, rfl⟩
      obtain ⟨n', rfl⟩ : ∃ n', gk = n' + 1 := ⟨gk - 1, by omega⟩
      rw [gdLoop, hr] at hR'
      rw [hr] at Fc
      simp only [] at hR' Fc
      obtain ⟨ad, cp, rfl⟩ := V0.shape
      have hs0 := G0.size
      clear hr
      have HK : Hid (n' + 1 = 6 - fs.length) := hgk
      clear hgk R1 hb1 HR
      cases ok with
      | false =>
        rw [if_pos rfl] at hR'
        subst hR'
        go_wp2_with fail
        refine Fc.mono ?_
        rintro e w1 ⟨a1, n1, c1, rfl, T1, R1, g1⟩
        simp only [fieldV] at R1 T1 ⊢
        have G1 := gb_trans G0 g1
        clear Fc
        go_wp2
        go_ret2
        exact ⟨_, _, _, [], rfl, GFs.nil _ _, R1.alloc _, gb_alloc G1 _⟩
      | true =>
        rw [if_neg (by decide)] at hR'
        have HR : Hid (R = _) := hR'
        clear hR'
        go_wp2_with fail
        refine Fc.mono ?_
        rintro e w1 ⟨a1, n1, c1, rfl, T1', R1, g1⟩
        simp only [fieldV] at R1 T1' ⊢
        have T1 := T1'.mono hs0
        have V1 := V0.kept g1 hb
        have G1 := gb_trans G0 g1
        have hs1 := G1.size
        have hvl : rs.length = fs.length := V1.len
        clear Fc V0 T1' g1
        have F1 : FRel w1 w.heap.size ⟨f.l, f.p, f.k, ⟨a1, n1, c1⟩, f.sp, f.ex⟩ f := ⟨rfl, rfl, rfl, rfl, rfl, T1⟩
        have V1r := V1.row
        rw [hvl] at V1r
        have HVL : Hid (rs.length = fs.length) := hvl
        clear hvl
        go_wp2_with (at_builtin; refine wpList_append_own _ rfl _ _ 154 rfl w.heap.size 162 i0 _ 6 64 Try.underlying154 hi hz0 hz1 hz2 rfl (by decide) _ fs.length (flatGF rs) rfl ((V1r.alloc _).alloc _) ⟨w1.heap.size + 1, 0, none⟩ 1 1 (rfdV ⟨f.l, f.p, f.k, ⟨a1, n1, c1⟩, f.sp, f.ex⟩) rfl rfl ?c1 ?c2 ?c3 ?c4 ?c5 ?_)
        case c1 => exact cells_list _ _ _ _
        case c2 => intro y hy; simp [rfdV] at hy; rcases hy with rfl | rfl | rfl | rfl | rfl | rfl <;> rfl
        case c3 => unfold maxLen; omega
        case c4 => omega
        case c5 => simp; omega
        intro v' w2 hown hgr _
        rw [← HVL.out] at hown
        have V2 := V1.app F1 hown hgr
        obtain ⟨R2, G2⟩ := own_frame hb (Nat.le_refl _) R1 V1r G1 hgr
        obtain ⟨ad', cp', hv'⟩ := V2.shape
        have hl1 : (fs ++ [f]).length = fs.length + 1 := by simp
        rw [hl1] at hv'
        subst hv'
        clear hown hgr V1 V1r R1 F1 T1 hl1 HVL
        by_cases h125 : nextB s a = 125
        · have HR2 := HR.out
          rw [if_pos h125] at HR2
          subst HR2
          have hb1 : (nextB s a == 125) = true := by simpa using h125
          clear h125
          go_wp2_with fail
          refine (take_rs R2 (by omega) true hb1).mono ?_
          rintro e w3 ⟨rfl, R3, g3⟩
          have V3 := V2.kept g3 hb
          have G3 := gb_trans G2 g3
          simp only [if_true] at R3
          clear V2 g3 G2 R2
          go_wp2
          go_ret2
          exact ⟨_, _, _, _, rfl, V3, R3, G3⟩
        have hb1 : (nextB s a == 125) = false := by simpa using h125
        have HR2 := HR.out
        rw [if_neg h125] at HR2
        clear h125 HR
        by_cases h5 : fs.length = 5
        · rw [if_pos (.inl h5)] at HR2
          subst HR2
          go_wp2_with fail
          refine (take_rs R2 (by omega) false hb1).mono ?_
          rintro e w3 ⟨rfl, R3, g3⟩
          have G3 := gb_trans G2 g3
          simp only [Bool.false_eq_true, if_false] at R3
          have h5' : 5 ≤ fs.length := by omega
          clear V2 g3 G2 R2 h5
          go_wp2
          go_ret2
          exact ⟨_, _, _, [], rfl, GFs.nil _ _, R3, G3⟩
        have h6 : fs.length < 5 := by omega
        by_cases h44 : nextB s a = 44
        · rw [if_neg (by simp [h5, h44])] at HR2
          have hlt : a < s.size := nextB_pos (by omega)
          have HR : Hid (R = _) := HR2
          clear HR2
          go_wp2_with fail
          refine (take_rs R2 (by omega) false hb1).mono ?_
          rintro e w3 ⟨rfl, R3', g3⟩
          simp only [Bool.false_eq_true, if_false] at R3'
          have R3 : RS w3 b s a u := R3'
          have V3 := V2.kept g3 hb
          have G3 := gb_trans G2 g3
          clear V2 g3 G2 R2 R3'
          go_wp2_with fail
          refine (next_rs R3).mono ?_
          rintro e w' ⟨rfl, n2, rfl⟩
          obtain ⟨c0, c1, c2, _, f1, f3, le, lt⟩ := id R3
          have R4 := (R3.drewN n2).inc hlt
          have G4 := gb_setB (gb_drew G3 n2) 1 (.int .i64 ((a : Int) + 1))
          have V4 := (V3.kept (gb_drewN w3 n2 (some b)) hb).kept (gb_set (w3.drewN n2) b 1 (.int .i64 ((a : Int) + 1))) hb
          clear R3 G3 V3
          go_wp2
          go_roundg n'
          case measure => omega
          case rel =>
            have hk := HK.out
            exact ⟨fs ++ [f], _, a + 1, by simp; omega, by simp; omega, HR.out, R4, V4, G4⟩
        · rw [if_pos (.inr h44)] at HR2
          subst HR2
          have h44' : (nextB s a == 44) = false := by simpa using h44
          have h44'' : (nextB s a != 44) = true := by simpa using h44
          go_wp2_with fail
          refine (take_rs R2 (by omega) false hb1).mono ?_
          rintro e w3 ⟨rfl, R3', g3⟩
          simp only [Bool.false_eq_true, if_false] at R3'
          have R3 : RS w3 b s a u := R3'
          have G3 := gb_trans G2 g3
          clear V2 g3 G2 R2 R3'
          go_wp2_with fail
          refine (next_rs R3).mono ?_
          rintro e w' ⟨rfl, n2, rfl⟩
          go_wp2
          go_ret2
          exact ⟨_, _, _, [], rfl, GFs.nil _ _, R3.drewN n2, gb_drew G3 n2⟩
end Go.Proofs.Ytbgilndohccicab
