/- The law's own comparison of two tables. -/
import Derived.Test.YtjkcglgkdclidaaVTableTd
import Derived.Test.YtjkcglgkdclidaaVTableH
set_option linter.unusedVariables false
set_option linter.unusedSimpArgs false
set_option maxRecDepth 100000
set_option maxHeartbeats 8000000
namespace Go.Proofs.Ytjkcglgkdclidaa
open Go Go.RowKit Go.Proofs
def veq (a b c x y z : Int) : Bool := a == x && b == y && c == z
theorem veq_iff (a b c x y z : Int) : veq a b c x y z = true ↔ (a, b, c) = (x, y, z) := by
 unfold veq; simp [and_assoc]
theorem getD_ext {α : Type} {d : α} {a b : List α} (hl : a.length = b.length) (h : ∀ i, i < a.length -> a.getD i d = b.getD i d) : a = b := by
 refine List.ext_getElem hl fun i h1 h2 => ?_
 have := h i h1
 rw [List.getD_eq_getElem?_getD, List.getD_eq_getElem?_getD, List.getElem?_eq_getElem h1, List.getElem?_eq_getElem h2] at this
 exact this
theorem getD_at {α : Type} {d : α} {l : List α} {i : Nat} (h : i < l.length) : l[i]? = some (l.getD i d) := by
 rw [List.getD_eq_getElem?_getD, List.getElem?_eq_getElem h]; rfl
theorem below_drewQ {w w' : World} {n : Nat} (h : Below n w w') (k : Nat) : Below n w (w'.drewN k) := ⟨h.os, h.tape, h.output, h.size, h.block⟩
@[go_sem] theorem eqVec (a b c x y z : Int) (w : World) : (Op.equalIn 10000 45 (.agg #[.int .i64 a, .int .i64 b, .int .i64 c]) (.agg #[.int .i64 x, .int .i64 y, .int .i64 z])).run Try.prog w = .ok (veq a b c x y z) w := by
 have u3 := Try.underlying3
 have a3 := Try.isAgg3
 have z3 := Try.sizeOf3
 rw [show (10000 : Nat) = 9999 + 1 from rfl, Op.equalIn]
 simp only [Sem.run_bind, run_underlying Try.underlying45, Result.andThen_ok]
 simp only [Std.Legacy.Range.forIn_eq_forIn_range', Std.Legacy.Range.size, Nat.sub_zero, Nat.add_sub_cancel, Nat.div_one, List.range'_succ, List.range'_zero, List.forIn_cons, List.forIn_nil]
 unfold veq
 go_simp
 by_cases h1 : a = x <;> by_cases h2 : b = y <;> by_cases h3 : c = z <;> simp [h1, h2, h3]
theorem tsame_any {w : World} {ac al abn abo afn afe bc bl bbn bbo bfn bfe : Value} {t u : Tab} {m2 m4 : Nat} (ht : TabR w ac al abn abo afn afe t) (hu : TabR w bc bl bbn bbo bfn bfe u) (h2a : t.bn.length = m2) (h2b : u.bn.length = m2) (h4a : t.fn.length = m4) (h4b : u.fn.length = m4) (h5a : t.fe.length = m4) (h5b : u.fe.length = m4) (hr : ∀ i, i < m4 -> (t.fe.getD i []).length = (u.fe.getD i []).length) :
  Calls Try.prog 25 #[.agg #[ac, al, abn, abo, afn, afe], .agg #[bc, bl, bbn, bbo, bfn, bfe]] w fun e w' => ∃ r, e = .returned (.bool r) /\ (r = true ↔ t = u) /\ Below w.heap.size w w' := by
  obtain ⟨A0a, k0a, rfl, -, -, -⟩ := ht.c.form
  obtain ⟨A1a, k1a, rfl, -, -, -⟩ := ht.l.form
  obtain ⟨A2a, k2a, ee, le2a, lt2a⟩ := ht.bn.form
  subst ee
  obtain ⟨A3a, k3a, rfl, -, -, -⟩ := ht.bo.form
  obtain ⟨A4a, k4a, ee, le4a, lt4a⟩ := ht.fn.form
  subst ee
  obtain ⟨A5a, k5a, ee, le5a, lt5a⟩ := ht.fe.form
  subst ee
  obtain ⟨m0a, hm0a⟩ : ∃ m, t.cuts.length = m := ⟨_, rfl⟩
  have HM0a := Lib.hid hm0a
  rw [hm0a] at ht ⊢
  clear hm0a
  obtain ⟨m1a, hm1a⟩ : ∃ m, t.letters.length = m := ⟨_, rfl⟩
  have HM1a := Lib.hid hm1a
  rw [hm1a] at ht ⊢
  clear hm1a
  obtain ⟨m3a, hm3a⟩ : ∃ m, t.bo.length = m := ⟨_, rfl⟩
  have HM3a := Lib.hid hm3a
  rw [hm3a] at ht ⊢
  clear hm3a
  rw [h2a, h4a, h5a] at ht ⊢
  rw [h2a] at le2a
  rw [h4a] at le4a
  rw [h5a] at le5a
  obtain ⟨A0b, k0b, rfl, -, -, -⟩ := hu.c.form
  obtain ⟨A1b, k1b, rfl, -, -, -⟩ := hu.l.form
  obtain ⟨A2b, k2b, ee, le2b, lt2b⟩ := hu.bn.form
  subst ee
  obtain ⟨A3b, k3b, rfl, -, -, -⟩ := hu.bo.form
  obtain ⟨A4b, k4b, ee, le4b, lt4b⟩ := hu.fn.form
  subst ee
  obtain ⟨A5b, k5b, ee, le5b, lt5b⟩ := hu.fe.form
  subst ee
  obtain ⟨m0b, hm0b⟩ : ∃ m, u.cuts.length = m := ⟨_, rfl⟩
  have HM0b := Lib.hid hm0b
  rw [hm0b] at hu ⊢
  clear hm0b
  obtain ⟨m1b, hm1b⟩ : ∃ m, u.letters.length = m := ⟨_, rfl⟩
  have HM1b := Lib.hid hm1b
  rw [hm1b] at hu ⊢
  clear hm1b
  obtain ⟨m3b, hm3b⟩ : ∃ m, u.bo.length = m := ⟨_, rfl⟩
  have HM3b := Lib.hid hm3b
  rw [hm3b] at hu ⊢
  clear hm3b
  rw [h2b, h4b, h5b] at hu ⊢
  rw [h2b] at le2b
  rw [h4b] at le4b
  rw [h5b] at le5b
  obtain ⟨ba, hba⟩ : ∃ b, w.heap.size = b := ⟨_, rfl⟩
  obtain ⟨W0, hW0⟩ : ∃ W, w.alloc (.cells #[.slice A0a m0a k0a, .slice A1a m1a k1a, .slice A2a m2 k2a, .slice A3a m3a k3a, .slice A4a m4 k4a, .slice A5a m4 k5a] 31) = W := ⟨_, rfl⟩
  obtain ⟨W1, hV0⟩ : ∃ W, W0.alloc (.cells #[.slice A0b m0b k0b, .slice A1b m1b k1b, .slice A2b m2 k2b, .slice A3b m3b k3b, .slice A4b m4 k4b, .slice A5b m4 k5b] 31) = W := ⟨_, rfl⟩
  have hb0 : Below w.heap.size w W0 := by rw [<- hW0]; exact (Below.refl _ _).alloc (Nat.le_refl _) _
  have hb1 : Below W0.heap.size W0 W1 := by rw [<- hV0]; exact (Below.refl _ _).alloc (Nat.le_refl _) _
  have hs1 : W0.heap.size = ba + 1 := by rw [<- hW0, World.size_alloc, hba]
  have xa0 : Blk W0 ba 31 #[.slice A0a m0a k0a, .slice A1a m1a k1a, .slice A2a m2 k2a, .slice A3a m3a k3a, .slice A4a m4 k4a, .slice A5a m4 k5a] := by rw [<- hW0]; exact Blk.newAt _ hba _ _
  have XB : Hid (Blk W1 (ba + 1) 31 #[.slice A0b m0b k0b, .slice A1b m1b k1b, .slice A2b m2 k2b, .slice A3b m3b k3b, .slice A4b m4 k4b, .slice A5b m4 k5b]) := Lib.hid (by rw [<- hV0]; exact Blk.newAt _ hs1 _ _)
  have XA : Hid (Blk W1 ba 31 #[.slice A0a m0a k0a, .slice A1a m1a k1a, .slice A2a m2 k2a, .slice A3a m3a k3a, .slice A4a m4 k4a, .slice A5a m4 k5a]) := Lib.hid (Blk.below xa0 hb1 xa0.lt)
  have hb := hb0.trans (hb1.mono hb0.size)
  have HT := Lib.hid (ht.below hb); have HU := Lib.hid (hu.below hb); have HB := Lib.hid hb
  have HV0 := Lib.hid hV0; have HW0 := Lib.hid hW0; have EA := Lib.hid hba; have HS1 := Lib.hid hs1
  have HRE := Lib.hid hr
  have HH := Lib.hid (And.intro h2a (And.intro h4a h5a))
  have a0 := XA.out.cell 0
  have a1 := XA.out.cell 1
  have a2 := XA.out.cell 2
  have a3 := XA.out.cell 3
  have a4 := XA.out.cell 4
  have a5 := XA.out.cell 5
  have b0 := XB.out.cell 0
  have b1 := XB.out.cell 1
  have b2 := XB.out.cell 2
  have b3 := XB.out.cell 3
  have b4 := XB.out.cell 4
  have b5 := XB.out.cell 5
  simp only [List.getElem?_toArray, List.getElem?_cons_zero, List.getElem?_cons_succ] at a0 b0 a1 b1 a2 b2 a3 b3 a4 b4 a5 b5
  rw [<- HV0.out, <- HW0.out, <- EA.out] at a0 b0 a1 b1 a2 b2 a3 b3 a4 b4 a5 b5
  clear ht hu hr hV0 hW0 hba hb0 hb1 hb xa0 hs1
  go_enter Try.func25, Try.ntmps25
  go_wp2_with fail
  rw [HW0.out, HV0.out]
  try simp only [EA.out, HS1.out]
  clear a0 b0 a1 b1 a2 b2 a3 b3 a4 b4 a5 b5
  refine (tints_any HT.out.c HU.out.c).mono ?_
  rintro e W5 ⟨r0, rfl, hr0, hb⟩
  replace HT := Lib.hid (HT.out.below hb)
  replace HU := Lib.hid (HU.out.below hb)
  replace XA := Lib.hid (Blk.below XA.out hb XA.out.lt)
  replace XB := Lib.hid (Blk.below XB.out hb XB.out.lt)
  replace HB := Lib.hid (HB.out.trans (hb.mono HB.out.size))
  clear hb
  have HR0 := Lib.hid hr0
  clear hr0
  have a0 := XA.out.cell 0
  have a1 := XA.out.cell 1
  have a2 := XA.out.cell 2
  have a3 := XA.out.cell 3
  have a4 := XA.out.cell 4
  have a5 := XA.out.cell 5
  have b0 := XB.out.cell 0
  have b1 := XB.out.cell 1
  have b2 := XB.out.cell 2
  have b3 := XB.out.cell 3
  have b4 := XB.out.cell 4
  have b5 := XB.out.cell 5
  simp only [List.getElem?_toArray, List.getElem?_cons_zero, List.getElem?_cons_succ] at a0 b0 a1 b1 a2 b2 a3 b3 a4 b4 a5 b5
  cases r0 with
  | false =>
    go_wp2_with fail
    go_ret
    exact ⟨false, rfl, ⟨(fun e => by cases e), fun e => absurd e (fun e => by have := HR0.out.2 (by rw [e]); cases this)⟩, HB.out⟩
  | true =>
    go_wp2_with fail
    refine (tints_any HT.out.l HU.out.l).mono ?_
    rintro e W6 ⟨r1, rfl, hr1, hb⟩
    replace HT := Lib.hid (HT.out.below hb)
    replace HU := Lib.hid (HU.out.below hb)
    replace XA := Lib.hid (Blk.below XA.out hb XA.out.lt)
    replace XB := Lib.hid (Blk.below XB.out hb XB.out.lt)
    replace HB := Lib.hid (HB.out.trans (hb.mono HB.out.size))
    clear hb
    have HR1 := Lib.hid hr1
    clear hr1
    have a0 := XA.out.cell 0
    have a1 := XA.out.cell 1
    have a2 := XA.out.cell 2
    have a3 := XA.out.cell 3
    have a4 := XA.out.cell 4
    have a5 := XA.out.cell 5
    have b0 := XB.out.cell 0
    have b1 := XB.out.cell 1
    have b2 := XB.out.cell 2
    have b3 := XB.out.cell 3
    have b4 := XB.out.cell 4
    have b5 := XB.out.cell 5
    simp only [List.getElem?_toArray, List.getElem?_cons_zero, List.getElem?_cons_succ] at a0 b0 a1 b1 a2 b2 a3 b3 a4 b4 a5 b5
    cases r1 with
    | false =>
      go_wp2_with fail
      go_ret
      exact ⟨false, rfl, ⟨(fun e => by cases e), fun e => absurd e (fun e => by have := HR1.out.2 (by rw [e]); cases this)⟩, HB.out⟩
    | true =>
      go_wp2_with fail
      refine (tints_any HT.out.bo HU.out.bo).mono ?_
      rintro e V0 ⟨r3, rfl, hr3, hb⟩
      replace HT := Lib.hid (HT.out.below hb)
      replace HU := Lib.hid (HU.out.below hb)
      replace XA := Lib.hid (Blk.below XA.out hb XA.out.lt)
      replace XB := Lib.hid (Blk.below XB.out hb XB.out.lt)
      replace HB := Lib.hid (HB.out.trans (hb.mono HB.out.size))
      clear hb
      have HR3 := Lib.hid hr3
      clear hr3
      have a0 := XA.out.cell 0
      have a1 := XA.out.cell 1
      have a2 := XA.out.cell 2
      have a3 := XA.out.cell 3
      have a4 := XA.out.cell 4
      have a5 := XA.out.cell 5
      have b0 := XB.out.cell 0
      have b1 := XB.out.cell 1
      have b2 := XB.out.cell 2
      have b3 := XB.out.cell 3
      have b4 := XB.out.cell 4
      have b5 := XB.out.cell 5
      simp only [List.getElem?_toArray, List.getElem?_cons_zero, List.getElem?_cons_succ] at a0 b0 a1 b1 a2 b2 a3 b3 a4 b4 a5 b5
      cases r3 with
      | false =>
        go_wp2_with fail
        go_ret
        exact ⟨false, rfl, ⟨(fun e => by cases e), fun e => absurd e (fun e => by have := HR3.out.2 (by rw [e]); cases this)⟩, HB.out⟩
      | true =>
        have HT0 := HT; have HU0 := HU; have XA0 := XA; have XB0 := XB; have HB0 := HB
        have HBV : Hid (Below V0.heap.size V0 V0) := Lib.hid (Below.refl _ _)
        clear HT HU XA XB HB
        go_wp2_with fail
        clear a0 b0 a1 b1 a2 b2 a3 b3 a4 b4 a5 b5
        have mm2 : m2 <= 9223372036854775807 := by omega
        go_loopw [5] (fun vi wr => ∃ i : Nat, vi = .int .i64 (i : Int) /\ i <= m2 /\ Hid (∀ j, j < i -> t.bn.getD j [] = u.bn.getD j []) /\ Hid (Below V0.heap.size V0 wr)) (fun vi _ => m2 - (intOf vi).toNat)
        case atStart => exact ⟨0, rfl, Nat.zero_le _, Lib.hid (fun j hj => absurd hj (Nat.not_lt_zero j)), HBV⟩
        case round =>
         clear HBV
         obtain ⟨i, rfl, hi, HJ, HBV⟩ := hrel
         have i0 : (0 : Int) <= (i : Int) := Int.natCast_nonneg _
         have XA := Lib.hid (Blk.below XA0.out HBV.out XA0.out.lt); have XB := Lib.hid (Blk.below XB0.out HBV.out XB0.out.lt)
         have a0 := XA.out.cell 0
         have a1 := XA.out.cell 1
         have a2 := XA.out.cell 2
         have a3 := XA.out.cell 3
         have a4 := XA.out.cell 4
         have a5 := XA.out.cell 5
         have b0 := XB.out.cell 0
         have b1 := XB.out.cell 1
         have b2 := XB.out.cell 2
         have b3 := XB.out.cell 3
         have b4 := XB.out.cell 4
         have b5 := XB.out.cell 5
         simp only [List.getElem?_toArray, List.getElem?_cons_zero, List.getElem?_cons_succ] at a0 b0 a1 b1 a2 b2 a3 b3 a4 b4 a5 b5
         by_cases hlt : i < m2
         ·have i1 : (i : Int) < (m2 : Int) := by omega
          obtain ⟨g, o, A8, m8, c8, ea, hk8, hcA, hrA, -, -⟩ := (show RowsI wr (.slice A2a m2 k2a) t.bn from HT0.out.bn.below HBV.out).at_ (i := i) (by rw [h2a]; exact hlt)
          obtain ⟨g', o', A9, m9, c9, eb, hk9, hcB, hrB, -, -⟩ := (show RowsI wr (.slice A2b m2 k2b) u.bn from HU0.out.bn.below HBV.out).at_ (i := i) (by rw [h2b]; exact hlt)
          subst ea eb
          obtain ⟨V1, hV1⟩ : ∃ V, wr.drew = V := ⟨_, rfl⟩
          have hd : Below wr.heap.size wr V1 := by rw [<- hV1]; exact (Below.refl _ _).drew
          have HCI := Lib.hid (tints_any (hrA.below hd) (hrB.below hd))
          have hS : (fun W : World => W.cell? ⟨ba, 2, none⟩ = some (.slice (some ⟨g, o, none⟩) m2 k2a) /\ W.cell? ⟨ba + 1, 2, none⟩ = some (.slice (some ⟨g', o', none⟩) m2 k2b) /\ W.cell? ⟨g, o + i, none⟩ = some (.slice A8 m8 c8) /\ W.cell? ⟨g', o' + i, none⟩ = some (.slice A9 m9 c9)) V1 := ⟨bel_m hd a2, bel_m hd b2, bel_m hd hcA, bel_m hd hcB⟩
          have HKS : Hid (∀ W, Below V1.heap.size V1 W -> (fun W : World => W.cell? ⟨ba, 2, none⟩ = some (.slice (some ⟨g, o, none⟩) m2 k2a) /\ W.cell? ⟨ba + 1, 2, none⟩ = some (.slice (some ⟨g', o', none⟩) m2 k2b) /\ W.cell? ⟨g, o + i, none⟩ = some (.slice A8 m8 c8) /\ W.cell? ⟨g', o' + i, none⟩ = some (.slice A9 m9 c9)) W) := Lib.hid (fun W hW => ⟨bel_m hW hS.1, bel_m hW hS.2.1, bel_m hW hS.2.2.1, bel_m hW hS.2.2.2⟩)
          have HBV1 := Lib.hid (HBV.out.trans (hd.mono HBV.out.size))
          clear hrA hrB hd hcA hcB
          go_wp2_with fail
          clear a0 b0 a1 b1 a2 b2 a3 b3 a4 b4 a5 b5
          refine region_y 13 (fun W : World => W.cell? ⟨ba, 2, none⟩ = some (.slice (some ⟨g, o, none⟩) m2 k2a) /\ W.cell? ⟨ba + 1, 2, none⟩ = some (.slice (some ⟨g', o', none⟩) m2 k2b) /\ W.cell? ⟨g, o + i, none⟩ = some (.slice A8 m8 c8) /\ W.cell? ⟨g', o' + i, none⟩ = some (.slice A9 m9 c9)) (by kernel_rfl) ?_
          rw [hV1]
          clear hV1
          refine tkyg [12, 5, 4, 2, 1] (i := 0) (v := ?_) hS ?_ ?_
          rotate_left
          ·rintro w' ⟨s0', s1', s2', s3'⟩
           go_simp
           try with_reducible rfl
          try simp only [Act.put, zq1, zq2, zq3, zq4, zq5, zq6]
          refine tkyg [12, 5, 4, 2] (i := 1) (v := ?_) hS ?_ ?_
          rotate_left
          ·rintro w' ⟨s0', s1', s2', s3'⟩
           go_simp
           try with_reducible rfl
          try simp only [Act.put, zq1, zq2, zq3, zq4, zq5, zq6]
          refine tkyg [12, 5, 4] (i := 2) (v := ?_) hS ?_ ?_
          rotate_left
          ·rintro w' ⟨s0', s1', s2', s3'⟩
           go_simp
           try with_reducible rfl
          try simp only [Act.put, zq1, zq2, zq3, zq4, zq5, zq6]
          refine tkyg [12, 5, 4] (i := 3) (v := ?_) hS ?_ ?_
          rotate_left
          ·rintro w' ⟨s0', s1', s2', s3'⟩
           go_simp
           try with_reducible rfl
          try simp only [Act.put, zq1, zq2, zq3, zq4, zq5, zq6]
          refine tkyg [12, 5] (i := 4) (v := ?_) hS ?_ ?_
          rotate_left
          ·rintro w' ⟨s0', s1', s2', s3'⟩
           go_simp
           try with_reducible rfl
          try simp only [Act.put, zq1, zq2, zq3, zq4, zq5, zq6]
          refine tkyg [12] (i := 5) (v := ?_) hS ?_ ?_
          rotate_left
          ·rintro w' ⟨s0', s1', s2', s3'⟩
           go_simp
           try with_reducible rfl
          try simp only [Act.put, zq1, zq2, zq3, zq4, zq5, zq6]
          refine tkyg [12, 11, 10, 8, 7] (i := 6) (v := ?_) hS ?_ ?_
          rotate_left
          ·rintro w' ⟨s0', s1', s2', s3'⟩
           go_simp
           try with_reducible rfl
          try simp only [Act.put, zq1, zq2, zq3, zq4, zq5, zq6]
          refine tkyg [12, 11, 10, 8] (i := 7) (v := ?_) hS ?_ ?_
          rotate_left
          ·rintro w' ⟨s0', s1', s2', s3'⟩
           go_simp
           try with_reducible rfl
          try simp only [Act.put, zq1, zq2, zq3, zq4, zq5, zq6]
          refine tkyg [12, 11, 10] (i := 8) (v := ?_) hS ?_ ?_
          rotate_left
          ·rintro w' ⟨s0', s1', s2', s3'⟩
           go_simp
           try with_reducible rfl
          try simp only [Act.put, zq1, zq2, zq3, zq4, zq5, zq6]
          refine tkyg [12, 11, 10] (i := 9) (v := ?_) hS ?_ ?_
          rotate_left
          ·rintro w' ⟨s0', s1', s2', s3'⟩
           go_simp
           try with_reducible rfl
          try simp only [Act.put, zq1, zq2, zq3, zq4, zq5, zq6]
          refine tkyg [12, 11] (i := 10) (v := ?_) hS ?_ ?_
          rotate_left
          ·rintro w' ⟨s0', s1', s2', s3'⟩
           go_simp
           try with_reducible rfl
          try simp only [Act.put, zq1, zq2, zq3, zq4, zq5, zq6]
          refine tkyg [12] (i := 11) (v := ?_) hS ?_ ?_
          rotate_left
          ·rintro w' ⟨s0', s1', s2', s3'⟩
           go_simp
           try with_reducible rfl
          try simp only [Act.put, zq1, zq2, zq3, zq4, zq5, zq6]
          refine anyY_g (i := 12) (by kernel_rfl) rfl rfl ?_
          intro K hK
          try simp only [zq1, zq2, zq3]
          refine wp_enterE #[.slice A8 m8 c8, .slice A9 m9 c9] Try.func47 (by kernel_rfl) (by kernel_rfl) ?_ HCI.out ?_
          ·go_simp
          rintro e W9 ⟨r9, rfl, hr9, hb⟩
          have HR9 := Lib.hid hr9
          have HBV2 := Lib.hid (HBV1.out.trans (hb.mono HBV1.out.size))
          have hS2 := HKS.out _ hb
          clear hr9 hb hS
          refine ⟨_, rfl, ?_⟩
          refine hK _ _ hS2 ?_
          clear hK hS2 HCI HKS
          try simp only [Act.put, zq1, zq2, zq3, zq4, zq5, zq6]
          cases r9 with
          | false =>
            refine anyY_last (i := 13) (by kernel_rfl) (by kernel_rfl) (by kernel_rfl) rfl rfl ?_
            try simp only [zq1, zq2, zq3]
            go_simp
            try apply_assumption
            go_wp2_with fail
            go_ret
            exact ⟨false, rfl, ⟨(fun e => by cases e), fun e => absurd (HR9.out.2 (by rw [e])) (by simp)⟩, HB0.out.trans (HBV2.out.mono HB0.out.size)⟩
          | true =>
            refine anyY_last (i := 13) (by kernel_rfl) (by kernel_rfl) (by kernel_rfl) rfl rfl ?_
            try simp only [zq1, zq2, zq3]
            go_simp
            try apply_assumption
            go_wp2_with fail
            exact ⟨⟨i + 1, by go_num, by omega, Lib.hid (fun j hj => by
              rcases Nat.lt_or_ge j i with q | q
              ·exact HJ.out j q
              ·obtain rfl : j = i := by omega
               exact HR9.out.1 rfl), HBV2⟩, by simp [intOf]; omega⟩
         ·obtain rfl : m2 = i := by omega
          have mm4 : m4 <= 9223372036854775807 := by omega
          have HT1 := Lib.hid (HT0.out.below HBV.out); have HU1 := Lib.hid (HU0.out.below HBV.out)
          have XA1 := XA; have XB1 := XB
          have HBW : Hid (Below wr.heap.size wr wr) := Lib.hid (Below.refl _ _)
          clear XA XB
          go_wp2_with fail
          clear a0 b0 a1 b1 a2 b2 a3 b3 a4 b4 a5 b5
          go_loopw [6] (fun vi wq => ∃ i : Nat, vi = .int .i64 (i : Int) /\ i <= m4 /\ Hid (∀ j, j < i -> t.fn.getD j [] = u.fn.getD j [] /\ t.fe.getD j [] = u.fe.getD j []) /\ Hid (Below wr.heap.size wr wq)) (fun vi _ => m4 - (intOf vi).toNat)
          case atStart => exact ⟨0, rfl, Nat.zero_le _, Lib.hid (fun j hj => absurd hj (Nat.not_lt_zero j)), HBW⟩
          case round =>
           clear HBW i0
           obtain ⟨i, rfl, hi, HJ2, HBW⟩ := hrel
           have i0 : (0 : Int) <= (i : Int) := Int.natCast_nonneg _
           have XA := Lib.hid (Blk.below XA1.out HBW.out XA1.out.lt); have XB := Lib.hid (Blk.below XB1.out HBW.out XB1.out.lt)
           have a0 := XA.out.cell 0
           have a1 := XA.out.cell 1
           have a2 := XA.out.cell 2
           have a3 := XA.out.cell 3
           have a4 := XA.out.cell 4
           have a5 := XA.out.cell 5
           have b0 := XB.out.cell 0
           have b1 := XB.out.cell 1
           have b2 := XB.out.cell 2
           have b3 := XB.out.cell 3
           have b4 := XB.out.cell 4
           have b5 := XB.out.cell 5
           simp only [List.getElem?_toArray, List.getElem?_cons_zero, List.getElem?_cons_succ] at a0 b0 a1 b1 a2 b2 a3 b3 a4 b4 a5 b5
           by_cases hlt : i < m4
           ·have i1 : (i : Int) < (m4 : Int) := by omega
            obtain ⟨g, o, A8, m8, c8, ea, hk8, hcA, hrA, -, -⟩ := (show RowsI wr (.slice A4a m4 k4a) t.fn from HT1.out.fn.below HBW.out).at_ (i := i) (by rw [h4a]; exact hlt)
            obtain ⟨g', o', A9, m9, c9, eb, hk9, hcB, hrB, -, -⟩ := (show RowsI wr (.slice A4b m4 k4b) u.fn from HU1.out.fn.below HBW.out).at_ (i := i) (by rw [h4b]; exact hlt)
            obtain ⟨f, p, E8, n8, e8, ec, hl8, hcC, hrC, ln8, le8⟩ := (show EmitR wr (.slice A5a m4 k5a) t.fe from HT1.out.fe.below HBW.out).at_ (i := i) (by rw [h5a]; exact hlt)
            obtain ⟨f', p', E9, n9, e9, ed, hl9, hcD, hrD, -, -⟩ := (show EmitR wr (.slice A5b m4 k5b) u.fe from HU1.out.fe.below HBW.out).at_ (i := i) (by rw [h5b]; exact hlt)
            subst ea eb ec ed
            obtain rfl : n8 = n9 := by rw [hl8, hl9]; exact HRE.out i hlt
            have HL8 := Lib.hid hl8; have HL9 := Lib.hid hl9; have HRC := Lib.hid hrC; have HRD := Lib.hid hrD
            have mn8 : n8 <= 9223372036854775807 := by omega
            have n80 : (0 : Int) <= (n8 : Int) := Int.natCast_nonneg _
            obtain ⟨V1, hV1⟩ : ∃ V, wr.drew = V := ⟨_, rfl⟩
            have hd : Below wr.heap.size wr V1 := by rw [<- hV1]; exact (Below.refl _ _).drew
            have HCI := Lib.hid (tints_any (hrA.below hd) (hrB.below hd))
            have hS : (fun W : World => W.cell? ⟨ba, 4, none⟩ = some (.slice (some ⟨g, o, none⟩) m4 k4a) /\ W.cell? ⟨ba + 1, 4, none⟩ = some (.slice (some ⟨g', o', none⟩) m4 k4b) /\ W.cell? ⟨g, o + i, none⟩ = some (.slice A8 m8 c8) /\ W.cell? ⟨g', o' + i, none⟩ = some (.slice A9 m9 c9) /\ W.cell? ⟨ba, 5, none⟩ = some (.slice (some ⟨f, p, none⟩) m4 k5a) /\ W.cell? ⟨ba + 1, 5, none⟩ = some (.slice (some ⟨f', p', none⟩) m4 k5b) /\ W.cell? ⟨f, p + i, none⟩ = some (.slice E8 n8 e8) /\ W.cell? ⟨f', p' + i, none⟩ = some (.slice E9 n8 e9)) V1 := ⟨bel_m hd a4, bel_m hd b4, bel_m hd hcA, bel_m hd hcB, bel_m hd a5, bel_m hd b5, bel_m hd hcC, bel_m hd hcD⟩
            have HKS : Hid (∀ W, Below V1.heap.size V1 W -> (fun W : World => W.cell? ⟨ba, 4, none⟩ = some (.slice (some ⟨g, o, none⟩) m4 k4a) /\ W.cell? ⟨ba + 1, 4, none⟩ = some (.slice (some ⟨g', o', none⟩) m4 k4b) /\ W.cell? ⟨g, o + i, none⟩ = some (.slice A8 m8 c8) /\ W.cell? ⟨g', o' + i, none⟩ = some (.slice A9 m9 c9) /\ W.cell? ⟨ba, 5, none⟩ = some (.slice (some ⟨f, p, none⟩) m4 k5a) /\ W.cell? ⟨ba + 1, 5, none⟩ = some (.slice (some ⟨f', p', none⟩) m4 k5b) /\ W.cell? ⟨f, p + i, none⟩ = some (.slice E8 n8 e8) /\ W.cell? ⟨f', p' + i, none⟩ = some (.slice E9 n8 e9)) W) := Lib.hid (fun W hW => ⟨bel_m hW hS.1, bel_m hW hS.2.1, bel_m hW hS.2.2.1, bel_m hW hS.2.2.2.1, bel_m hW hS.2.2.2.2.1, bel_m hW hS.2.2.2.2.2.1, bel_m hW hS.2.2.2.2.2.2.1, bel_m hW hS.2.2.2.2.2.2.2⟩)
            have HD := Lib.hid hd
            have HBW1 := Lib.hid (HBW.out.trans (hd.mono HBW.out.size))
            clear hrA hrB hrC hrD hd hcA hcB hcC hcD hl8 hl9 ln8 le8
            go_wp2_with fail
            clear a0 b0 a1 b1 a2 b2 a3 b3 a4 b4 a5 b5
            refine region_y 30 (fun W : World => W.cell? ⟨ba, 4, none⟩ = some (.slice (some ⟨g, o, none⟩) m4 k4a) /\ W.cell? ⟨ba + 1, 4, none⟩ = some (.slice (some ⟨g', o', none⟩) m4 k4b) /\ W.cell? ⟨g, o + i, none⟩ = some (.slice A8 m8 c8) /\ W.cell? ⟨g', o' + i, none⟩ = some (.slice A9 m9 c9) /\ W.cell? ⟨ba, 5, none⟩ = some (.slice (some ⟨f, p, none⟩) m4 k5a) /\ W.cell? ⟨ba + 1, 5, none⟩ = some (.slice (some ⟨f', p', none⟩) m4 k5b) /\ W.cell? ⟨f, p + i, none⟩ = some (.slice E8 n8 e8) /\ W.cell? ⟨f', p' + i, none⟩ = some (.slice E9 n8 e9)) (by kernel_rfl) ?_
            rw [hV1]
            clear hV1
            refine tkyg [14, 12, 5, 4, 2, 1] (i := 0) (v := ?_) hS ?_ ?_
            rotate_left
            ·rintro w' ⟨s0', s1', s2', s3', s4', s5', s6', s7'⟩
             go_simp
             try with_reducible rfl
            try simp only [Act.put, zq1, zq2, zq3, zq4, zq5, zq6]
            refine tkyg [14, 12, 5, 4, 2] (i := 1) (v := ?_) hS ?_ ?_
            rotate_left
            ·rintro w' ⟨s0', s1', s2', s3', s4', s5', s6', s7'⟩
             go_simp
             try with_reducible rfl
            try simp only [Act.put, zq1, zq2, zq3, zq4, zq5, zq6]
            refine tkyg [14, 12, 5, 4] (i := 2) (v := ?_) hS ?_ ?_
            rotate_left
            ·rintro w' ⟨s0', s1', s2', s3', s4', s5', s6', s7'⟩
             go_simp
             try with_reducible rfl
            try simp only [Act.put, zq1, zq2, zq3, zq4, zq5, zq6]
            refine tkyg [14, 12, 5, 4] (i := 3) (v := ?_) hS ?_ ?_
            rotate_left
            ·rintro w' ⟨s0', s1', s2', s3', s4', s5', s6', s7'⟩
             go_simp
             try with_reducible rfl
            try simp only [Act.put, zq1, zq2, zq3, zq4, zq5, zq6]
            refine tkyg [14, 12, 5] (i := 4) (v := ?_) hS ?_ ?_
            rotate_left
            ·rintro w' ⟨s0', s1', s2', s3', s4', s5', s6', s7'⟩
             go_simp
             try with_reducible rfl
            try simp only [Act.put, zq1, zq2, zq3, zq4, zq5, zq6]
            refine tkyg [14, 12] (i := 5) (v := ?_) hS ?_ ?_
            rotate_left
            ·rintro w' ⟨s0', s1', s2', s3', s4', s5', s6', s7'⟩
             go_simp
             try with_reducible rfl
            try simp only [Act.put, zq1, zq2, zq3, zq4, zq5, zq6]
            refine tkyg [14, 12, 11, 10, 8, 7] (i := 6) (v := ?_) hS ?_ ?_
            rotate_left
            ·rintro w' ⟨s0', s1', s2', s3', s4', s5', s6', s7'⟩
             go_simp
             try with_reducible rfl
            try simp only [Act.put, zq1, zq2, zq3, zq4, zq5, zq6]
            refine tkyg [14, 12, 11, 10, 8] (i := 7) (v := ?_) hS ?_ ?_
            rotate_left
            ·rintro w' ⟨s0', s1', s2', s3', s4', s5', s6', s7'⟩
             go_simp
             try with_reducible rfl
            try simp only [Act.put, zq1, zq2, zq3, zq4, zq5, zq6]
            refine tkyg [14, 12, 11, 10] (i := 8) (v := ?_) hS ?_ ?_
            rotate_left
            ·rintro w' ⟨s0', s1', s2', s3', s4', s5', s6', s7'⟩
             go_simp
             try with_reducible rfl
            try simp only [Act.put, zq1, zq2, zq3, zq4, zq5, zq6]
            refine tkyg [14, 12, 11, 10] (i := 9) (v := ?_) hS ?_ ?_
            rotate_left
            ·rintro w' ⟨s0', s1', s2', s3', s4', s5', s6', s7'⟩
             go_simp
             try with_reducible rfl
            try simp only [Act.put, zq1, zq2, zq3, zq4, zq5, zq6]
            refine tkyg [14, 12, 11] (i := 10) (v := ?_) hS ?_ ?_
            rotate_left
            ·rintro w' ⟨s0', s1', s2', s3', s4', s5', s6', s7'⟩
             go_simp
             try with_reducible rfl
            try simp only [Act.put, zq1, zq2, zq3, zq4, zq5, zq6]
            refine tkyg [14, 12] (i := 11) (v := ?_) hS ?_ ?_
            rotate_left
            ·rintro w' ⟨s0', s1', s2', s3', s4', s5', s6', s7'⟩
             go_simp
             try with_reducible rfl
            try simp only [Act.put, zq1, zq2, zq3, zq4, zq5, zq6]
            refine anyY_g (i := 12) (by kernel_rfl) rfl rfl ?_
            intro K hK
            try simp only [zq1, zq2, zq3]
            refine wp_enterE #[.slice A8 m8 c8, .slice A9 m9 c9] Try.func47 (by kernel_rfl) (by kernel_rfl) ?_ HCI.out ?_
            ·go_simp
            rintro e W9 ⟨r9, rfl, hr9, hb⟩
            have HR9 := Lib.hid hr9
            have HBW2 := Lib.hid (HBW1.out.trans (hb.mono HBW1.out.size))
            have HBY9 := Lib.hid hb
            have hS2 := HKS.out _ hb
            clear hr9 hb hS
            have hS := hS2
            clear hS2
            refine ⟨_, rfl, ?_⟩
            refine hK _ _ hS ?_
            clear hK HCI HKS
            try simp only [Act.put, zq1, zq2, zq3, zq4, zq5, zq6]
            cases r9 with
            | false =>
              refine tkyg [14] (i := 13) (v := ?_) hS ?_ ?_
              rotate_left
              ·rintro w' ⟨s0', s1', s2', s3', s4', s5', s6', s7'⟩
               go_simp
               try with_reducible rfl
              try simp only [Act.put, zq1, zq2, zq3, zq4, zq5, zq6]
              refine tkyg [] (i := 14) (v := ?_) hS ?_ ?_
              rotate_left
              ·rintro w' ⟨s0', s1', s2', s3', s4', s5', s6', s7'⟩
               go_simp
               try with_reducible rfl
              try simp only [Act.put, zq1, zq2, zq3, zq4, zq5, zq6]
              refine tkygskip [29, 21, 20, 19, 17, 16] (i := 15) hS ?_
              try simp only [Act.put, zq1, zq2, zq3, zq4, zq5, zq6]
              refine tkygskip [29, 21, 20, 19, 17] (i := 16) hS ?_
              try simp only [Act.put, zq1, zq2, zq3, zq4, zq5, zq6]
              refine tkygskip [29, 21, 20, 19] (i := 17) hS ?_
              try simp only [Act.put, zq1, zq2, zq3, zq4, zq5, zq6]
              refine tkygskip [29, 21, 20, 19] (i := 18) hS ?_
              try simp only [Act.put, zq1, zq2, zq3, zq4, zq5, zq6]
              refine tkygskip [29, 21, 20] (i := 19) hS ?_
              try simp only [Act.put, zq1, zq2, zq3, zq4, zq5, zq6]
              refine tkygskip [29, 21] (i := 20) hS ?_
              try simp only [Act.put, zq1, zq2, zq3, zq4, zq5, zq6]
              refine tkygskip [29] (i := 21) hS ?_
              try simp only [Act.put, zq1, zq2, zq3, zq4, zq5, zq6]
              refine tkygskip [29, 28, 27, 26, 24, 23] (i := 22) hS ?_
              try simp only [Act.put, zq1, zq2, zq3, zq4, zq5, zq6]
              refine tkygskip [29, 28, 27, 26, 24] (i := 23) hS ?_
              try simp only [Act.put, zq1, zq2, zq3, zq4, zq5, zq6]
              refine tkygskip [29, 28, 27, 26] (i := 24) hS ?_
              try simp only [Act.put, zq1, zq2, zq3, zq4, zq5, zq6]
              refine tkygskip [29, 28, 27, 26] (i := 25) hS ?_
              try simp only [Act.put, zq1, zq2, zq3, zq4, zq5, zq6]
              refine tkygskip [29, 28, 27] (i := 26) hS ?_
              try simp only [Act.put, zq1, zq2, zq3, zq4, zq5, zq6]
              refine tkygskip [29, 28] (i := 27) hS ?_
              try simp only [Act.put, zq1, zq2, zq3, zq4, zq5, zq6]
              refine tkygskip [29] (i := 28) hS ?_
              try simp only [Act.put, zq1, zq2, zq3, zq4, zq5, zq6]
              refine tkygskip [] (i := 29) hS ?_
              try simp only [Act.put, zq1, zq2, zq3, zq4, zq5, zq6]
              clear hS
              refine anyY_last (i := 30) (by kernel_rfl) (by kernel_rfl) (by kernel_rfl) rfl rfl ?_
              try simp only [zq1, zq2, zq3]
              go_simp
              try apply_assumption
              go_wp2_with fail
              go_ret
              exact ⟨false, rfl, ⟨(fun e => by cases e), fun e => absurd (HR9.out.2 (by rw [e])) (by simp)⟩, HB0.out.trans (HBV.out.trans (HBW2.out.mono HBV.out.size) |>.mono HB0.out.size)⟩
            | true =>
              refine tkyg [14] (i := 13) (v := ?_) hS ?_ ?_
              rotate_left
              ·rintro w' ⟨s0', s1', s2', s3', s4', s5', s6', s7'⟩
               go_simp
               try with_reducible rfl
              try simp only [Act.put, zq1, zq2, zq3, zq4, zq5, zq6]
              refine tkyg [] (i := 14) (v := ?_) hS ?_ ?_
              rotate_left
              ·rintro w' ⟨s0', s1', s2', s3', s4', s5', s6', s7'⟩
               go_simp
               try with_reducible rfl
              try simp only [Act.put, zq1, zq2, zq3, zq4, zq5, zq6]
              refine tkyg [29, 21, 20, 19, 17, 16] (i := 15) (v := ?_) hS ?_ ?_
              rotate_left
              ·rintro w' ⟨s0', s1', s2', s3', s4', s5', s6', s7'⟩
               go_simp
               try with_reducible rfl
              try simp only [Act.put, zq1, zq2, zq3, zq4, zq5, zq6]
              refine tkyg [29, 21, 20, 19, 17] (i := 16) (v := ?_) hS ?_ ?_
              rotate_left
              ·rintro w' ⟨s0', s1', s2', s3', s4', s5', s6', s7'⟩
               go_simp
               try with_reducible rfl
              try simp only [Act.put, zq1, zq2, zq3, zq4, zq5, zq6]
              refine tkyg [29, 21, 20, 19] (i := 17) (v := ?_) hS ?_ ?_
              rotate_left
              ·rintro w' ⟨s0', s1', s2', s3', s4', s5', s6', s7'⟩
               go_simp
               try with_reducible rfl
              try simp only [Act.put, zq1, zq2, zq3, zq4, zq5, zq6]
              refine tkyg [29, 21, 20, 19] (i := 18) (v := ?_) hS ?_ ?_
              rotate_left
              ·rintro w' ⟨s0', s1', s2', s3', s4', s5', s6', s7'⟩
               go_simp
               try with_reducible rfl
              try simp only [Act.put, zq1, zq2, zq3, zq4, zq5, zq6]
              refine tkyg [29, 21, 20] (i := 19) (v := ?_) hS ?_ ?_
              rotate_left
              ·rintro w' ⟨s0', s1', s2', s3', s4', s5', s6', s7'⟩
               go_simp
               try with_reducible rfl
              try simp only [Act.put, zq1, zq2, zq3, zq4, zq5, zq6]
              refine tkyg [29, 21] (i := 20) (v := ?_) hS ?_ ?_
              rotate_left
              ·rintro w' ⟨s0', s1', s2', s3', s4', s5', s6', s7'⟩
               go_simp
               try with_reducible rfl
              try simp only [Act.put, zq1, zq2, zq3, zq4, zq5, zq6]
              refine tkyg [29] (i := 21) (v := ?_) hS ?_ ?_
              rotate_left
              ·rintro w' ⟨s0', s1', s2', s3', s4', s5', s6', s7'⟩
               go_simp
               try with_reducible rfl
              try simp only [Act.put, zq1, zq2, zq3, zq4, zq5, zq6]
              refine tkyg [29, 28, 27, 26, 24, 23] (i := 22) (v := ?_) hS ?_ ?_
              rotate_left
              ·rintro w' ⟨s0', s1', s2', s3', s4', s5', s6', s7'⟩
               go_simp
               try with_reducible rfl
              try simp only [Act.put, zq1, zq2, zq3, zq4, zq5, zq6]
              refine tkyg [29, 28, 27, 26, 24] (i := 23) (v := ?_) hS ?_ ?_
              rotate_left
              ·rintro w' ⟨s0', s1', s2', s3', s4', s5', s6', s7'⟩
               go_simp
               try with_reducible rfl
              try simp only [Act.put, zq1, zq2, zq3, zq4, zq5, zq6]
              refine tkyg [29, 28, 27, 26] (i := 24) (v := ?_) hS ?_ ?_
              rotate_left
              ·rintro w' ⟨s0', s1', s2', s3', s4', s5', s6', s7'⟩
               go_simp
               try with_reducible rfl
              try simp only [Act.put, zq1, zq2, zq3, zq4, zq5, zq6]
              refine tkyg [29, 28, 27, 26] (i := 25) (v := ?_) hS ?_ ?_
              rotate_left
              ·rintro w' ⟨s0', s1', s2', s3', s4', s5', s6', s7'⟩
               go_simp
               try with_reducible rfl
              try simp only [Act.put, zq1, zq2, zq3, zq4, zq5, zq6]
              refine tkyg [29, 28, 27] (i := 26) (v := ?_) hS ?_ ?_
              rotate_left
              ·rintro w' ⟨s0', s1', s2', s3', s4', s5', s6', s7'⟩
               go_simp
               try with_reducible rfl
              try simp only [Act.put, zq1, zq2, zq3, zq4, zq5, zq6]
              refine tkyg [29, 28] (i := 27) (v := ?_) hS ?_ ?_
              rotate_left
              ·rintro w' ⟨s0', s1', s2', s3', s4', s5', s6', s7'⟩
               go_simp
               try with_reducible rfl
              try simp only [Act.put, zq1, zq2, zq3, zq4, zq5, zq6]
              refine tkyg [29] (i := 28) (v := ?_) hS ?_ ?_
              rotate_left
              ·rintro w' ⟨s0', s1', s2', s3', s4', s5', s6', s7'⟩
               go_simp
               try with_reducible rfl
              try simp only [Act.put, zq1, zq2, zq3, zq4, zq5, zq6]
              refine tkyg [] (i := 29) (v := ?_) hS ?_ ?_
              rotate_left
              ·rintro w' ⟨s0', s1', s2', s3', s4', s5', s6', s7'⟩
               go_simp
               try with_reducible rfl
              try simp only [Act.put, zq1, zq2, zq3, zq4, zq5, zq6]
              obtain ⟨-, -, -, -, z4, z5, z6, z7⟩ := hS
              have Z4 := Lib.hid z4; have Z5 := Lib.hid z5; have Z6 := Lib.hid z6; have Z7 := Lib.hid z7
              clear z4 z5 z6 z7
              refine anyY_last (i := 30) (by kernel_rfl) (by kernel_rfl) (by kernel_rfl) rfl rfl ?_
              try simp only [zq1, zq2, zq3]
              go_simp
              try apply_assumption
              go_wp2_with fail
              have HRC1 : Hid (ReadsE encV 3 W9 (.slice E8 n8 e8) n8 (t.fe.getD i [])) := Lib.hid (HRC.out.below (HD.out.trans (HBY9.out.mono HD.out.size)))
              have HRD1 : Hid (ReadsE encV 3 W9 (.slice E9 n8 e9) n8 (u.fe.getD i [])) := Lib.hid (HRD.out.below (HD.out.trans (HBY9.out.mono HD.out.size)))
              have HBX : Hid (Below W9.heap.size W9 W9) := Lib.hid (Below.refl _ _)
              go_loopw [7] (fun vi wz => ∃ j : Nat, vi = .int .i64 (j : Int) /\ j <= n8 /\ Hid (∀ q, q < j -> (t.fe.getD i []).getD q (0, 0, 0) = (u.fe.getD i []).getD q (0, 0, 0)) /\ Hid (Below W9.heap.size W9 wz)) (fun vi _ => n8 - (intOf vi).toNat)
              case atStart => exact ⟨0, rfl, Nat.zero_le _, Lib.hid (fun j hj => absurd hj (Nat.not_lt_zero j)), HBX⟩
              case round =>
               clear HBX
               obtain ⟨j, rfl, hj, HJ3, HBX⟩ := hrel
               have j0 : (0 : Int) <= (j : Int) := Int.natCast_nonneg _
               have z4 := bel_m HBX.out Z4.out; have z5 := bel_m HBX.out Z5.out; have z6 := bel_m HBX.out Z6.out; have z7 := bel_m HBX.out Z7.out
               by_cases hjl : j < n8
               ·have j1 : (j : Int) < (n8 : Int) := by omega
                have hjt : j < (t.fe.getD i []).length := by rw [<- HL8.out]; exact hjl
                have hju : j < (u.fe.getD i []).length := by rw [<- HL9.out]; exact hjl
                obtain ⟨⟨x, y, z⟩, hx⟩ : ∃ v, (t.fe.getD i []).getD j (0, 0, 0) = v := ⟨_, rfl⟩
                obtain ⟨⟨x', y', z'⟩, hx'⟩ : ∃ v, (u.fe.getD i []).getD j (0, 0, 0) = v := ⟨_, rfl⟩
                have hxt : (t.fe.getD i [])[j]? = some (x, y, z) := by rw [<- hx]; exact getD_at hjt
                have hxu : (u.fe.getD i [])[j]? = some (x', y', z') := by rw [<- hx']; exact getD_at hju
                obtain ⟨q, r, ea, -, hc⟩ := (HRC1.out.below HBX.out).at encV_len (by decide) j _ hxt
                obtain ⟨q', r', eb, -, hc'⟩ := (HRD1.out.below HBX.out).at encV_len (by decide) j _ hxu
                subst ea eb
                have c0 := hc 0 (.int .i64 x) rfl; have c1 := hc 1 (.int .i64 y) rfl; have c2 := hc 2 (.int .i64 z) rfl
                have d0 := hc' 0 (.int .i64 x') rfl; have d1 := hc' 1 (.int .i64 y') rfl; have d2 := hc' 2 (.int .i64 z') rfl
                rw [Nat.add_zero] at c0 d0
                have HX := Lib.hid hx; have HX' := Lib.hid hx'
                clear hx hx' hxt hxu hc hc' hjt hju
                cases hv : veq x y z x' y' z' with
                | false =>
                  go_wp2_with fail
                  go_big_quiet (fail)
                  go_wp2_with fail
                  go_ret
                  have hne : ¬ (x, y, z) = (x', y', z') := fun e => by rw [(veq_iff _ _ _ _ _ _).2 e] at hv; cases hv
                  exact ⟨false, rfl, ⟨(fun e => by cases e), fun e => absurd (by rw [<- HX.out, <- HX'.out, e]) hne⟩, HB0.out.trans ((HBV.out.trans ((HBW2.out.trans ((below_drewQ HBX.out nq).mono HBW2.out.size)).mono HBV.out.size)).mono HB0.out.size)⟩
                | true =>
                  go_wp2_with fail
                  go_big_quiet (fail)
                  go_wp2_with fail
                  have heq := (veq_iff _ _ _ _ _ _).1 hv
                  exact ⟨⟨j + 1, by go_num, by omega, Lib.hid (fun q hq => by
                   rcases Nat.lt_or_ge q j with h | h
                   ·exact HJ3.out q h
                   ·obtain rfl : q = j := by omega
                    rw [HX.out, HX'.out, heq]), Lib.hid (below_drewQ HBX.out nq)⟩, by simp [intOf]; omega⟩
               ·obtain rfl : n8 = j := by omega
                go_wp2_with fail
                have hrow : t.fe.getD i [] = u.fe.getD i [] := getD_ext (by rw [<- HL8.out, <- HL9.out]) (fun q hq => HJ3.out q (by rw [HL8.out]; exact hq))
                exact ⟨⟨i + 1, by go_num, by omega, Lib.hid (fun q hq => by
                 rcases Nat.lt_or_ge q i with h | h
                 ·exact HJ2.out q h
                 ·obtain rfl : q = i := by omega
                  exact ⟨HR9.out.1 (by simp), hrow⟩), Lib.hid (HBW2.out.trans (HBX.out.mono HBW2.out.size))⟩, by simp [intOf]; omega⟩
           ·obtain rfl : m4 = i := by omega
            go_wp2_with fail
            go_ret
            refine ⟨true, rfl, ⟨fun _ => ?_, fun _ => rfl⟩, HB0.out.trans ((HBV.out.trans (HBW.out.mono HBV.out.size)).mono HB0.out.size)⟩
            have x1 := HR0.out.1 (by simp); have x2 := HR1.out.1 (by simp); have x4 := HR3.out.1 (by simp)
            have x3 : t.bn = u.bn := getD_ext (by rw [HH.out.1, h2b]) (fun j hj => HJ.out j (by rw [HH.out.1] at hj; exact hj))
            have x5 : t.fn = u.fn := getD_ext (by rw [h4a, h4b]) (fun j hj => (HJ2.out j (by rw [h4a] at hj; exact hj)).1)
            have x6 : t.fe = u.fe := getD_ext (by rw [h5a, h5b]) (fun j hj => (HJ2.out j (by rw [h5a] at hj; exact hj)).2)
            cases t; cases u
            simp only at x1 x2 x3 x4 x5 x6
            subst x1 x2 x3 x4 x5 x6
            rfl
end Go.Proofs.Ytjkcglgkdclidaa
