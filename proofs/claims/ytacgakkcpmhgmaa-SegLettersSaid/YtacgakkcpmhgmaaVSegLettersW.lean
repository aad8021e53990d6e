/- SegLetters: scalars of one letter are broken alike. -/
import Derived.Test.YtacgakkcpmhgmaaVSegV
set_option linter.unusedVariables false
set_option linter.unusedSimpArgs false
set_option maxRecDepth 100000
set_option maxHeartbeats 8000000
namespace Go.Proofs.Ytacgakkcpmhgmaa
open Go Go.RowKit Go.Proofs
def GoodX (t : Tab) (sc X : List Int) : Prop := ∀ j, j < sc.length -> isScalar (X.getD j 0) /\ lettI t (X.getD j 0) = lettI t (sc.getD j 0)
theorem GoodX.refl (t : Tab) {sc : List Int} (h : ∀ x ∈ sc, isScalar x) : GoodX t sc sc := fun j hj => ⟨h _ (getD_memL hj), rfl⟩
theorem GoodX.set {t : Tab} {sc X : List Int} (h : GoodX t sc X) {i : Nat} {y : Int} (hy : isScalar y) (hl : lettI t y = lettI t (X.getD i 0)) : GoodX t sc (X.set i y) := fun j hj => by
 by_cases e : i = j
 ·subst e
  by_cases hi : i < X.length
  ·have e2 : (X.set i y).getD i 0 = y := by simp [List.getD_eq_getElem?_getD, hi]
   rw [e2]
   exact ⟨hy, hl.trans (h i hj).2⟩
  ·have e2 : X.set i y = X := List.set_eq_of_length_le (by omega)
   rw [e2]
   exact h i hj
 ·have e2 : (X.set i y).getD j 0 = X.getD j 0 := by simp [List.getD_eq_getElem?_getD, List.getElem?_set_ne e]
  rw [e2]
  exact h j hj
theorem GoodX.text {t : Tab} {sc X : List Int} (h : GoodX t sc X) (hl : X.length = sc.length) : textI t X = textI t sc := by
 unfold textI
 apply List.ext_getElem
 ·simp [hl]
 ·intro j h1 h2
  simp at h1 h2
  have := (h j h2).2
  rw [List.getD_eq_getElem?_getD, List.getD_eq_getElem?_getD, List.getElem?_eq_getElem h1, List.getElem?_eq_getElem h2] at this
  simpa using this
theorem GoodX.scalars {t : Tab} {sc X : List Int} (h : GoodX t sc X) (hl : X.length = sc.length) : ∀ x ∈ X, isScalar x := fun x hx => by
 obtain ⟨j, hj, rfl⟩ := List.getElem_of_mem hx
 have := (h j (by omega)).1
 rwa [List.getD_eq_getElem?_getD, List.getElem?_eq_getElem hj] at this
theorem segLetters_walk (a0 : Int) (a1 : Int) (a2 : Option Addr) (len2 cap2 : Nat) (z2 : List Int) (a3 : Option Addr) (len3 cap3 : Nat) (z3 : List Int) (a4 : Option Addr) (len4 cap4 : Nat) (z4 : List Int) (a5 : Option Addr) (len5 cap5 : Nat) (z5 : List Int) (a6 : Int) (w : World) (w0 : (Lit.int .i64 a0).wf = true) (w1 : (Lit.int .i64 a1).wf = true) (w2 : IsRow .i64 w a2 len2 cap2 z2) (w3 : IsRow .i64 w a3 len3 cap3 z3) (w4 : IsRow .i64 w a4 len4 cap4 z4) (w5 : IsRow .i64 w a5 len5 cap5 z5) (w6 : (Lit.int .i64 a6).wf = true) :
  Calls Try.prog 10 #[.int .i64 a0, .int .i64 a1, .slice a2 len2 cap2, .slice a3 len3 cap3, .slice a4 len4 cap4, .slice a5 len5 cap5, .int .i64 a6] w fun e w' => e = .returned (.bool true) /\ Below w.heap.size w w' := by
  have hk := kOf_is a0; have hn := nOf_is a1; have hk9 := kOf_lt a0; have hn9 := nOf_lt a1
  obtain ⟨k, ek⟩ : ∃ k, kOf a0 = k := ⟨_, rfl⟩
  obtain ⟨n, en⟩ : ∃ n, nOf a1 = n := ⟨_, rfl⟩
  rw [ek] at hk hk9
  rw [en] at hn hn9
  clear ek en
  obtain ⟨k0, k9⟩ := hk9
  obtain ⟨n0, n9⟩ := hn9
  have HK := Lib.hid hk; have HN := Lib.hid hn
  have R2 := Lib.hid w2.readsI
  have R3 := Lib.hid w3.readsI
  have R4 := Lib.hid w4.readsI
  have I5 := Lib.hid w5
  clear hk hn w0 w1 w2 w3 w4 w5 w6
  go_enter Try.func10, Try.ntmps10
  go_wp2_with fail
  refine (sknown_any _).mono ?_
  rintro e V1 ⟨rfl, hb⟩
  replace R2 := Lib.hid (R2.out.below hb)
  replace R3 := Lib.hid (R3.out.below hb)
  replace R4 := Lib.hid (R4.out.below hb)
  have HB := Lib.hid hb
  clear hb
  go_wp2_with fail
  refine (make_any R2.out R3.out R4.out a0 a1 HK.out HN.out).mono ?_
  rintro e V2 ⟨vc, vl, vbn, vbo, vfn, vfe, rfl, ht, hb⟩
  replace R2 := Lib.hid (R2.out.below hb)
  replace R3 := Lib.hid (R3.out.below hb)
  replace R4 := Lib.hid (R4.out.below hb)
  replace HB := Lib.hid (HB.out.trans (hb.mono HB.out.size))
  clear hb
  have hrtt := lawTab_right (ns := (z2.take len2)) (ms := (z3.take len3)) (cs := (z4.take len4)) k0 (by omega) n0 (by omega)
  have helt := lawTab_len (ns := (z2.take len2)) (ms := (z3.take len3)) (cs := (z4.take len4)) k0 k9 n0 n9
  obtain ⟨tt, htt⟩ : ∃ t, lawTab (z2.take len2) (z3.take len3) (z4.take len4) k n = t := ⟨_, rfl⟩
  rw [htt] at ht hrtt helt
  have hlens := hrtt.lens helt
  obtain ⟨A0t, k0t, rfl, le0t, lt0t, -⟩ := ht.c.form
  obtain ⟨A1t, k1t, rfl, le1t, lt1t, -⟩ := ht.l.form
  obtain ⟨A2t, k2t, ee, le2t, lt2t⟩ := ht.bn.form
  subst ee
  obtain ⟨A3t, k3t, rfl, le3t, lt3t, -⟩ := ht.bo.form
  obtain ⟨A4t, k4t, ee, le4t, lt4t⟩ := ht.fn.form
  subst ee
  obtain ⟨A5t, k5t, ee, le5t, lt5t⟩ := ht.fe.form
  subst ee
  obtain ⟨m0t, hm0t⟩ : ∃ m, tt.cuts.length = m := ⟨_, rfl⟩
  obtain ⟨m1t, hm1t⟩ : ∃ m, tt.letters.length = m := ⟨_, rfl⟩
  obtain ⟨m2t, hm2t⟩ : ∃ m, tt.bn.length = m := ⟨_, rfl⟩
  obtain ⟨m3t, hm3t⟩ : ∃ m, tt.bo.length = m := ⟨_, rfl⟩
  obtain ⟨m4t, hm4t⟩ : ∃ m, tt.fn.length = m := ⟨_, rfl⟩
  obtain ⟨m5t, hm5t⟩ : ∃ m, tt.fe.length = m := ⟨_, rfl⟩
  rw [hm0t, hm1t, hm2t, hm3t, hm4t, hm5t] at ht hlens
  rw [hm0t] at le0t
  rw [hm1t] at le1t
  rw [hm2t] at le2t
  rw [hm3t] at le3t
  rw [hm4t] at le4t
  rw [hm5t] at le5t
  rw [hm0t, hm1t, hm2t, hm3t, hm4t, hm5t]
  obtain ⟨q0t, q1t, q2t, q3t, q4t, q5t⟩ := hlens
  have HM0t := Lib.hid hm0t
  have HM1t := Lib.hid hm1t
  have HM2t := Lib.hid hm2t
  have HM3t := Lib.hid hm3t
  have HM4t := Lib.hid hm4t
  have HM5t := Lib.hid hm5t
  obtain ⟨bt, hbe⟩ : ∃ b, V2.heap.size = b := ⟨_, rfl⟩
  obtain ⟨V3, hW⟩ : ∃ W, V2.alloc (.cells #[.slice A0t m0t k0t, .slice A1t m1t k1t, .slice A2t m2t k2t, .slice A3t m3t k3t, .slice A4t m4t k4t, .slice A5t m5t k5t] 32) = W := ⟨_, rfl⟩
  have hb : Below V2.heap.size V2 V3 := by rw [<- hW]; exact (Below.refl _ _).alloc (Nat.le_refl _) _
  have Xt : Hid (Blk V3 bt 32 #[.slice A0t m0t k0t, .slice A1t m1t k1t, .slice A2t m2t k2t, .slice A3t m3t k3t, .slice A4t m4t k4t, .slice A5t m5t k5t]) := Lib.hid (by rw [<- hW]; exact Blk.newAt _ hbe _ _)
  replace R2 := Lib.hid (R2.out.below hb)
  replace R3 := Lib.hid (R3.out.below hb)
  replace R4 := Lib.hid (R4.out.below hb)
  have HTt := Lib.hid (ht.below hb)
  replace HB := Lib.hid (HB.out.trans (hb.mono HB.out.size))
  have HRt := Lib.hid hrtt; have HEt := Lib.hid helt; have TEt := Lib.hid htt; have HWt := Lib.hid hW; have HBEt := Lib.hid hbe
  clear ht hrtt helt htt hW hb hbe hm0t hm1t hm2t hm3t hm4t hm5t
  go_wp2_with fail
  rw [HWt.out]
  try simp only [HBEt.out]
  refine (bytes_short a5 len5 cap5 z5 none 0 0 [] w _ HB.out I5.out (.inl ⟨rfl, rfl, rfl, rfl⟩) (Nat.le_refl _)).mono ?_
  rintro e V4 ⟨S, rfl, S9, hb⟩
  replace HTt := Lib.hid (HTt.out.below hb)
  replace Xt := Lib.hid (Blk.below Xt.out hb Xt.out.lt)
  replace HB := Lib.hid (HB.out.trans (hb.mono HB.out.size))
  clear hb
  go_wp2_with fail
  refine (refdecode_any S _ (by omega)).mono ?_
  intro e V5 hd
  unfold DecTells at hd
  obtain ⟨v, u, rfl, hv, -, -, hb⟩ := hd
  have hr := hv.readsI
  have hsc := scs_scalar S.data.toList
  have hsz : S.data.toList.length = S.size := rfl
  have hsl := scs_length_le S.data.toList
  rw [hsz] at hsl
  obtain ⟨sc, hsce⟩ : ∃ l, scs S.data.toList = l := ⟨_, rfl⟩
  rw [hsce] at hr hsc hsl
  obtain ⟨N, hN⟩ : ∃ N, sc.length = N := ⟨_, rfl⟩
  rw [hN] at hr hsl
  obtain ⟨A, cap, rfl, -, -, -⟩ := hr.form
  try rw [hsce]
  try rw [hN]
  have HRS := Lib.hid hr; have HSC := Lib.hid hsc; have HN_ := Lib.hid hN
  have N9 : N <= 160 := by omega
  clear hv hr hsce hsc hsz hN hsl
  replace HTt := Lib.hid (HTt.out.below hb)
  replace Xt := Lib.hid (Blk.below Xt.out hb Xt.out.lt)
  replace HB := Lib.hid (HB.out.trans (hb.mono HB.out.size))
  clear hb
  obtain ⟨V6, hV6⟩ : ∃ W, V5.alloc (.cells #[] 3) = W := ⟨_, rfl⟩
  have hb : Below V5.heap.size V5 V6 := by rw [<- hV6]; exact (Below.refl _ _).alloc (Nat.le_refl _) _
  have ho0 := Own.none_ V5
  rw [hV6] at ho0
  have hz0 : V5.heap.size <= V6.heap.size := hb.size
  have HO0 := Lib.hid ho0; have HR6 := Lib.hid (HRS.out.below hb); have HV6 := Lib.hid hV6; have HB6 := Lib.hid hb
  clear ho0 hV6 hb
  go_wp2_with (at_builtin; rw [HV6.out]; refine wpList_concatI rfl (.tmp 39) (.tmp 40) rfl V5.heap.size (sl V5.heap.size 0 0) 0 [] (by rfl) HO0.out (.slice A N cap) N sc (by rfl) HR6.out (by omega) hz0 ?_; intro v7 V7 xr hb7 q2 q3; have XR := Lib.hid xr; have HB7 := Lib.hid hb7; clear xr hb7 q2 q3)
  rw [Nat.zero_add, List.nil_append] at XR
  obtain ⟨XA, xc, rfl, -, -, -⟩ := XR.out.readsI.form
  have HBV : Hid (Below V5.heap.size V5 V7) := Lib.hid (HB6.out.trans HB7.out)
  have HGD : Hid (GoodX tt sc sc) := Lib.hid (GoodX.refl _ HSC.out)
  clear HB6 HB7 HR6 HO0 HV6 hz0
  try go_wp2_with fail
  try trivial
  go_loopw [19] (fun vi wr => ∃ (i : Nat) (X : List Int), vi = .int .i64 (i : Int) /\ i <= N /\ Hid (Own wr V5.heap.size (.slice XA N xc) N X) /\ Hid (GoodX tt sc X) /\ Hid (Below V5.heap.size V5 wr)) (fun vi _ => N - (intOf vi).toNat)
  case atStart => exact ⟨0, sc, rfl, Nat.zero_le _, XR, HGD, HBV⟩
  case round =>
   clear XR HGD HBV
   obtain ⟨i, X, rfl, hi, HO, HGD, HBV⟩ := hrel
   have i0 : (0 : Int) <= (i : Int) := Int.natCast_nonneg _
   by_cases hlt : i < N
   ·have i1 : (i : Int) < (N : Int) := by omega
    obtain ⟨g, eA, hgB⟩ : ∃ g, XA = some ⟨g, 0, none⟩ /\ V5.heap.size <= g := by
     rcases HO.out.form with ⟨-, e, -⟩ | ⟨g, c, e, h1, -, -, -⟩
     ·omega
     ·simp only [Value.slice.injEq, true_and] at e
      exact ⟨g, e.1, h1⟩
    subst eA
    have hXl := HO.out.len
    obtain ⟨g2, o2, e2, -, hcl⟩ := HO.out.readsI.at i hlt
    cases e2
    rw [Nat.zero_add] at hcl
    have hfz := World.ownsRow.frozenAt HO.out i
    have hzi := (HGD.out i (by rw [HN_.out]; exact hlt)).1
    obtain ⟨z, hz⟩ : ∃ z, X.getD i 0 = z := ⟨_, rfl⟩
    rw [hz] at hcl hzi
    have wm : IntKind.i64.wrap ((i : Int) * (i : Int)) = (i : Int) * (i : Int) := by
     have h1 : i * i <= 160 * 160 := Nat.mul_le_mul (by omega) (by omega)
     have h2 : (i : Int) * (i : Int) = ((i * i : Nat) : Int) := by simp
     rw [h2]
     exact IntWalk.i64_in _ (by omega)
    obtain ⟨y0, hy0⟩ : ∃ y, IntKind.i64.wrap (a6 + (i : Int) * (i : Int)) = y := ⟨_, rfl⟩
    have HZ := Lib.hid hz
    clear hz
    go_wp2_with fail
    try rw [hy0]
    clear hy0 wm
    refine (swithin_any y0 1114112 (by omega) (by omega) _).mono ?_
    rintro e w6 ⟨rfl, hw⟩
    subst w6
    obtain ⟨y, hy⟩ : ∃ zz : Nat, y0 % 1114112 = (zz : Int) := ⟨(y0 % 1114112).toNat, by omega⟩
    have hy9 : y < 1114112 := by omega
    rw [hy]
    clear hy
    have htc := Blk.below Xt.out HBV.out Xt.out.lt
    obtain ⟨D0, hD0⟩ : ∃ D, wr.drew = D := ⟨_, rfl⟩
    have hS : (fun W : World => (W.cell? ⟨bt, 0, none⟩ = some (.slice A0t m0t k0t) /\ W.cell? ⟨bt, 1, none⟩ = some (.slice A1t m1t k1t)) /\ W.cell? ⟨g, i, none⟩ = some (.int .i64 z)) D0 := by rw [<- hD0]; exact ⟨⟨htc.cell 0, htc.cell 1⟩, hcl⟩
    have HOD : Hid (Own D0 V5.heap.size (.slice (some ⟨g, 0, none⟩) N xc) N X) := Lib.hid (by rw [<- hD0]; exact HO.out.drew)
    have HBD : Hid (Below V5.heap.size V5 D0) := Lib.hid (by rw [<- hD0]; exact HBV.out.drew)
    have hfz2 : D0.frozen? ⟨g, i, none⟩ = false := by rw [<- hD0]; exact hfz
    have hcl2 : D0.cell? ⟨g, i, none⟩ = some (.int .i64 z) := hS.2
    clear htc hcl hfz
    go_wp2_with fail
    refine region_y 19 (fun W : World => (W.cell? ⟨bt, 0, none⟩ = some (.slice A0t m0t k0t) /\ W.cell? ⟨bt, 1, none⟩ = some (.slice A1t m1t k1t)) /\ W.cell? ⟨g, i, none⟩ = some (.int .i64 z)) (by kernel_rfl) ?_
    rw [hD0]
    clear hD0
    cases hsb : scB (y : Int) with
    | false =>
      have ht0 := hsb
      refine tkyg [2, 1] (i := 0) (v := ?_) hS ?_ ?_
      rotate_left
      ·rintro w' ⟨⟨d0', d1'⟩, d2'⟩
       go_simp
       try with_reducible rfl
      try simp only [Act.put, zq1, zq2, zq3, zq4, zq5, zq6]
      refine anyY_gw (i := 1) (by kernel_rfl) rfl (by rfl) ?_
      intro K hK
      try simp only [zq1, zq2, zq3]
      refine wp_enterE #[.int .i64 (y : Int)] Try.func40 (by kernel_rfl) (by kernel_rfl) ?_ (refscalar_any (y : Int) _) ?_
      ·go_simp
      rintro e w' ⟨rfl, hw⟩
      subst hw
      rw [hsb]
      refine ⟨_, rfl, ?_⟩
      refine hK _ _ hS ?_
      clear hK
      try simp only [Act.put, zq1, zq2, zq3, zq4, zq5, zq6]
      refine tky (i := 2) (v := ?_) hS ?_ ?_
      rotate_left
      ·rintro w' ⟨⟨d0', d1'⟩, d2'⟩
       go_simp
       try with_reducible rfl
      try simp only [Act.put, zq1, zq2, zq3, zq4, zq5, zq6]
      refine tkygskip [18, 8, 4] (i := 3) hS ?_
      try simp only [Act.put, zq1, zq2, zq3, zq4, zq5, zq6]
      refine tkygskip [18, 8] (i := 4) hS ?_
      try simp only [Act.put, zq1, zq2, zq3, zq4, zq5, zq6]
      refine tkygskip [18, 8, 6] (i := 5) hS ?_
      try simp only [Act.put, zq1, zq2, zq3, zq4, zq5, zq6]
      refine tkygskip [18, 8] (i := 6) hS ?_
      try simp only [Act.put, zq1, zq2, zq3, zq4, zq5, zq6]
      refine tkygskip [18, 8] (i := 7) hS ?_
      try simp only [Act.put, zq1, zq2, zq3, zq4, zq5, zq6]
      refine tkygskip [18] (i := 8) hS ?_
      try simp only [Act.put, zq1, zq2, zq3, zq4, zq5, zq6]
      refine tkygskip [18, 17, 10] (i := 9) hS ?_
      try simp only [Act.put, zq1, zq2, zq3, zq4, zq5, zq6]
      refine tkygskip [18, 17] (i := 10) hS ?_
      try simp only [Act.put, zq1, zq2, zq3, zq4, zq5, zq6]
      refine tkygskip [18, 17, 12] (i := 11) hS ?_
      try simp only [Act.put, zq1, zq2, zq3, zq4, zq5, zq6]
      refine tkygskip [18, 17] (i := 12) hS ?_
      try simp only [Act.put, zq1, zq2, zq3, zq4, zq5, zq6]
      refine tkygskip [18, 17, 16, 15] (i := 13) hS ?_
      try simp only [Act.put, zq1, zq2, zq3, zq4, zq5, zq6]
      refine tkygskip [18, 17, 16, 15] (i := 14) hS ?_
      try simp only [Act.put, zq1, zq2, zq3, zq4, zq5, zq6]
      refine tkygskip [18, 17, 16] (i := 15) hS ?_
      try simp only [Act.put, zq1, zq2, zq3, zq4, zq5, zq6]
      refine tkygskip [18, 17] (i := 16) hS ?_
      try simp only [Act.put, zq1, zq2, zq3, zq4, zq5, zq6]
      refine tkygskip [18] (i := 17) hS ?_
      try simp only [Act.put, zq1, zq2, zq3, zq4, zq5, zq6]
      refine tkygskip [] (i := 18) hS ?_
      try simp only [Act.put, zq1, zq2, zq3, zq4, zq5, zq6]
      refine anyY_last (i := 19) (by kernel_rfl) (by kernel_rfl) (by kernel_rfl) rfl rfl ?_
      try simp only [zq1, zq2, zq3]
      go_simp
      try apply_assumption
      clear hS
      go_wp2_with fail
      first | exact ⟨⟨i + 1, X, by go_num, by omega, HOD, HGD, HBD⟩, by simp [intOf]; omega⟩ | exact ⟨⟨i + 1, by go_num, by omega, X, HOD, HGD⟩, by simp [intOf]; omega⟩ | exact ⟨⟨i + 1, by go_num, by omega, ⟨X, HOD, HGD⟩⟩, by simp [intOf]; omega⟩
    | true =>
      obtain ⟨p, hp⟩ : ∃ p, lettI tt (y : Int) = p := ⟨_, rfl⟩
      obtain ⟨q, hq⟩ : ∃ q, lettI tt z = q := ⟨_, rfl⟩
      have HPE := Lib.hid hp; have HQE := Lib.hid hq
      clear hp hq
      by_cases hpq : p = q
      rotate_left
      ·have hpb : (p == q) = false := by simpa using hpq
       refine tkyg [2, 1] (i := 0) (v := ?_) hS ?_ ?_
       rotate_left
       ·rintro w' ⟨⟨d0', d1'⟩, d2'⟩
        go_simp
        try with_reducible rfl
       try simp only [Act.put, zq1, zq2, zq3, zq4, zq5, zq6]
       refine anyY_gw (i := 1) (by kernel_rfl) rfl (by rfl) ?_
       intro K hK
       try simp only [zq1, zq2, zq3]
       refine wp_enterE #[.int .i64 (y : Int)] Try.func40 (by kernel_rfl) (by kernel_rfl) ?_ (refscalar_any (y : Int) _) ?_
       ·go_simp
       rintro e w' ⟨rfl, hw⟩
       subst hw
       rw [hsb]
       refine ⟨_, rfl, ?_⟩
       refine hK _ _ hS ?_
       clear hK
       try simp only [Act.put, zq1, zq2, zq3, zq4, zq5, zq6]
       refine tky (i := 2) (v := ?_) hS ?_ ?_
       rotate_left
       ·rintro w' ⟨⟨d0', d1'⟩, d2'⟩
        go_simp
        try with_reducible rfl
       try simp only [Act.put, zq1, zq2, zq3, zq4, zq5, zq6]
       refine tkyg [18, 8, 4] (i := 3) (v := ?_) hS ?_ ?_
       rotate_left
       ·rintro w' ⟨⟨d0', d1'⟩, d2'⟩
        go_simp
        try with_reducible rfl
       try simp only [Act.put, zq1, zq2, zq3, zq4, zq5, zq6]
       refine tkyg [18, 8] (i := 4) (v := ?_) hS ?_ ?_
       rotate_left
       ·rintro w' ⟨⟨d0', d1'⟩, d2'⟩
        go_simp
        try with_reducible rfl
       try simp only [Act.put, zq1, zq2, zq3, zq4, zq5, zq6]
       refine tkyg [18, 8, 6] (i := 5) (v := ?_) hS ?_ ?_
       rotate_left
       ·rintro w' ⟨⟨d0', d1'⟩, d2'⟩
        go_simp
        try with_reducible rfl
       try simp only [Act.put, zq1, zq2, zq3, zq4, zq5, zq6]
       refine tkyg [18, 8] (i := 6) (v := ?_) hS ?_ ?_
       rotate_left
       ·rintro w' ⟨⟨d0', d1'⟩, d2'⟩
        go_simp
        try with_reducible rfl
       try simp only [Act.put, zq1, zq2, zq3, zq4, zq5, zq6]
       refine tkyg [18, 8] (i := 7) (v := ?_) hS ?_ ?_
       rotate_left
       ·rintro w' ⟨⟨d0', d1'⟩, d2'⟩
        go_simp
        try with_reducible rfl
       try simp only [Act.put, zq1, zq2, zq3, zq4, zq5, zq6]
       refine tkyg [18, 17, 10] (i := 9) (v := ?_) hS ?_ ?_
       rotate_left
       ·rintro w' ⟨⟨d0', d1'⟩, d2'⟩
        go_simp
        try with_reducible rfl
       try simp only [Act.put, zq1, zq2, zq3, zq4, zq5, zq6]
       refine tkyg [18, 17] (i := 10) (v := ?_) hS ?_ ?_
       rotate_left
       ·rintro w' ⟨⟨d0', d1'⟩, d2'⟩
        go_simp
        try with_reducible rfl
       try simp only [Act.put, zq1, zq2, zq3, zq4, zq5, zq6]
       refine tkyg [18, 17, 12] (i := 11) (v := ?_) hS ?_ ?_
       rotate_left
       ·rintro w' ⟨⟨d0', d1'⟩, d2'⟩
        go_simp
        try with_reducible rfl
       try simp only [Act.put, zq1, zq2, zq3, zq4, zq5, zq6]
       refine tkyg [18, 17] (i := 12) (v := ?_) hS ?_ ?_
       rotate_left
       ·rintro w' ⟨⟨d0', d1'⟩, d2'⟩
        go_simp
        try with_reducible rfl
       try simp only [Act.put, zq1, zq2, zq3, zq4, zq5, zq6]
       refine tkyg [18, 17, 16, 15] (i := 13) (v := ?_) hS ?_ ?_
       rotate_left
       ·rintro w' ⟨⟨d0', d1'⟩, d2'⟩
        go_simp
        try with_reducible rfl
       try simp only [Act.put, zq1, zq2, zq3, zq4, zq5, zq6]
       refine tkyg [18, 17, 16, 15] (i := 14) (v := ?_) hS ?_ ?_
       rotate_left
       ·rintro w' ⟨⟨d0', d1'⟩, d2'⟩
        go_simp
        try with_reducible rfl
       try simp only [Act.put, zq1, zq2, zq3, zq4, zq5, zq6]
       refine tkyg [18, 17, 16] (i := 15) (v := ?_) hS ?_ ?_
       rotate_left
       ·rintro w' ⟨⟨d0', d1'⟩, d2'⟩
        go_simp
        try with_reducible rfl
       try simp only [Act.put, zq1, zq2, zq3, zq4, zq5, zq6]
       refine tkyg [18, 17] (i := 16) (v := ?_) hS ?_ ?_
       rotate_left
       ·rintro w' ⟨⟨d0', d1'⟩, d2'⟩
        go_simp
        try with_reducible rfl
       try simp only [Act.put, zq1, zq2, zq3, zq4, zq5, zq6]
       refine anyY_gw (i := 8) (by kernel_rfl) rfl (by rfl) ?_
       intro K hK
       try simp only [zq1, zq2, zq3]
       refine wp_enterE #[.slice A0t m0t k0t, .slice A1t m1t k1t, .int .i64 (y : Int)] Try.func41 (by kernel_rfl) (by kernel_rfl) ?_ (srlet_tab (T := tt) (by rw [HM0t.out]; exact (show ReadsI D0 (.slice A0t m0t k0t) m0t tt.cuts by have := (HTt.out.below HBD.out).c; rwa [HM0t.out] at this)) (by rw [HM1t.out]; exact (show ReadsI D0 (.slice A1t m1t k1t) m1t tt.letters by have := (HTt.out.below HBD.out).l; rwa [HM1t.out] at this)) HRt.out (x := (y : Int)) (by omega) (by omega)) ?_
       ·go_simp
       rintro e w' ⟨rfl, hw⟩
       subst hw
       rw [HPE.out]
       refine ⟨_, rfl, ?_⟩
       refine hK _ _ hS ?_
       clear hK
       try simp only [Act.put, zq1, zq2, zq3, zq4, zq5, zq6]
       refine anyY_gw (i := 17) (by kernel_rfl) rfl (by rfl) ?_
       intro K hK
       try simp only [zq1, zq2, zq3]
       refine wp_enterE #[.slice A0t m0t k0t, .slice A1t m1t k1t, .int .i64 z] Try.func41 (by kernel_rfl) (by kernel_rfl) ?_ (srlet_tab (T := tt) (by rw [HM0t.out]; exact (show ReadsI D0 (.slice A0t m0t k0t) m0t tt.cuts by have := (HTt.out.below HBD.out).c; rwa [HM0t.out] at this)) (by rw [HM1t.out]; exact (show ReadsI D0 (.slice A1t m1t k1t) m1t tt.letters by have := (HTt.out.below HBD.out).l; rwa [HM1t.out] at this)) HRt.out (x := z) (hzi.1) (hzi.2.1)) ?_
       ·go_simp
       rintro e w' ⟨rfl, hw⟩
       subst hw
       rw [HQE.out]
       refine ⟨_, rfl, ?_⟩
       refine hK _ _ hS ?_
       clear hK
       try simp only [Act.put, zq1, zq2, zq3, zq4, zq5, zq6]
       refine tky (i := 18) (v := ?_) hS ?_ ?_
       rotate_left
       ·rintro w' ⟨⟨d0', d1'⟩, d2'⟩
        go_simp
        try with_reducible rfl
       try simp only [Act.put, zq1, zq2, zq3, zq4, zq5, zq6]
       refine anyY_last (i := 19) (by kernel_rfl) (by kernel_rfl) (by kernel_rfl) rfl rfl ?_
       try simp only [zq1, zq2, zq3]
       go_simp
       try apply_assumption
       have hpb2 := hpb
       clear hS
       go_wp2_with fail
       first | exact ⟨⟨i + 1, X, by go_num, by omega, HOD, HGD, HBD⟩, by simp [intOf]; omega⟩ | exact ⟨⟨i + 1, by go_num, by omega, X, HOD, HGD⟩, by simp [intOf]; omega⟩ | exact ⟨⟨i + 1, by go_num, by omega, ⟨X, HOD, HGD⟩⟩, by simp [intOf]; omega⟩
      ·have hpb : (p == q) = true := by simpa using hpq
       refine tkyg [2, 1] (i := 0) (v := ?_) hS ?_ ?_
       rotate_left
       ·rintro w' ⟨⟨d0', d1'⟩, d2'⟩
        go_simp
        try with_reducible rfl
       try simp only [Act.put, zq1, zq2, zq3, zq4, zq5, zq6]
       refine anyY_gw (i := 1) (by kernel_rfl) rfl (by rfl) ?_
       intro K hK
       try simp only [zq1, zq2, zq3]
       refine wp_enterE #[.int .i64 (y : Int)] Try.func40 (by kernel_rfl) (by kernel_rfl) ?_ (refscalar_any (y : Int) _) ?_
       ·go_simp
       rintro e w' ⟨rfl, hw⟩
       subst hw
       rw [hsb]
       refine ⟨_, rfl, ?_⟩
       refine hK _ _ hS ?_
       clear hK
       try simp only [Act.put, zq1, zq2, zq3, zq4, zq5, zq6]
       refine tky (i := 2) (v := ?_) hS ?_ ?_
       rotate_left
       ·rintro w' ⟨⟨d0', d1'⟩, d2'⟩
        go_simp
        try with_reducible rfl
       try simp only [Act.put, zq1, zq2, zq3, zq4, zq5, zq6]
       refine tkyg [18, 8, 4] (i := 3) (v := ?_) hS ?_ ?_
       rotate_left
       ·rintro w' ⟨⟨d0', d1'⟩, d2'⟩
        go_simp
        try with_reducible rfl
       try simp only [Act.put, zq1, zq2, zq3, zq4, zq5, zq6]
       refine tkyg [18, 8] (i := 4) (v := ?_) hS ?_ ?_
       rotate_left
       ·rintro w' ⟨⟨d0', d1'⟩, d2'⟩
        go_simp
        try with_reducible rfl
       try simp only [Act.put, zq1, zq2, zq3, zq4, zq5, zq6]
       refine tkyg [18, 8, 6] (i := 5) (v := ?_) hS ?_ ?_
       rotate_left
       ·rintro w' ⟨⟨d0', d1'⟩, d2'⟩
        go_simp
        try with_reducible rfl
       try simp only [Act.put, zq1, zq2, zq3, zq4, zq5, zq6]
       refine tkyg [18, 8] (i := 6) (v := ?_) hS ?_ ?_
       rotate_left
       ·rintro w' ⟨⟨d0', d1'⟩, d2'⟩
        go_simp
        try with_reducible rfl
       try simp only [Act.put, zq1, zq2, zq3, zq4, zq5, zq6]
       refine tkyg [18, 8] (i := 7) (v := ?_) hS ?_ ?_
       rotate_left
       ·rintro w' ⟨⟨d0', d1'⟩, d2'⟩
        go_simp
        try with_reducible rfl
       try simp only [Act.put, zq1, zq2, zq3, zq4, zq5, zq6]
       refine tkyg [18, 17, 10] (i := 9) (v := ?_) hS ?_ ?_
       rotate_left
       ·rintro w' ⟨⟨d0', d1'⟩, d2'⟩
        go_simp
        try with_reducible rfl
       try simp only [Act.put, zq1, zq2, zq3, zq4, zq5, zq6]
       refine tkyg [18, 17] (i := 10) (v := ?_) hS ?_ ?_
       rotate_left
       ·rintro w' ⟨⟨d0', d1'⟩, d2'⟩
        go_simp
        try with_reducible rfl
       try simp only [Act.put, zq1, zq2, zq3, zq4, zq5, zq6]
       refine tkyg [18, 17, 12] (i := 11) (v := ?_) hS ?_ ?_
       rotate_left
       ·rintro w' ⟨⟨d0', d1'⟩, d2'⟩
        go_simp
        try with_reducible rfl
       try simp only [Act.put, zq1, zq2, zq3, zq4, zq5, zq6]
       refine tkyg [18, 17] (i := 12) (v := ?_) hS ?_ ?_
       rotate_left
       ·rintro w' ⟨⟨d0', d1'⟩, d2'⟩
        go_simp
        try with_reducible rfl
       try simp only [Act.put, zq1, zq2, zq3, zq4, zq5, zq6]
       refine tkyg [18, 17, 16, 15] (i := 13) (v := ?_) hS ?_ ?_
       rotate_left
       ·rintro w' ⟨⟨d0', d1'⟩, d2'⟩
        go_simp
        try with_reducible rfl
       try simp only [Act.put, zq1, zq2, zq3, zq4, zq5, zq6]
       refine tkyg [18, 17, 16, 15] (i := 14) (v := ?_) hS ?_ ?_
       rotate_left
       ·rintro w' ⟨⟨d0', d1'⟩, d2'⟩
        go_simp
        try with_reducible rfl
       try simp only [Act.put, zq1, zq2, zq3, zq4, zq5, zq6]
       refine tkyg [18, 17, 16] (i := 15) (v := ?_) hS ?_ ?_
       rotate_left
       ·rintro w' ⟨⟨d0', d1'⟩, d2'⟩
        go_simp
        try with_reducible rfl
       try simp only [Act.put, zq1, zq2, zq3, zq4, zq5, zq6]
       refine tkyg [18, 17] (i := 16) (v := ?_) hS ?_ ?_
       rotate_left
       ·rintro w' ⟨⟨d0', d1'⟩, d2'⟩
        go_simp
        try with_reducible rfl
       try simp only [Act.put, zq1, zq2, zq3, zq4, zq5, zq6]
       refine anyY_gw (i := 8) (by kernel_rfl) rfl (by rfl) ?_
       intro K hK
       try simp only [zq1, zq2, zq3]
       refine wp_enterE #[.slice A0t m0t k0t, .slice A1t m1t k1t, .int .i64 (y : Int)] Try.func41 (by kernel_rfl) (by kernel_rfl) ?_ (srlet_tab (T := tt) (by rw [HM0t.out]; exact (show ReadsI D0 (.slice A0t m0t k0t) m0t tt.cuts by have := (HTt.out.below HBD.out).c; rwa [HM0t.out] at this)) (by rw [HM1t.out]; exact (show ReadsI D0 (.slice A1t m1t k1t) m1t tt.letters by have := (HTt.out.below HBD.out).l; rwa [HM1t.out] at this)) HRt.out (x := (y : Int)) (by omega) (by omega)) ?_
       ·go_simp
       rintro e w' ⟨rfl, hw⟩
       subst hw
       rw [HPE.out]
       refine ⟨_, rfl, ?_⟩
       refine hK _ _ hS ?_
       clear hK
       try simp only [Act.put, zq1, zq2, zq3, zq4, zq5, zq6]
       refine anyY_gw (i := 17) (by kernel_rfl) rfl (by rfl) ?_
       intro K hK
       try simp only [zq1, zq2, zq3]
       refine wp_enterE #[.slice A0t m0t k0t, .slice A1t m1t k1t, .int .i64 z] Try.func41 (by kernel_rfl) (by kernel_rfl) ?_ (srlet_tab (T := tt) (by rw [HM0t.out]; exact (show ReadsI D0 (.slice A0t m0t k0t) m0t tt.cuts by have := (HTt.out.below HBD.out).c; rwa [HM0t.out] at this)) (by rw [HM1t.out]; exact (show ReadsI D0 (.slice A1t m1t k1t) m1t tt.letters by have := (HTt.out.below HBD.out).l; rwa [HM1t.out] at this)) HRt.out (x := z) (hzi.1) (hzi.2.1)) ?_
       ·go_simp
       rintro e w' ⟨rfl, hw⟩
       subst hw
       rw [HQE.out]
       refine ⟨_, rfl, ?_⟩
       refine hK _ _ hS ?_
       clear hK
       try simp only [Act.put, zq1, zq2, zq3, zq4, zq5, zq6]
       refine tky (i := 18) (v := ?_) hS ?_ ?_
       rotate_left
       ·rintro w' ⟨⟨d0', d1'⟩, d2'⟩
        go_simp
        try with_reducible rfl
       try simp only [Act.put, zq1, zq2, zq3, zq4, zq5, zq6]
       refine anyY_last (i := 19) (by kernel_rfl) (by kernel_rfl) (by kernel_rfl) rfl rfl ?_
       try simp only [zq1, zq2, zq3]
       go_simp
       try apply_assumption
       clear hS
       go_wp2_with fail
       have HO2 : Hid (Own (D0.setCell ⟨g, i, none⟩ (.int .i64 (y : Int))) V5.heap.size (.slice (some ⟨g, 0, none⟩) N xc) N (X.set i (y : Int))) := Lib.hid (HOD.out.stored i (y : Int)).1
       have HB2 : Hid (Below V5.heap.size V5 (D0.setCell ⟨g, i, none⟩ (.int .i64 (y : Int)))) := Lib.hid (HBD.out.setCell (p := ⟨g, i, none⟩) hgB _)
       have HG2 : Hid (GoodX tt sc (X.set i (y : Int))) := Lib.hid (HGD.out.set ((scB_iff _).1 hsb) (by rw [HPE.out, HZ.out, HQE.out]; exact hpq))
       first | exact ⟨⟨i + 1, X.set i (y : Int), by go_num, by omega, HO2, HG2, HB2⟩, by simp [intOf]; omega⟩ | exact ⟨⟨i + 1, by go_num, by omega, X.set i (y : Int), HO2, HG2⟩, by simp [intOf]; omega⟩
   ·obtain rfl : i = N := by omega
    have HXS := Lib.hid HO.out.readsI
    replace HRS := Lib.hid (HRS.out.below HBV.out)
    replace HTt := Lib.hid (HTt.out.below HBV.out)
    replace Xt := Lib.hid (Blk.below Xt.out HBV.out Xt.out.lt)
    replace HB := Lib.hid (HB.out.trans (HBV.out.mono HB.out.size))
    have hXl := HO.out.len
    have htx := HGD.out.text (by rw [hXl, HN_.out])
    have he1 := segT_enc tt HSC.out
    have he2 := segT_enc tt (HGD.out.scalars (by rw [hXl, HN_.out]))
    rw [htx] at he2
    have hl1 := enc_len sc
    have hl2 := enc_len X
    rw [HN_.out] at hl1
    rw [hXl] at hl2
    obtain ⟨E1, hE1⟩ : ∃ E : ByteArray, (⟨(enc sc).toArray⟩ : ByteArray) = E := ⟨_, rfl⟩
    obtain ⟨E2, hE2⟩ : ∃ E : ByteArray, (⟨(enc X).toArray⟩ : ByteArray) = E := ⟨_, rfl⟩
    have hE19 : E1.size <= 4000 := by
     have : E1.size = (enc sc).length := by rw [<- hE1]; simp [ByteArray.size]
     omega
    have hE29 : E2.size <= 4000 := by
     have : E2.size = (enc X).length := by rw [<- hE2]; simp [ByteArray.size]
     omega
    rw [hE1] at he1
    rw [hE2] at he2
    obtain ⟨L, hL⟩ : ∃ l, segL tt (textI tt sc) = l := ⟨_, rfl⟩
    rw [hL] at he1 he2
    obtain ⟨M, hM⟩ : ∃ M, L.length = M := ⟨_, rfl⟩
    have HE1 := Lib.hid hE1; have HE2 := Lib.hid hE2; have HSE1 := Lib.hid he1; have HSE2 := Lib.hid he2; have HML := Lib.hid hM
    clear hE1 hE2 he1 he2 hM hL htx hl1 hl2 hXl HO HGD HBV
    obtain ⟨D0, hD0⟩ : ∃ V, wr.drew = V := ⟨_, rfl⟩
    have hb : Below wr.heap.size wr D0 := by rw [<- hD0]; exact (Below.refl _ _).drew
    replace HRS := Lib.hid (HRS.out.below hb)
    replace HXS := Lib.hid (HXS.out.below hb)
    replace HTt := Lib.hid (HTt.out.below hb)
    replace Xt := Lib.hid (Blk.below Xt.out hb Xt.out.lt)
    replace HB := Lib.hid (HB.out.trans (hb.mono HB.out.size))
    clear hb
    have hS : (fun W : World => W.cell? ⟨bt, 0, none⟩ = some (.slice A0t m0t k0t) /\ W.cell? ⟨bt, 1, none⟩ = some (.slice A1t m1t k1t) /\ W.cell? ⟨bt, 2, none⟩ = some (.slice A2t m2t k2t) /\ W.cell? ⟨bt, 3, none⟩ = some (.slice A3t m3t k3t) /\ W.cell? ⟨bt, 4, none⟩ = some (.slice A4t m4t k4t) /\ W.cell? ⟨bt, 5, none⟩ = some (.slice A5t m5t k5t)) D0 := ⟨Xt.out.cell 0, Xt.out.cell 1, Xt.out.cell 2, Xt.out.cell 3, Xt.out.cell 4, Xt.out.cell 5⟩
    go_wp2_with fail
    refine region_x 8 (fun W : World => W.cell? ⟨bt, 0, none⟩ = some (.slice A0t m0t k0t) /\ W.cell? ⟨bt, 1, none⟩ = some (.slice A1t m1t k1t) /\ W.cell? ⟨bt, 2, none⟩ = some (.slice A2t m2t k2t) /\ W.cell? ⟨bt, 3, none⟩ = some (.slice A3t m3t k3t) /\ W.cell? ⟨bt, 4, none⟩ = some (.slice A4t m4t k4t) /\ W.cell? ⟨bt, 5, none⟩ = some (.slice A5t m5t k5t)) (by kernel_rfl) ?_
    rw [hD0]
    clear hD0
    refine tkx (i := 0) (v := ?_) hS ?_ ?_
    rotate_left
    ·rintro w' ⟨d0', d1', d2', d3', d4', d5'⟩
     go_simp
     try with_reducible rfl
    try simp only [Act.put, zq1, zq2, zq3, zq4, zq5, zq6]
    refine tkx (i := 1) (v := ?_) hS ?_ ?_
    rotate_left
    ·rintro w' ⟨d0', d1', d2', d3', d4', d5'⟩
     go_simp
     try with_reducible rfl
    try simp only [Act.put, zq1, zq2, zq3, zq4, zq5, zq6]
    refine anyX_g (i := 2) (by kernel_rfl) (by decide) rfl (by rfl) ?_
    intro K hK
    try simp only [zq1, zq2, zq3]
    have henc := refencode_reads (show Reads D0 (.slice A i cap) i sc from HRS.out.reads) (by omega)
    rw [HE1.out] at henc
    refine wp_enterE #[.slice A i cap] Try.func39 (by kernel_rfl) (by kernel_rfl) ?_ henc ?_
    ·go_simp
    rintro e D1 ⟨rfl, hb⟩
    clear henc
    replace HRS := Lib.hid (HRS.out.below hb)
    replace HXS := Lib.hid (HXS.out.below hb)
    replace HTt := Lib.hid (HTt.out.below hb)
    replace Xt := Lib.hid (Blk.below Xt.out hb Xt.out.lt)
    replace HB := Lib.hid (HB.out.trans (hb.mono HB.out.size))
    clear hb
    clear hS
    have hS : (fun W : World => W.cell? ⟨bt, 0, none⟩ = some (.slice A0t m0t k0t) /\ W.cell? ⟨bt, 1, none⟩ = some (.slice A1t m1t k1t) /\ W.cell? ⟨bt, 2, none⟩ = some (.slice A2t m2t k2t) /\ W.cell? ⟨bt, 3, none⟩ = some (.slice A3t m3t k3t) /\ W.cell? ⟨bt, 4, none⟩ = some (.slice A4t m4t k4t) /\ W.cell? ⟨bt, 5, none⟩ = some (.slice A5t m5t k5t)) D1 := ⟨Xt.out.cell 0, Xt.out.cell 1, Xt.out.cell 2, Xt.out.cell 3, Xt.out.cell 4, Xt.out.cell 5⟩
    refine ⟨_, rfl, ?_⟩
    refine hK _ _ hS ?_
    clear hK
    try simp only [Act.put, zq1, zq2, zq3, zq4, zq5, zq6]
    refine anyX_g (i := 3) (by kernel_rfl) (by decide) rfl (by rfl) ?_
    intro K hK
    try simp only [zq1, zq2, zq3]
    have hseg := segment_any HTt.out E1
    rw [segT_ok HRt.out hE19, HSE1.out] at hseg
    unfold tabV at hseg
    refine wp_enterE #[.agg #[.slice A0t m0t k0t, .slice A1t m1t k1t, .slice A2t m2t k2t, .slice A3t m3t k3t, .slice A4t m4t k4t, .slice A5t m5t k5t], .string E1] Try.func18 (by kernel_rfl) (by kernel_rfl) ?_ hseg ?_
    ·go_simp
    rintro e D2 ⟨v, rfl, ⟨AL1, cL1, rfl, hL, -⟩, hb⟩
    clear hseg
    dsimp only at hL ⊢
    rw [HML.out] at hL ⊢
    have HSL1 := Lib.hid hL
    clear hL
    replace HRS := Lib.hid (HRS.out.below hb)
    replace HXS := Lib.hid (HXS.out.below hb)
    replace HTt := Lib.hid (HTt.out.below hb)
    replace Xt := Lib.hid (Blk.below Xt.out hb Xt.out.lt)
    replace HB := Lib.hid (HB.out.trans (hb.mono HB.out.size))
    clear hb
    clear hS
    have hS : (fun W : World => W.cell? ⟨bt, 0, none⟩ = some (.slice A0t m0t k0t) /\ W.cell? ⟨bt, 1, none⟩ = some (.slice A1t m1t k1t) /\ W.cell? ⟨bt, 2, none⟩ = some (.slice A2t m2t k2t) /\ W.cell? ⟨bt, 3, none⟩ = some (.slice A3t m3t k3t) /\ W.cell? ⟨bt, 4, none⟩ = some (.slice A4t m4t k4t) /\ W.cell? ⟨bt, 5, none⟩ = some (.slice A5t m5t k5t)) D2 := ⟨Xt.out.cell 0, Xt.out.cell 1, Xt.out.cell 2, Xt.out.cell 3, Xt.out.cell 4, Xt.out.cell 5⟩
    refine ⟨_, rfl, ?_⟩
    refine hK _ _ hS ?_
    clear hK
    try simp only [Act.put, zq1, zq2, zq3, zq4, zq5, zq6]
    refine tkx (i := 4) (v := ?_) hS ?_ ?_
    rotate_left
    ·rintro w' ⟨d0', d1', d2', d3', d4', d5'⟩
     go_simp
     try with_reducible rfl
    try simp only [Act.put, zq1, zq2, zq3, zq4, zq5, zq6]
    refine tkx (i := 5) (v := ?_) hS ?_ ?_
    rotate_left
    ·rintro w' ⟨d0', d1', d2', d3', d4', d5'⟩
     go_simp
     try with_reducible rfl
    try simp only [Act.put, zq1, zq2, zq3, zq4, zq5, zq6]
    refine tkx (i := 6) (v := ?_) hS ?_ ?_
    rotate_left
    ·rintro w' ⟨d0', d1', d2', d3', d4', d5'⟩
     go_simp
     try with_reducible rfl
    try simp only [Act.put, zq1, zq2, zq3, zq4, zq5, zq6]
    refine tkx (i := 7) (v := ?_) hS ?_ ?_
    rotate_left
    ·rintro w' ⟨d0', d1', d2', d3', d4', d5'⟩
     go_simp
     try with_reducible rfl
    try simp only [Act.put, zq1, zq2, zq3, zq4, zq5, zq6]
    refine anyX_last (by kernel_rfl) (by kernel_rfl) rfl rfl ?_
    try simp only [zq1, zq2, zq3]
    go_simp
    try apply_assumption
    clear hS
    obtain ⟨D3, hD3⟩ : ∃ V, D2.drew = V := ⟨_, rfl⟩
    have hb : Below D2.heap.size D2 D3 := by rw [<- hD3]; exact (Below.refl _ _).drew
    replace HSL1 := Lib.hid (HSL1.out.below hb)
    replace HRS := Lib.hid (HRS.out.below hb)
    replace HXS := Lib.hid (HXS.out.below hb)
    replace HTt := Lib.hid (HTt.out.below hb)
    replace Xt := Lib.hid (Blk.below Xt.out hb Xt.out.lt)
    replace HB := Lib.hid (HB.out.trans (hb.mono HB.out.size))
    clear hb
    have hS : (fun W : World => W.cell? ⟨bt, 0, none⟩ = some (.slice A0t m0t k0t) /\ W.cell? ⟨bt, 1, none⟩ = some (.slice A1t m1t k1t) /\ W.cell? ⟨bt, 2, none⟩ = some (.slice A2t m2t k2t) /\ W.cell? ⟨bt, 3, none⟩ = some (.slice A3t m3t k3t) /\ W.cell? ⟨bt, 4, none⟩ = some (.slice A4t m4t k4t) /\ W.cell? ⟨bt, 5, none⟩ = some (.slice A5t m5t k5t)) D3 := ⟨Xt.out.cell 0, Xt.out.cell 1, Xt.out.cell 2, Xt.out.cell 3, Xt.out.cell 4, Xt.out.cell 5⟩
    go_wp2_with fail
    refine region_x 8 (fun W : World => W.cell? ⟨bt, 0, none⟩ = some (.slice A0t m0t k0t) /\ W.cell? ⟨bt, 1, none⟩ = some (.slice A1t m1t k1t) /\ W.cell? ⟨bt, 2, none⟩ = some (.slice A2t m2t k2t) /\ W.cell? ⟨bt, 3, none⟩ = some (.slice A3t m3t k3t) /\ W.cell? ⟨bt, 4, none⟩ = some (.slice A4t m4t k4t) /\ W.cell? ⟨bt, 5, none⟩ = some (.slice A5t m5t k5t)) (by kernel_rfl) ?_
    rw [hD3]
    clear hD3
    refine tkx (i := 0) (v := ?_) hS ?_ ?_
    rotate_left
    ·rintro w' ⟨d0', d1', d2', d3', d4', d5'⟩
     go_simp
     try with_reducible rfl
    try simp only [Act.put, zq1, zq2, zq3, zq4, zq5, zq6]
    refine tkx (i := 1) (v := ?_) hS ?_ ?_
    rotate_left
    ·rintro w' ⟨d0', d1', d2', d3', d4', d5'⟩
     go_simp
     try with_reducible rfl
    try simp only [Act.put, zq1, zq2, zq3, zq4, zq5, zq6]
    refine anyX_g (i := 2) (by kernel_rfl) (by decide) rfl (by rfl) ?_
    intro K hK
    try simp only [zq1, zq2, zq3]
    have henc := refencode_reads (show Reads D3 (.slice XA i xc) i X from HXS.out.reads) (by omega)
    rw [HE2.out] at henc
    refine wp_enterE #[.slice XA i xc] Try.func39 (by kernel_rfl) (by kernel_rfl) ?_ henc ?_
    ·go_simp
    rintro e D4 ⟨rfl, hb⟩
    clear henc
    replace HSL1 := Lib.hid (HSL1.out.below hb)
    replace HRS := Lib.hid (HRS.out.below hb)
    replace HXS := Lib.hid (HXS.out.below hb)
    replace HTt := Lib.hid (HTt.out.below hb)
    replace Xt := Lib.hid (Blk.below Xt.out hb Xt.out.lt)
    replace HB := Lib.hid (HB.out.trans (hb.mono HB.out.size))
    clear hb
    clear hS
    have hS : (fun W : World => W.cell? ⟨bt, 0, none⟩ = some (.slice A0t m0t k0t) /\ W.cell? ⟨bt, 1, none⟩ = some (.slice A1t m1t k1t) /\ W.cell? ⟨bt, 2, none⟩ = some (.slice A2t m2t k2t) /\ W.cell? ⟨bt, 3, none⟩ = some (.slice A3t m3t k3t) /\ W.cell? ⟨bt, 4, none⟩ = some (.slice A4t m4t k4t) /\ W.cell? ⟨bt, 5, none⟩ = some (.slice A5t m5t k5t)) D4 := ⟨Xt.out.cell 0, Xt.out.cell 1, Xt.out.cell 2, Xt.out.cell 3, Xt.out.cell 4, Xt.out.cell 5⟩
    refine ⟨_, rfl, ?_⟩
    refine hK _ _ hS ?_
    clear hK
    try simp only [Act.put, zq1, zq2, zq3, zq4, zq5, zq6]
    refine anyX_g (i := 3) (by kernel_rfl) (by decide) rfl (by rfl) ?_
    intro K hK
    try simp only [zq1, zq2, zq3]
    have hseg := segment_any HTt.out E2
    rw [segT_ok HRt.out hE29, HSE2.out] at hseg
    unfold tabV at hseg
    refine wp_enterE #[.agg #[.slice A0t m0t k0t, .slice A1t m1t k1t, .slice A2t m2t k2t, .slice A3t m3t k3t, .slice A4t m4t k4t, .slice A5t m5t k5t], .string E2] Try.func18 (by kernel_rfl) (by kernel_rfl) ?_ hseg ?_
    ·go_simp
    rintro e D5 ⟨v, rfl, ⟨AL2, cL2, rfl, hL, -⟩, hb⟩
    clear hseg
    dsimp only at hL ⊢
    rw [HML.out] at hL ⊢
    have HSL2 := Lib.hid hL
    clear hL
    replace HSL1 := Lib.hid (HSL1.out.below hb)
    replace HRS := Lib.hid (HRS.out.below hb)
    replace HXS := Lib.hid (HXS.out.below hb)
    replace HTt := Lib.hid (HTt.out.below hb)
    replace Xt := Lib.hid (Blk.below Xt.out hb Xt.out.lt)
    replace HB := Lib.hid (HB.out.trans (hb.mono HB.out.size))
    clear hb
    clear hS
    have hS : (fun W : World => W.cell? ⟨bt, 0, none⟩ = some (.slice A0t m0t k0t) /\ W.cell? ⟨bt, 1, none⟩ = some (.slice A1t m1t k1t) /\ W.cell? ⟨bt, 2, none⟩ = some (.slice A2t m2t k2t) /\ W.cell? ⟨bt, 3, none⟩ = some (.slice A3t m3t k3t) /\ W.cell? ⟨bt, 4, none⟩ = some (.slice A4t m4t k4t) /\ W.cell? ⟨bt, 5, none⟩ = some (.slice A5t m5t k5t)) D5 := ⟨Xt.out.cell 0, Xt.out.cell 1, Xt.out.cell 2, Xt.out.cell 3, Xt.out.cell 4, Xt.out.cell 5⟩
    refine ⟨_, rfl, ?_⟩
    refine hK _ _ hS ?_
    clear hK
    try simp only [Act.put, zq1, zq2, zq3, zq4, zq5, zq6]
    refine tkx (i := 4) (v := ?_) hS ?_ ?_
    rotate_left
    ·rintro w' ⟨d0', d1', d2', d3', d4', d5'⟩
     go_simp
     try with_reducible rfl
    try simp only [Act.put, zq1, zq2, zq3, zq4, zq5, zq6]
    refine tkx (i := 5) (v := ?_) hS ?_ ?_
    rotate_left
    ·rintro w' ⟨d0', d1', d2', d3', d4', d5'⟩
     go_simp
     try with_reducible rfl
    try simp only [Act.put, zq1, zq2, zq3, zq4, zq5, zq6]
    refine tkx (i := 6) (v := ?_) hS ?_ ?_
    rotate_left
    ·rintro w' ⟨d0', d1', d2', d3', d4', d5'⟩
     go_simp
     try with_reducible rfl
    try simp only [Act.put, zq1, zq2, zq3, zq4, zq5, zq6]
    refine tkx (i := 7) (v := ?_) hS ?_ ?_
    rotate_left
    ·rintro w' ⟨d0', d1', d2', d3', d4', d5'⟩
     go_simp
     try with_reducible rfl
    try simp only [Act.put, zq1, zq2, zq3, zq4, zq5, zq6]
    refine anyX_last (by kernel_rfl) (by kernel_rfl) rfl rfl ?_
    try simp only [zq1, zq2, zq3]
    go_simp
    try apply_assumption
    clear hS
    have HVT := Lib.hid (vecs_true HSL1.out HSL2.out)
    go_wp2_with fail
    refine HVT.out.mono ?_
    rintro e D6 ⟨rfl, d, rfl⟩
    go_wp2_with fail
    go_ret
    exact ⟨rfl, sbel_drewN HB.out _⟩
end Go.Proofs.Ytacgakkcpmhgmaa
