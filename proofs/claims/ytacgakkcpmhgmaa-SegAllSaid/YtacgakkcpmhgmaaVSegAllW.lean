/- SegAll: of any table, any bytes, what breaking costs at each place is the document's. -/
import Derived.Test.YtacgakkcpmhgmaaVSegU
import Derived.Test.YtacgakkcpmhgmaaVMiniMd
set_option linter.unusedVariables false
set_option linter.unusedSimpArgs false
set_option maxRecDepth 100000
set_option maxHeartbeats 8000000
namespace Go.Proofs.Ytacgakkcpmhgmaa
open Go Go.RowKit Go.Proofs
theorem segAll_walk (a0 : Int) (a1 : Int) (a2 : Option Addr) (len2 cap2 : Nat) (z2 : List Int) (a3 : Option Addr) (len3 cap3 : Nat) (z3 : List Int) (a4 : Option Addr) (len4 cap4 : Nat) (z4 : List Int) (a5 : Option Addr) (len5 cap5 : Nat) (z5 : List Int) (a6 : Option Addr) (len6 cap6 : Nat) (z6 : List Int) (w : World) (w0 : (Lit.int .i64 a0).wf = true) (w1 : (Lit.int .i64 a1).wf = true) (w2 : IsRow .i64 w a2 len2 cap2 z2) (w3 : IsRow .i64 w a3 len3 cap3 z3) (w4 : IsRow .i64 w a4 len4 cap4 z4) (w5 : IsRow .i64 w a5 len5 cap5 z5) (w6 : IsRow .u8 w a6 len6 cap6 z6) :
  Calls Try.prog 3 #[.int .i64 a0, .int .i64 a1, .slice a2 len2 cap2, .slice a3 len3 cap3, .slice a4 len4 cap4, .slice a5 len5 cap5, .slice a6 len6 cap6] w fun e w' => e = .returned (.bool true) /\ Below w.heap.size w w' := by
  have hk := kOf_is a0; have hn := nOf_is a1; have hk9 := kOf_lt a0; have hn9 := nOf_lt a1
  obtain ⟨k, ek⟩ : ∃ k, kOf a0 = k := ⟨_, rfl⟩
  obtain ⟨n, en⟩ : ∃ n, nOf a1 = n := ⟨_, rfl⟩
  rw [ek] at hk hk9
  rw [en] at hn hn9
  clear ek en
  obtain ⟨k0, k9⟩ := hk9
  obtain ⟨n0, n9⟩ := hn9
  have HK := Lib.hid hk; have HN := Lib.hid hn
  have R2 := Lib.hid w2.readsI
  have R3 := Lib.hid w3.readsI
  have R4 := Lib.hid w4.readsI
  have I5 := Lib.hid w5
  have I6 := Lib.hid w6
  clear hk hn w0 w1 w2 w3 w4 w5 w6
  go_enter Try.func3, Try.ntmps3
  go_wp2_with fail
  refine (sknown_any _).mono ?_
  rintro e V1 ⟨rfl, hb⟩
  replace R2 := Lib.hid (R2.out.below hb)
  replace R3 := Lib.hid (R3.out.below hb)
  replace R4 := Lib.hid (R4.out.below hb)
  have HB := Lib.hid hb
  clear hb
  by_cases h250 : len6 <= 250
  rotate_left
  ·have hl : (250 : Int) < (len6 : Int) := by omega
   go_wp2_with fail
   go_ret
   exact ⟨rfl, HB.out⟩
  have hl : ¬ (250 : Int) < (len6 : Int) := by omega
  go_wp2_with fail
  refine (make_any R2.out R3.out R4.out a0 a1 HK.out HN.out).mono ?_
  rintro e V2 ⟨vc, vl, vbn, vbo, vfn, vfe, rfl, ht, hb⟩
  replace R2 := Lib.hid (R2.out.below hb)
  replace R3 := Lib.hid (R3.out.below hb)
  replace R4 := Lib.hid (R4.out.below hb)
  replace HB := Lib.hid (HB.out.trans (hb.mono HB.out.size))
  clear hb
  have hrtt := lawTab_right (ns := (z2.take len2)) (ms := (z3.take len3)) (cs := (z4.take len4)) k0 (by omega) n0 (by omega)
  have helt := lawTab_len (ns := (z2.take len2)) (ms := (z3.take len3)) (cs := (z4.take len4)) k0 k9 n0 n9
  obtain ⟨tt, htt⟩ : ∃ t, lawTab (z2.take len2) (z3.take len3) (z4.take len4) k n = t := ⟨_, rfl⟩
  rw [htt] at ht hrtt helt
  have hlens := hrtt.lens helt
  obtain ⟨A0t, k0t, rfl, le0t, lt0t, -⟩ := ht.c.form
  obtain ⟨A1t, k1t, rfl, le1t, lt1t, -⟩ := ht.l.form
  obtain ⟨A2t, k2t, ee, le2t, lt2t⟩ := ht.bn.form
  subst ee
  obtain ⟨A3t, k3t, rfl, le3t, lt3t, -⟩ := ht.bo.form
  obtain ⟨A4t, k4t, ee, le4t, lt4t⟩ := ht.fn.form
  subst ee
  obtain ⟨A5t, k5t, ee, le5t, lt5t⟩ := ht.fe.form
  subst ee
  obtain ⟨m0t, hm0t⟩ : ∃ m, tt.cuts.length = m := ⟨_, rfl⟩
  obtain ⟨m1t, hm1t⟩ : ∃ m, tt.letters.length = m := ⟨_, rfl⟩
  obtain ⟨m2t, hm2t⟩ : ∃ m, tt.bn.length = m := ⟨_, rfl⟩
  obtain ⟨m3t, hm3t⟩ : ∃ m, tt.bo.length = m := ⟨_, rfl⟩
  obtain ⟨m4t, hm4t⟩ : ∃ m, tt.fn.length = m := ⟨_, rfl⟩
  obtain ⟨m5t, hm5t⟩ : ∃ m, tt.fe.length = m := ⟨_, rfl⟩
  rw [hm0t, hm1t, hm2t, hm3t, hm4t, hm5t] at ht hlens
  rw [hm0t] at le0t
  rw [hm1t] at le1t
  rw [hm2t] at le2t
  rw [hm3t] at le3t
  rw [hm4t] at le4t
  rw [hm5t] at le5t
  rw [hm0t, hm1t, hm2t, hm3t, hm4t, hm5t]
  obtain ⟨q0t, q1t, q2t, q3t, q4t, q5t⟩ := hlens
  have HM0t := Lib.hid hm0t
  have HM1t := Lib.hid hm1t
  have HM2t := Lib.hid hm2t
  have HM3t := Lib.hid hm3t
  have HM4t := Lib.hid hm4t
  have HM5t := Lib.hid hm5t
  obtain ⟨bt, hbe⟩ : ∃ b, V2.heap.size = b := ⟨_, rfl⟩
  obtain ⟨V3, hW⟩ : ∃ W, V2.alloc (.cells #[.slice A0t m0t k0t, .slice A1t m1t k1t, .slice A2t m2t k2t, .slice A3t m3t k3t, .slice A4t m4t k4t, .slice A5t m5t k5t] 32) = W := ⟨_, rfl⟩
  have hb : Below V2.heap.size V2 V3 := by rw [<- hW]; exact (Below.refl _ _).alloc (Nat.le_refl _) _
  have Xt : Hid (Blk V3 bt 32 #[.slice A0t m0t k0t, .slice A1t m1t k1t, .slice A2t m2t k2t, .slice A3t m3t k3t, .slice A4t m4t k4t, .slice A5t m5t k5t]) := Lib.hid (by rw [<- hW]; exact Blk.newAt _ hbe _ _)
  replace R2 := Lib.hid (R2.out.below hb)
  replace R3 := Lib.hid (R3.out.below hb)
  replace R4 := Lib.hid (R4.out.below hb)
  have HTt := Lib.hid (ht.below hb)
  replace HB := Lib.hid (HB.out.trans (hb.mono HB.out.size))
  have HRt := Lib.hid hrtt; have HEt := Lib.hid helt; have TEt := Lib.hid htt; have HWt := Lib.hid hW; have HBEt := Lib.hid hbe
  clear ht hrtt helt htt hW hb hbe hm0t hm1t hm2t hm3t hm4t hm5t
  obtain ⟨X2, hX2⟩ : ∃ X, strOfNums (z6.take len6) = X := ⟨_, rfl⟩
  have hX29 : X2.size <= 1300 := by rw [<- hX2, strOfNums_size, List.length_take]; omega
  have HKC : Hid (∀ W, Below w.heap.size w W -> (fun W : World => (convert 23 9 (.slice a6 len6 cap6)).run Try.prog W = .ok (.string X2) W) W) := Lib.hid (fun W hW => by have := conv_row I6.out (Nat.le_refl _) hW; rw [hX2] at this; exact this)
  clear hX2
  go_wp2_with fail
  rw [HWt.out]
  try simp only [HBEt.out]
  have hb : Below V3.heap.size V3 V3.drew := (Below.refl _ _).drew
  replace HTt := Lib.hid (HTt.out.below hb)
  replace Xt := Lib.hid (Blk.below Xt.out hb Xt.out.lt)
  replace HB := Lib.hid (HB.out.trans (hb.mono HB.out.size))
  clear hb
  obtain ⟨V4, hV4⟩ : ∃ V, V3.drew = V := ⟨_, rfl⟩
  rw [hV4] at HTt Xt HB
  have hS := HKC.out _ HB.out
  refine region_x 6 (fun W : World => (convert 23 9 (.slice a6 len6 cap6)).run Try.prog W = .ok (.string X2) W) (by kernel_rfl) ?_
  rw [hV4]
  clear hV4
  refine tkx (i := 0) (v := ?_) hS ?_ ?_
  rotate_left
  ·rintro w' cv'
   go_simp
   try with_reducible rfl
  try simp only [Act.put, zq1, zq2, zq3, zq4, zq5, zq6]
  refine tkx (i := 1) (v := ?_) hS ?_ ?_
  rotate_left
  ·rintro w' cv'
   go_simp
   try with_reducible rfl
  try simp only [Act.put, zq1, zq2, zq3, zq4, zq5, zq6]
  refine tkx (i := 3) (v := ?_) hS ?_ ?_
  rotate_left
  ·rintro w' cv'
   go_simp
   try with_reducible rfl
  try simp only [Act.put, zq1, zq2, zq3, zq4, zq5, zq6]
  refine tkx (i := 4) (v := .string X2) hS ?_ ?_
  ·intro w' cv'
   try simp only [zq1, zq2, zq3]
   unfold execOp
   simp only [Sem.run_bind, Sem.run_pure, Result.andThen_ok]
   exact (by simp only [Act.eval, zq1, zq2, zq3]; go_simp)
  try simp only [Act.put, zq1, zq2, zq3, zq4, zq5, zq6]
  refine anyX_g (i := 2) (by kernel_rfl) (by decide) rfl (by rfl) ?_
  intro K hK
  try simp only [zq1, zq2, zq3]
  refine wp_enterE #[.slice a5 len5 cap5, .slice a6 len6 cap6] Try.func17 (by kernel_rfl) (by kernel_rfl) ?_ (bytes_any a5 len5 cap5 z5 a6 len6 cap6 z6 w _ HB.out I5.out I6.out h250) ?_
  ·go_simp
  rintro e V5 ⟨X1, rfl, hX19, hb⟩
  replace HTt := Lib.hid (HTt.out.below hb)
  replace Xt := Lib.hid (Blk.below Xt.out hb Xt.out.lt)
  replace HB := Lib.hid (HB.out.trans (hb.mono HB.out.size))
  clear hb
  clear hS
  have hS := HKC.out _ HB.out
  refine ⟨_, rfl, ?_⟩
  refine hK _ _ hS ?_
  clear hK
  try simp only [Act.put, zq1, zq2, zq3, zq4, zq5, zq6]
  refine anyX_g (i := 5) (by kernel_rfl) (by decide) rfl (by rfl) ?_
  intro K hK
  try simp only [zq1, zq2, zq3]
  obtain ⟨bl, hbl⟩ : ∃ b, V5.heap.size = b := ⟨_, rfl⟩
  obtain ⟨V6, eV⟩ : ∃ W', V5.alloc (.cells #[.string X1, .string X2] 9) = W' := ⟨_, rfl⟩
  go_simp
  try simp only [hbl]
  try rw [eV]
  have hb : Below V5.heap.size V5 V6 := by rw [<- eV]; exact (Below.refl _ _).alloc (Nat.le_refl _) _
  have XL : Hid (Blk V6 bl 9 #[.string X1, .string X2]) := Lib.hid (by rw [<- eV]; exact Blk.newAt _ hbl _ _)
  clear eV hbl
  replace HTt := Lib.hid (HTt.out.below hb)
  replace Xt := Lib.hid (Blk.below Xt.out hb Xt.out.lt)
  replace HB := Lib.hid (HB.out.trans (hb.mono HB.out.size))
  clear hb
  clear hS
  have hS := HKC.out _ HB.out
  refine hK _ _ hS ?_
  clear hK
  try simp only [Act.put, zq1, zq2, zq3, zq4, zq5, zq6]
  refine anyX_last (by kernel_rfl) (by kernel_rfl) rfl rfl ?_
  try simp only [zq1, zq2, zq3]
  go_simp
  try apply_assumption
  clear hS
  go_wp2_with fail
  go_loopw [17] (fun vi wr => ∃ i : Nat, vi = .int .i64 (i : Int) /\ i <= 2 /\ Hid (Below V6.heap.size V6 wr)) (fun vi _ => 2 - (intOf vi).toNat)
  case atStart => exact ⟨0, rfl, by omega, Lib.hid (Below.refl _ _)⟩
  case round =>
   obtain ⟨i, rfl, hi, HBL⟩ := hrel
   have i0 : (0 : Int) <= (i : Int) := Int.natCast_nonneg _
   by_cases hlt : i < 2
   ·have i1 : (i : Int) < 2 := by omega
    obtain ⟨R, hR, hR9⟩ : ∃ R : ByteArray, V6.cell? ⟨bl, i, none⟩ = some (.string R) /\ R.size <= 1300 := by
     rcases (show i = 0 \/ i = 1 by omega) with rfl | rfl
     ·exact ⟨X1, XL.out.cell 0, hX19⟩
     ·exact ⟨X2, XL.out.cell 1, hX29⟩
    have HKS : Hid (∀ W, Below V6.heap.size V6 W -> (fun W : World => (W.cell? ⟨bt, 0, none⟩ = some (.slice A0t m0t k0t) /\ W.cell? ⟨bt, 1, none⟩ = some (.slice A1t m1t k1t) /\ W.cell? ⟨bt, 2, none⟩ = some (.slice A2t m2t k2t) /\ W.cell? ⟨bt, 3, none⟩ = some (.slice A3t m3t k3t) /\ W.cell? ⟨bt, 4, none⟩ = some (.slice A4t m4t k4t) /\ W.cell? ⟨bt, 5, none⟩ = some (.slice A5t m5t k5t)) /\ W.cell? ⟨bl, i, none⟩ = some (.string R)) W) := Lib.hid (fun W hW => by have h := Blk.below Xt.out hW Xt.out.lt; exact ⟨⟨h.cell 0, h.cell 1, h.cell 2, h.cell 3, h.cell 4, h.cell 5⟩, bel_m hW hR⟩)
    obtain ⟨M, hM⟩ : ∃ M, (scs R.data.toList).length = M := ⟨_, rfl⟩
    have hNM := segT_size (t := tt) hM
    have HM_ := Lib.hid hM; have HNM := Lib.hid hNM
    clear hM hNM hR
    obtain ⟨D0, hD0⟩ : ∃ D, wr.drew = D := ⟨_, rfl⟩
    have hbd : Below V6.heap.size V6 D0 := by rw [<- hD0]; exact HBL.out.drew
    have hS := HKS.out _ hbd
    go_wp2_with fail
    refine region_x 10 (fun W : World => (W.cell? ⟨bt, 0, none⟩ = some (.slice A0t m0t k0t) /\ W.cell? ⟨bt, 1, none⟩ = some (.slice A1t m1t k1t) /\ W.cell? ⟨bt, 2, none⟩ = some (.slice A2t m2t k2t) /\ W.cell? ⟨bt, 3, none⟩ = some (.slice A3t m3t k3t) /\ W.cell? ⟨bt, 4, none⟩ = some (.slice A4t m4t k4t) /\ W.cell? ⟨bt, 5, none⟩ = some (.slice A5t m5t k5t)) /\ W.cell? ⟨bl, i, none⟩ = some (.string R)) (by kernel_rfl) ?_
    rw [hD0]
    clear hD0
    refine tkx (i := 0) (v := ?_) hS ?_ ?_
    rotate_left
    ·rintro w' ⟨⟨d0', d1', d2', d3', d4', d5'⟩, dr'⟩
     go_simp
     try with_reducible rfl
    try simp only [Act.put, zq1, zq2, zq3, zq4, zq5, zq6]
    refine tkx (i := 1) (v := ?_) hS ?_ ?_
    rotate_left
    ·rintro w' ⟨⟨d0', d1', d2', d3', d4', d5'⟩, dr'⟩
     go_simp
     try with_reducible rfl
    try simp only [Act.put, zq1, zq2, zq3, zq4, zq5, zq6]
    refine tkx (i := 2) (v := ?_) hS ?_ ?_
    rotate_left
    ·rintro w' ⟨⟨d0', d1', d2', d3', d4', d5'⟩, dr'⟩
     go_simp
     try with_reducible rfl
    try simp only [Act.put, zq1, zq2, zq3, zq4, zq5, zq6]
    refine tkx (i := 3) (v := ?_) hS ?_ ?_
    rotate_left
    ·rintro w' ⟨⟨d0', d1', d2', d3', d4', d5'⟩, dr'⟩
     go_simp
     try with_reducible rfl
    try simp only [Act.put, zq1, zq2, zq3, zq4, zq5, zq6]
    refine tkx (i := 4) (v := ?_) hS ?_ ?_
    rotate_left
    ·rintro w' ⟨⟨d0', d1', d2', d3', d4', d5'⟩, dr'⟩
     go_simp
     try with_reducible rfl
    try simp only [Act.put, zq1, zq2, zq3, zq4, zq5, zq6]
    refine anyX_g (i := 5) (by kernel_rfl) (by decide) rfl (by rfl) ?_
    intro K hK
    try simp only [zq1, zq2, zq3]
    have hseg := segment_any (HTt.out.below hbd) R
    rw [segT_ok HRt.out (by omega)] at hseg
    unfold tabV at hseg
    refine wp_enterE #[.agg #[.slice A0t m0t k0t, .slice A1t m1t k1t, .slice A2t m2t k2t, .slice A3t m3t k3t, .slice A4t m4t k4t, .slice A5t m5t k5t], .string R] Try.func18 (by kernel_rfl) (by kernel_rfl) ?_ hseg ?_
    ·go_simp
    rintro e D1 ⟨v, rfl, ⟨AL, cL, rfl, hL, -⟩, hb⟩
    clear hseg
    dsimp only at hL ⊢
    rw [HNM.out] at hL ⊢
    have HSL := Lib.hid hL
    clear hL
    replace hbd := hbd.trans (hb.mono hbd.size)
    clear hb hS
    have hS := HKS.out _ hbd
    refine ⟨_, rfl, ?_⟩
    refine hK _ _ hS ?_
    clear hK
    try simp only [Act.put, zq1, zq2, zq3, zq4, zq5, zq6]
    refine tkx (i := 6) (v := ?_) hS ?_ ?_
    rotate_left
    ·rintro w' ⟨⟨d0', d1', d2', d3', d4', d5'⟩, dr'⟩
     go_simp
     try with_reducible rfl
    try simp only [Act.put, zq1, zq2, zq3, zq4, zq5, zq6]
    refine tkx (i := 7) (v := ?_) hS ?_ ?_
    rotate_left
    ·rintro w' ⟨⟨d0', d1', d2', d3', d4', d5'⟩, dr'⟩
     go_simp
     try with_reducible rfl
    try simp only [Act.put, zq1, zq2, zq3, zq4, zq5, zq6]
    refine tkx (i := 8) (v := ?_) hS ?_ ?_
    rotate_left
    ·rintro w' ⟨⟨d0', d1', d2', d3', d4', d5'⟩, dr'⟩
     go_simp
     try with_reducible rfl
    try simp only [Act.put, zq1, zq2, zq3, zq4, zq5, zq6]
    refine tkx (i := 9) (v := ?_) hS ?_ ?_
    rotate_left
    ·rintro w' ⟨⟨d0', d1', d2', d3', d4', d5'⟩, dr'⟩
     go_simp
     try with_reducible rfl
    try simp only [Act.put, zq1, zq2, zq3, zq4, zq5, zq6]
    refine anyX_last (by kernel_rfl) (by kernel_rfl) rfl rfl ?_
    try simp only [zq1, zq2, zq3]
    go_simp
    try apply_assumption
    obtain ⟨D2, hD2⟩ : ∃ D, D1.drew = D := ⟨_, rfl⟩
    have hb : Below D1.heap.size D1 D2 := by rw [<- hD2]; exact (Below.refl _ _).drew
    replace HSL := Lib.hid (HSL.out.below hb)
    replace hbd := hbd.trans (hb.mono hbd.size)
    clear hb hS
    have hS := HKS.out _ hbd
    go_wp2_with fail
    refine region_x 10 (fun W : World => (W.cell? ⟨bt, 0, none⟩ = some (.slice A0t m0t k0t) /\ W.cell? ⟨bt, 1, none⟩ = some (.slice A1t m1t k1t) /\ W.cell? ⟨bt, 2, none⟩ = some (.slice A2t m2t k2t) /\ W.cell? ⟨bt, 3, none⟩ = some (.slice A3t m3t k3t) /\ W.cell? ⟨bt, 4, none⟩ = some (.slice A4t m4t k4t) /\ W.cell? ⟨bt, 5, none⟩ = some (.slice A5t m5t k5t)) /\ W.cell? ⟨bl, i, none⟩ = some (.string R)) (by kernel_rfl) ?_
    rw [hD2]
    clear hD2
    refine tkx (i := 0) (v := ?_) hS ?_ ?_
    rotate_left
    ·rintro w' ⟨⟨d0', d1', d2', d3', d4', d5'⟩, dr'⟩
     go_simp
     try with_reducible rfl
    try simp only [Act.put, zq1, zq2, zq3, zq4, zq5, zq6]
    refine tkx (i := 1) (v := ?_) hS ?_ ?_
    rotate_left
    ·rintro w' ⟨⟨d0', d1', d2', d3', d4', d5'⟩, dr'⟩
     go_simp
     try with_reducible rfl
    try simp only [Act.put, zq1, zq2, zq3, zq4, zq5, zq6]
    refine tkx (i := 2) (v := ?_) hS ?_ ?_
    rotate_left
    ·rintro w' ⟨⟨d0', d1', d2', d3', d4', d5'⟩, dr'⟩
     go_simp
     try with_reducible rfl
    try simp only [Act.put, zq1, zq2, zq3, zq4, zq5, zq6]
    refine tkx (i := 3) (v := ?_) hS ?_ ?_
    rotate_left
    ·rintro w' ⟨⟨d0', d1', d2', d3', d4', d5'⟩, dr'⟩
     go_simp
     try with_reducible rfl
    try simp only [Act.put, zq1, zq2, zq3, zq4, zq5, zq6]
    refine tkx (i := 4) (v := ?_) hS ?_ ?_
    rotate_left
    ·rintro w' ⟨⟨d0', d1', d2', d3', d4', d5'⟩, dr'⟩
     go_simp
     try with_reducible rfl
    try simp only [Act.put, zq1, zq2, zq3, zq4, zq5, zq6]
    refine anyX_g (i := 5) (by kernel_rfl) (by decide) rfl (by rfl) ?_
    intro K hK
    try simp only [zq1, zq2, zq3]
    have hseg := rsegment_any (HTt.out.below hbd) HRt.out R (by omega)
    unfold tabV at hseg
    refine wp_enterE #[.agg #[.slice A0t m0t k0t, .slice A1t m1t k1t, .slice A2t m2t k2t, .slice A3t m3t k3t, .slice A4t m4t k4t, .slice A5t m5t k5t], .string R] Try.func19 (by kernel_rfl) (by kernel_rfl) ?_ hseg ?_
    ·go_simp
    rintro e D3 ⟨RA, rc, rfl, hL, hb⟩
    clear hseg
    rw [HNM.out] at hL ⊢
    have HRL := Lib.hid hL
    clear hL
    replace HSL := Lib.hid (HSL.out.below hb)
    replace hbd := hbd.trans (hb.mono hbd.size)
    clear hb hS
    have hS := HKS.out _ hbd
    refine ⟨_, rfl, ?_⟩
    refine hK _ _ hS ?_
    clear hK
    try simp only [Act.put, zq1, zq2, zq3, zq4, zq5, zq6]
    refine tkx (i := 6) (v := ?_) hS ?_ ?_
    rotate_left
    ·rintro w' ⟨⟨d0', d1', d2', d3', d4', d5'⟩, dr'⟩
     go_simp
     try with_reducible rfl
    try simp only [Act.put, zq1, zq2, zq3, zq4, zq5, zq6]
    refine tkx (i := 7) (v := ?_) hS ?_ ?_
    rotate_left
    ·rintro w' ⟨⟨d0', d1', d2', d3', d4', d5'⟩, dr'⟩
     go_simp
     try with_reducible rfl
    try simp only [Act.put, zq1, zq2, zq3, zq4, zq5, zq6]
    refine tkx (i := 8) (v := ?_) hS ?_ ?_
    rotate_left
    ·rintro w' ⟨⟨d0', d1', d2', d3', d4', d5'⟩, dr'⟩
     go_simp
     try with_reducible rfl
    try simp only [Act.put, zq1, zq2, zq3, zq4, zq5, zq6]
    refine tkx (i := 9) (v := ?_) hS ?_ ?_
    rotate_left
    ·rintro w' ⟨⟨d0', d1', d2', d3', d4', d5'⟩, dr'⟩
     go_simp
     try with_reducible rfl
    try simp only [Act.put, zq1, zq2, zq3, zq4, zq5, zq6]
    refine anyX_last (by kernel_rfl) (by kernel_rfl) rfl rfl ?_
    try simp only [zq1, zq2, zq3]
    go_simp
    try apply_assumption
    obtain ⟨-, dr⟩ := hS
    go_wp2_with fail
    refine (refdecode_any R _ (by omega)).mono ?_
    intro e D4 hd
    unfold DecTells at hd
    obtain ⟨v, u, rfl, hv, -, -, hb⟩ := hd
    rw [HM_.out] at hv
    obtain ⟨DA, dc, rfl, -, -, -⟩ := hv.readsI.form
    replace HSL := Lib.hid (HSL.out.below hb)
    replace HRL := Lib.hid (HRL.out.below hb)
    replace hbd := hbd.trans (hb.mono hbd.size)
    clear hb hv dr
    have wm : IntKind.i64.wrap ((M : Int) + 1) = (M : Int) + 1 := IntWalk.i64_in _ (by have := scs_length_le R.data.toList; have h2 : R.data.toList.length = R.size := rfl; have := HM_.out; omega)
    have HVT := Lib.hid (vecs_true HSL.out HRL.out)
    go_wp2_with fail
    refine HVT.out.mono ?_
    rintro e D5 ⟨rfl, d, rfl⟩
    have HBD : Hid (Below V6.heap.size V6 (D4.drewN d)) := Lib.hid (sbel_drewN hbd _)
    clear hbd
    go_wp2_with fail
    first | exact ⟨⟨i + 1, by go_num, by omega, HBD⟩, by simp [intOf]; omega⟩ | exact ⟨⟨i + 1, by go_num, by omega⟩, by simp [intOf]; omega⟩
   ·obtain rfl : i = 2 := by omega
    go_wp2_with fail
    go_ret
    exact ⟨rfl, HB.out.trans (HBL.out.mono HB.out.size)⟩
end Go.Proofs.Ytacgakkcpmhgmaa
