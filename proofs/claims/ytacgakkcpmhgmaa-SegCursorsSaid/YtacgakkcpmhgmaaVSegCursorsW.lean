/- SegCursors: whatever a cursor is asked, in any order, it tells what the document says. -/
import Derived.Test.YtacgakkcpmhgmaaVSegW
set_option linter.unusedVariables false
set_option linter.unusedSimpArgs false
set_option maxRecDepth 100000
set_option maxHeartbeats 8000000
namespace Go.Proofs.Ytacgakkcpmhgmaa
open Go Go.RowKit Go.Proofs
theorem segCursors_walk (a0 : Int) (a1 : Int) (a2 : Option Addr) (len2 cap2 : Nat) (z2 : List Int) (a3 : Option Addr) (len3 cap3 : Nat) (z3 : List Int) (a4 : Option Addr) (len4 cap4 : Nat) (z4 : List Int) (a5 : Option Addr) (len5 cap5 : Nat) (z5 : List Int) (a6 : Option Addr) (len6 cap6 : Nat) (z6 : List Int) (a7 : Int) (w : World) (w0 : (Lit.int .i64 a0).wf = true) (w1 : (Lit.int .i64 a1).wf = true) (w2 : IsRow .i64 w a2 len2 cap2 z2) (w3 : IsRow .i64 w a3 len3 cap3 z3) (w4 : IsRow .i64 w a4 len4 cap4 z4) (w5 : IsRow .i64 w a5 len5 cap5 z5) (w6 : IsRow .i64 w a6 len6 cap6 z6) (w7 : (Lit.int .i64 a7).wf = true) :
  Calls Try.prog 5 #[.int .i64 a0, .int .i64 a1, .slice a2 len2 cap2, .slice a3 len3 cap3, .slice a4 len4 cap4, .slice a5 len5 cap5, .slice a6 len6 cap6, .int .i64 a7] w fun e w' => e = .returned (.bool true) /\ Below w.heap.size w w' := by
  have hk := kOf_is a0; have hn := nOf_is a1; have hk9 := kOf_lt a0; have hn9 := nOf_lt a1
  obtain ⟨k, ek⟩ : ∃ k, kOf a0 = k := ⟨_, rfl⟩
  obtain ⟨n, en⟩ : ∃ n, nOf a1 = n := ⟨_, rfl⟩
  rw [ek] at hk hk9
  rw [en] at hn hn9
  clear ek en
  obtain ⟨k0, k9⟩ := hk9
  obtain ⟨n0, n9⟩ := hn9
  have HK := Lib.hid hk; have HN := Lib.hid hn
  have R2 := Lib.hid w2.readsI
  have R3 := Lib.hid w3.readsI
  have R4 := Lib.hid w4.readsI
  have I5 := Lib.hid w5
  clear hk hn w0 w1 w2 w3 w4 w5 w7
  have R6 := Lib.hid w6.readsI
  clear w6
  go_enter Try.func5, Try.ntmps5
  go_wp2_with fail
  refine (sknown_any _).mono ?_
  rintro e V1 ⟨rfl, hb⟩
  replace R2 := Lib.hid (R2.out.below hb)
  replace R3 := Lib.hid (R3.out.below hb)
  replace R4 := Lib.hid (R4.out.below hb)
  have HB := Lib.hid hb
  clear hb
  go_wp2_with fail
  refine (make_any R2.out R3.out R4.out a0 a1 HK.out HN.out).mono ?_
  rintro e V2 ⟨vc, vl, vbn, vbo, vfn, vfe, rfl, ht, hb⟩
  replace R2 := Lib.hid (R2.out.below hb)
  replace R3 := Lib.hid (R3.out.below hb)
  replace R4 := Lib.hid (R4.out.below hb)
  replace HB := Lib.hid (HB.out.trans (hb.mono HB.out.size))
  clear hb
  have hrtt := lawTab_right (ns := (z2.take len2)) (ms := (z3.take len3)) (cs := (z4.take len4)) k0 (by omega) n0 (by omega)
  have helt := lawTab_len (ns := (z2.take len2)) (ms := (z3.take len3)) (cs := (z4.take len4)) k0 k9 n0 n9
  obtain ⟨tt, htt⟩ : ∃ t, lawTab (z2.take len2) (z3.take len3) (z4.take len4) k n = t := ⟨_, rfl⟩
  rw [htt] at ht hrtt helt
  have hlens := hrtt.lens helt
  obtain ⟨A0t, k0t, rfl, le0t, lt0t, -⟩ := ht.c.form
  obtain ⟨A1t, k1t, rfl, le1t, lt1t, -⟩ := ht.l.form
  obtain ⟨A2t, k2t, ee, le2t, lt2t⟩ := ht.bn.form
  subst ee
  obtain ⟨A3t, k3t, rfl, le3t, lt3t, -⟩ := ht.bo.form
  obtain ⟨A4t, k4t, ee, le4t, lt4t⟩ := ht.fn.form
  subst ee
  obtain ⟨A5t, k5t, ee, le5t, lt5t⟩ := ht.fe.form
  subst ee
  obtain ⟨m0t, hm0t⟩ : ∃ m, tt.cuts.length = m := ⟨_, rfl⟩
  obtain ⟨m1t, hm1t⟩ : ∃ m, tt.letters.length = m := ⟨_, rfl⟩
  obtain ⟨m2t, hm2t⟩ : ∃ m, tt.bn.length = m := ⟨_, rfl⟩
  obtain ⟨m3t, hm3t⟩ : ∃ m, tt.bo.length = m := ⟨_, rfl⟩
  obtain ⟨m4t, hm4t⟩ : ∃ m, tt.fn.length = m := ⟨_, rfl⟩
  obtain ⟨m5t, hm5t⟩ : ∃ m, tt.fe.length = m := ⟨_, rfl⟩
  rw [hm0t, hm1t, hm2t, hm3t, hm4t, hm5t] at ht hlens
  rw [hm0t] at le0t
  rw [hm1t] at le1t
  rw [hm2t] at le2t
  rw [hm3t] at le3t
  rw [hm4t] at le4t
  rw [hm5t] at le5t
  rw [hm0t, hm1t, hm2t, hm3t, hm4t, hm5t]
  obtain ⟨q0t, q1t, q2t, q3t, q4t, q5t⟩ := hlens
  have HM0t := Lib.hid hm0t
  have HM1t := Lib.hid hm1t
  have HM2t := Lib.hid hm2t
  have HM3t := Lib.hid hm3t
  have HM4t := Lib.hid hm4t
  have HM5t := Lib.hid hm5t
  obtain ⟨bt, hbe⟩ : ∃ b, V2.heap.size = b := ⟨_, rfl⟩
  obtain ⟨V3, hW⟩ : ∃ W, V2.alloc (.cells #[.slice A0t m0t k0t, .slice A1t m1t k1t, .slice A2t m2t k2t, .slice A3t m3t k3t, .slice A4t m4t k4t, .slice A5t m5t k5t] 32) = W := ⟨_, rfl⟩
  have hb : Below V2.heap.size V2 V3 := by rw [<- hW]; exact (Below.refl _ _).alloc (Nat.le_refl _) _
  have Xt : Hid (Blk V3 bt 32 #[.slice A0t m0t k0t, .slice A1t m1t k1t, .slice A2t m2t k2t, .slice A3t m3t k3t, .slice A4t m4t k4t, .slice A5t m5t k5t]) := Lib.hid (by rw [<- hW]; exact Blk.newAt _ hbe _ _)
  replace R2 := Lib.hid (R2.out.below hb)
  replace R3 := Lib.hid (R3.out.below hb)
  replace R4 := Lib.hid (R4.out.below hb)
  have HTt := Lib.hid (ht.below hb)
  replace HB := Lib.hid (HB.out.trans (hb.mono HB.out.size))
  have HRt := Lib.hid hrtt; have HEt := Lib.hid helt; have TEt := Lib.hid htt; have HWt := Lib.hid hW; have HBEt := Lib.hid hbe
  clear ht hrtt helt htt hW hb hbe hm0t hm1t hm2t hm3t hm4t hm5t
  go_wp2_with fail
  rw [HWt.out]
  try simp only [HBEt.out]
  refine (bytes_any a5 len5 cap5 z5 none 0 0 [] w _ HB.out I5.out (.inl ⟨rfl, rfl, rfl, rfl⟩) (by omega)).mono ?_
  rintro e V4 ⟨S, rfl, S9, hb⟩
  replace HTt := Lib.hid (HTt.out.below hb)
  replace Xt := Lib.hid (Blk.below Xt.out hb Xt.out.lt)
  replace HB := Lib.hid (HB.out.trans (hb.mono HB.out.size))
  clear hb
  have hsl := segT_len tt S
  obtain ⟨L, hL⟩ : ∃ l, segT tt S = l := ⟨_, rfl⟩
  rw [hL] at hsl
  obtain ⟨N, hN⟩ : ∃ N, L.length = N := ⟨_, rfl⟩
  rw [hN] at hsl
  obtain ⟨N1, N9⟩ := hsl
  have HLE := Lib.hid hL; have HNL := Lib.hid hN
  clear hL hN
  have N9' : N <= 1301 := by omega
  clear N9
  obtain ⟨V5, hV5⟩ : ∃ V, V4.drew = V := ⟨_, rfl⟩
  have hb : Below V4.heap.size V4 V5 := by rw [<- hV5]; exact (Below.refl _ _).drew
  replace HTt := Lib.hid (HTt.out.below hb)
  replace Xt := Lib.hid (Blk.below Xt.out hb Xt.out.lt)
  replace HB := Lib.hid (HB.out.trans (hb.mono HB.out.size))
  clear hb
  have hS : (fun W : World => W.cell? ⟨bt, 0, none⟩ = some (.slice A0t m0t k0t) /\ W.cell? ⟨bt, 1, none⟩ = some (.slice A1t m1t k1t) /\ W.cell? ⟨bt, 2, none⟩ = some (.slice A2t m2t k2t) /\ W.cell? ⟨bt, 3, none⟩ = some (.slice A3t m3t k3t) /\ W.cell? ⟨bt, 4, none⟩ = some (.slice A4t m4t k4t) /\ W.cell? ⟨bt, 5, none⟩ = some (.slice A5t m5t k5t)) V5 := ⟨Xt.out.cell 0, Xt.out.cell 1, Xt.out.cell 2, Xt.out.cell 3, Xt.out.cell 4, Xt.out.cell 5⟩
  go_wp2_with fail
  refine region_x 7 (fun W : World => W.cell? ⟨bt, 0, none⟩ = some (.slice A0t m0t k0t) /\ W.cell? ⟨bt, 1, none⟩ = some (.slice A1t m1t k1t) /\ W.cell? ⟨bt, 2, none⟩ = some (.slice A2t m2t k2t) /\ W.cell? ⟨bt, 3, none⟩ = some (.slice A3t m3t k3t) /\ W.cell? ⟨bt, 4, none⟩ = some (.slice A4t m4t k4t) /\ W.cell? ⟨bt, 5, none⟩ = some (.slice A5t m5t k5t)) (by kernel_rfl) ?_
  rw [hV5]
  clear hV5
  refine tkx (i := 0) (v := ?_) hS ?_ ?_
  rotate_left
  ·rintro w' ⟨d0', d1', d2', d3', d4', d5'⟩
   go_simp
   try with_reducible rfl
  try simp only [Act.put, zq1, zq2, zq3, zq4, zq5, zq6]
  refine tkx (i := 1) (v := ?_) hS ?_ ?_
  rotate_left
  ·rintro w' ⟨d0', d1', d2', d3', d4', d5'⟩
   go_simp
   try with_reducible rfl
  try simp only [Act.put, zq1, zq2, zq3, zq4, zq5, zq6]
  refine tkx (i := 3) (v := ?_) hS ?_ ?_
  rotate_left
  ·rintro w' ⟨d0', d1', d2', d3', d4', d5'⟩
   go_simp
   try with_reducible rfl
  try simp only [Act.put, zq1, zq2, zq3, zq4, zq5, zq6]
  refine tkx (i := 4) (v := ?_) hS ?_ ?_
  rotate_left
  ·rintro w' ⟨d0', d1', d2', d3', d4', d5'⟩
   go_simp
   try with_reducible rfl
  try simp only [Act.put, zq1, zq2, zq3, zq4, zq5, zq6]
  refine anyX_g (i := 2) (by kernel_rfl) (by decide) rfl (by rfl) ?_
  intro K hK
  try simp only [zq1, zq2, zq3]
  have hnew := snew_any HTt.out S
  rw [segT_ok HRt.out (by omega), HLE.out] at hnew
  dsimp only at hnew
  unfold tabV at hnew
  refine wp_enterE #[.agg #[.slice A0t m0t k0t, .slice A1t m1t k1t, .slice A2t m2t k2t, .slice A3t m3t k3t, .slice A4t m4t k4t, .slice A5t m5t k5t], .string S] Try.func23 (by kernel_rfl) (by kernel_rfl) ?_ hnew ?_
  ·go_simp
  rintro e V6 ⟨bc, Ac, kc, rfl, hcur, hbl, hb⟩
  clear hnew
  have HCc := Lib.hid hcur; have HBc := Lib.hid (Nat.le_trans HB.out.size hbl)
  clear hcur hbl
  replace HTt := Lib.hid (HTt.out.below hb)
  replace Xt := Lib.hid (Blk.below Xt.out hb Xt.out.lt)
  replace HB := Lib.hid (HB.out.trans (hb.mono HB.out.size))
  clear hb
  clear hS
  have hS : (fun W : World => W.cell? ⟨bt, 0, none⟩ = some (.slice A0t m0t k0t) /\ W.cell? ⟨bt, 1, none⟩ = some (.slice A1t m1t k1t) /\ W.cell? ⟨bt, 2, none⟩ = some (.slice A2t m2t k2t) /\ W.cell? ⟨bt, 3, none⟩ = some (.slice A3t m3t k3t) /\ W.cell? ⟨bt, 4, none⟩ = some (.slice A4t m4t k4t) /\ W.cell? ⟨bt, 5, none⟩ = some (.slice A5t m5t k5t)) V6 := ⟨Xt.out.cell 0, Xt.out.cell 1, Xt.out.cell 2, Xt.out.cell 3, Xt.out.cell 4, Xt.out.cell 5⟩
  refine ⟨_, rfl, ?_⟩
  refine hK _ _ hS ?_
  clear hK
  try simp only [Act.put, zq1, zq2, zq3, zq4, zq5, zq6]
  refine anyX_g (i := 5) (by kernel_rfl) (by decide) rfl (by rfl) ?_
  intro K hK
  try simp only [zq1, zq2, zq3]
  have hnew := rnew_any HTt.out HRt.out S (by omega)
  rw [HLE.out] at hnew
  unfold tabV at hnew
  refine wp_enterE #[.agg #[.slice A0t m0t k0t, .slice A1t m1t k1t, .slice A2t m2t k2t, .slice A3t m3t k3t, .slice A4t m4t k4t, .slice A5t m5t k5t], .string S] Try.func32 (by kernel_rfl) (by kernel_rfl) ?_ hnew ?_
  ·go_simp
  rintro e V7 ⟨bx, Ax, kx, rfl, hcur, hbl, hb⟩
  clear hnew
  have HCx := Lib.hid hcur; have HBx := Lib.hid (Nat.le_trans HB.out.size hbl)
  have hne : ¬ bx = bc := by have := HCc.out.x.lt; omega
  replace HCc := Lib.hid (HCc.out.below hb)
  have HFC : Hid (∀ p, Ac = some p -> p.block ≠ bx) := Lib.hid (vrow_far HCc.out.r (by rw [HNL.out]; exact N1) hcur.x rfl)
  have HFX : Hid (∀ p, Ax = some p -> p.block ≠ bc) := Lib.hid (vrow_far hcur.r (by rw [HNL.out]; exact N1) HCc.out.x rfl)
  clear hcur hbl
  replace HTt := Lib.hid (HTt.out.below hb)
  replace Xt := Lib.hid (Blk.below Xt.out hb Xt.out.lt)
  replace HB := Lib.hid (HB.out.trans (hb.mono HB.out.size))
  clear hb
  clear hS
  have hS : (fun W : World => W.cell? ⟨bt, 0, none⟩ = some (.slice A0t m0t k0t) /\ W.cell? ⟨bt, 1, none⟩ = some (.slice A1t m1t k1t) /\ W.cell? ⟨bt, 2, none⟩ = some (.slice A2t m2t k2t) /\ W.cell? ⟨bt, 3, none⟩ = some (.slice A3t m3t k3t) /\ W.cell? ⟨bt, 4, none⟩ = some (.slice A4t m4t k4t) /\ W.cell? ⟨bt, 5, none⟩ = some (.slice A5t m5t k5t)) V7 := ⟨Xt.out.cell 0, Xt.out.cell 1, Xt.out.cell 2, Xt.out.cell 3, Xt.out.cell 4, Xt.out.cell 5⟩
  refine ⟨_, rfl, ?_⟩
  refine hK _ _ hS ?_
  clear hK
  try simp only [Act.put, zq1, zq2, zq3, zq4, zq5, zq6]
  refine tkx (i := 6) (v := ?_) hS ?_ ?_
  rotate_left
  ·rintro w' ⟨d0', d1', d2', d3', d4', d5'⟩
   go_simp
   try with_reducible rfl
  try simp only [Act.put, zq1, zq2, zq3, zq4, zq5, zq6]
  refine anyX_last (by kernel_rfl) (by kernel_rfl) rfl rfl ?_
  try simp only [zq1, zq2, zq3]
  go_simp
  try apply_assumption
  clear hS
  go_wp2_with fail
  go_loopw [21] (fun vi wr => ∃ (i k : Nat), vi = .int .i64 (i : Int) /\ i <= len6 /\ k < N /\ Hid (CurS wr bc Ac kc L (k : Int)) /\ Hid (RCurS wr bx Ax kx L (k : Int)) /\ Hid (Below w.heap.size w wr)) (fun vi _ => len6 - (intOf vi).toNat)
  case atStart => exact ⟨0, 0, rfl, Nat.zero_le _, N1, HCc, HCx, HB⟩
  case round =>
   clear HCc HCx HB
   obtain ⟨i, k, rfl, hi, hkN, HCc, HCx, HBL⟩ := hrel
   have i0 : (0 : Int) <= (i : Int) := Int.natCast_nonneg _
   by_cases hgo : i < len6 /\ i < 60
   ·obtain ⟨hlt, h60⟩ := hgo
    have i1 : (i : Int) < (len6 : Int) := by omega
    have i2 : (i : Int) < 60 := by omega
    obtain ⟨g, o, ea, hgl, hcl⟩ := (R6.out.below HBL.out).at i hlt
    subst ea
    obtain ⟨x6, hx6⟩ : ∃ x, (z6.take len6).getD i 0 = x := ⟨_, rfl⟩
    try rw [hx6] at hcl
    clear hx6
    go_wp2_with fail
    refine (swithin_any x6 1073741824 (by omega) (by omega) _).mono ?_
    rintro e w6 ⟨rfl, hw⟩
    subst w6
    obtain ⟨n6, hn6⟩ : ∃ zz : Nat, x6 % 1073741824 = (zz : Int) := ⟨(x6 % 1073741824).toNat, by omega⟩
    have hn69 : n6 < 1073741824 := by omega
    rw [hn6]
    clear hn6 hcl
    have c0 : (0 : Int) <= (n6 : Int) := Int.natCast_nonneg _
    have hne2 : ¬ bc = bx := fun e => hne e.symm
    have bq : ∀ s : Bool, (s == s) = true := fun s => by cases s <;> rfl
    obtain ⟨ya, hya⟩ : ∃ y : Int, (n6 : Int) / 8 % 45 - 2 = y := ⟨_, rfl⟩
    obtain ⟨yb, hyb⟩ : ∃ y : Int, (n6 : Int) / 360 % 45 - 2 = y := ⟨_, rfl⟩
    obtain ⟨yc, hyc⟩ : ∃ y : Int, (n6 : Int) / 16200 % 5 - 1 = y := ⟨_, rfl⟩
    have HYA := Lib.hid hya; have HYB := Lib.hid hyb; have HYC := Lib.hid hyc
    clear hya hyb hyc
    obtain ⟨m8, hm8, hm89⟩ : ∃ m8 : Nat, (n6 : Int) % 8 = (m8 : Int) /\ m8 < 8 := ⟨n6 % 8, by omega, by omega⟩
    rcases (show m8 = 0 \/ m8 = 1 \/ m8 = 2 \/ m8 = 3 \/ m8 = 4 \/ 5 <= m8 by omega) with h8 | h8 | h8 | h8 | h8 | h8
    ·subst h8
     go_wp2_with fail
     try simp only [HYA.out, HYB.out, HYC.out]
     refine (snext_any HCc.out (by omega) (by omega)).mono ?_
     intro e D1 hse
     unfold SeekO at hse
     obtain ⟨r, rfl, hr, hcur, hf⟩ := hse
     rw [HNL.out] at hr
     replace HCx := Lib.hid (HCx.out.other hf hne HFX.out)
     replace HBL := Lib.hid (seek_below HBL.out HBc.out hf)
     have HR9 := Lib.hid hr; have HCU := Lib.hid hcur
     clear hr hcur hf
     go_wp2_with fail
     refine (rnext_any HCx.out (by omega) (by omega)).mono ?_
     intro e D2 hse
     unfold RSeekO at hse
     obtain ⟨s, rfl, hs, hcur2, hf⟩ := hse
     rw [HNL.out] at hs
     have hsr := bool_same hs HR9.out
     subst hsr
     obtain ⟨k2, hk2, hk2N⟩ := place_in hs hkN
     have hcur := HCU.out
     rw [hk2] at hcur hcur2
     replace HCc := Lib.hid (hcur.other hf hne2 HFC.out)
     replace HCx := Lib.hid hcur2
     replace HBL := Lib.hid (seek_below HBL.out HBx.out hf)
     clear hs hcur hcur2 hf hk2 HR9 HCU
     go_wp2_with fail
     refine (sat_any HCc.out).mono ?_
     rintro e D3 ⟨rfl, hb⟩
     rw [rowAt_in (by rw [HNL.out]; exact hk2N)]
     obtain ⟨⟨p1, p2, p3⟩, hu⟩ : ∃ u, L.getD k2 (0, 0, 0) = u := ⟨_, rfl⟩
     rw [hu]
     unfold vcV
     dsimp only
     obtain ⟨b8, hb8⟩ : ∃ b, D3.heap.size = b := ⟨_, rfl⟩
     obtain ⟨D4, hD4⟩ : ∃ W, D3.alloc (.cells #[.int .i64 p1, .int .i64 p2, .int .i64 p3] 51) = W := ⟨_, rfl⟩
     have hb2 : Below D3.heap.size D3 D4 := by rw [<- hD4]; exact (Below.refl _ _).alloc (Nat.le_refl _) _
     have X8 : Hid (Blk D4 b8 51 #[.int .i64 p1, .int .i64 p2, .int .i64 p3]) := Lib.hid (by rw [<- hD4]; exact Blk.newAt _ hb8 _ _)
     replace hb := hb.trans (hb2.mono hb.size)
     replace HCc := Lib.hid (HCc.out.below hb)
     replace HCx := Lib.hid (HCx.out.below hb)
     replace HBL := Lib.hid (HBL.out.trans (hb.mono HBL.out.size))
     have HD4 := Lib.hid hD4; have HB8 := Lib.hid hb8; have HU := Lib.hid hu
     clear hb hb2 hD4 hb8 hu
     go_wp2_with fail
     rw [HD4.out]
     try simp only [HB8.out]
     have hat := rat_any HCx.out (by rw [HNL.out]; exact hk2N)
     rw [HU.out] at hat
     refine hat.mono ?_
     clear hat
     rintro e D5 ⟨rfl, hb⟩
     unfold vcV
     dsimp only
     have hb2 : Below D5.heap.size D5 (D5.alloc (.cells #[.int .i64 p1, .int .i64 p2, .int .i64 p3] 51)) := (Below.refl _ _).alloc (Nat.le_refl _) _
     replace hb := hb.trans (hb2.mono hb.size)
     have hx8 := Blk.below X8.out hb X8.out.lt
     have hx9 : Blk (D5.alloc (.cells #[.int .i64 p1, .int .i64 p2, .int .i64 p3] 51)) D5.heap.size 51 #[.int .i64 p1, .int .i64 p2, .int .i64 p3] := Blk.new _ _ _
     have x0 := hx8.cell 0; have x1 := hx8.cell 1; have x2 := hx8.cell 2; have y0 := hx9.cell 0; have y1 := hx9.cell 1; have y2 := hx9.cell 2
     simp only [List.getElem?_toArray, List.getElem?_cons_zero, List.getElem?_cons_succ] at x0 x1 x2 y0 y1 y2
     replace HCc := Lib.hid (HCc.out.below hb)
     replace HCx := Lib.hid (HCx.out.below hb)
     replace HBL := Lib.hid (HBL.out.trans (hb.mono HBL.out.size))
     have qv := seqVec p1 p2 p3 p1 p2 p3
     rw [sveq_refl] at qv
     clear hb hb2 hx8 hx9 HD4 HB8 HU X8
     go_wp2_with fail
     refine (slen_any HCc.out).mono ?_
     rintro e w9 ⟨rfl, hw⟩
     subst w9
     rw [HNL.out]
     go_wp2_with fail
     refine (rlen_any HCx.out).mono ?_
     rintro e w9 ⟨rfl, hw⟩
     subst w9
     rw [HNL.out]
     go_wp2_with fail
     first | exact ⟨⟨i + 1, k2, by go_num, by omega, by omega, HCc, HCx, HBL⟩, by simp [intOf]; omega⟩ | exact ⟨⟨i + 1, by go_num, by omega, k2, by omega, HCc, HCx⟩, by simp [intOf]; omega⟩ | exact ⟨⟨i + 1, by go_num, by omega, ⟨k2, by omega, HCc, HCx⟩⟩, by simp [intOf]; omega⟩
    ·subst h8
     go_wp2_with fail
     try simp only [HYA.out, HYB.out, HYC.out]
     refine (snext_any HCc.out (by omega) (by omega)).mono ?_
     intro e D1 hse
     unfold SeekO at hse
     obtain ⟨r, rfl, hr, hcur, hf⟩ := hse
     rw [HNL.out] at hr
     replace HCx := Lib.hid (HCx.out.other hf hne HFX.out)
     replace HBL := Lib.hid (seek_below HBL.out HBc.out hf)
     have HR9 := Lib.hid hr; have HCU := Lib.hid hcur
     clear hr hcur hf
     go_wp2_with fail
     refine (rnext_any HCx.out (by omega) (by omega)).mono ?_
     intro e D2 hse
     unfold RSeekO at hse
     obtain ⟨s, rfl, hs, hcur2, hf⟩ := hse
     rw [HNL.out] at hs
     have hsr := bool_same hs HR9.out
     subst hsr
     obtain ⟨k2, hk2, hk2N⟩ := place_in hs hkN
     have hcur := HCU.out
     rw [hk2] at hcur hcur2
     replace HCc := Lib.hid (hcur.other hf hne2 HFC.out)
     replace HCx := Lib.hid hcur2
     replace HBL := Lib.hid (seek_below HBL.out HBx.out hf)
     clear hs hcur hcur2 hf hk2 HR9 HCU
     go_wp2_with fail
     refine (sat_any HCc.out).mono ?_
     rintro e D3 ⟨rfl, hb⟩
     rw [rowAt_in (by rw [HNL.out]; exact hk2N)]
     obtain ⟨⟨p1, p2, p3⟩, hu⟩ : ∃ u, L.getD k2 (0, 0, 0) = u := ⟨_, rfl⟩
     rw [hu]
     unfold vcV
     dsimp only
     obtain ⟨b8, hb8⟩ : ∃ b, D3.heap.size = b := ⟨_, rfl⟩
     obtain ⟨D4, hD4⟩ : ∃ W, D3.alloc (.cells #[.int .i64 p1, .int .i64 p2, .int .i64 p3] 51) = W := ⟨_, rfl⟩
     have hb2 : Below D3.heap.size D3 D4 := by rw [<- hD4]; exact (Below.refl _ _).alloc (Nat.le_refl _) _
     have X8 : Hid (Blk D4 b8 51 #[.int .i64 p1, .int .i64 p2, .int .i64 p3]) := Lib.hid (by rw [<- hD4]; exact Blk.newAt _ hb8 _ _)
     replace hb := hb.trans (hb2.mono hb.size)
     replace HCc := Lib.hid (HCc.out.below hb)
     replace HCx := Lib.hid (HCx.out.below hb)
     replace HBL := Lib.hid (HBL.out.trans (hb.mono HBL.out.size))
     have HD4 := Lib.hid hD4; have HB8 := Lib.hid hb8; have HU := Lib.hid hu
     clear hb hb2 hD4 hb8 hu
     go_wp2_with fail
     rw [HD4.out]
     try simp only [HB8.out]
     have hat := rat_any HCx.out (by rw [HNL.out]; exact hk2N)
     rw [HU.out] at hat
     refine hat.mono ?_
     clear hat
     rintro e D5 ⟨rfl, hb⟩
     unfold vcV
     dsimp only
     have hb2 : Below D5.heap.size D5 (D5.alloc (.cells #[.int .i64 p1, .int .i64 p2, .int .i64 p3] 51)) := (Below.refl _ _).alloc (Nat.le_refl _) _
     replace hb := hb.trans (hb2.mono hb.size)
     have hx8 := Blk.below X8.out hb X8.out.lt
     have hx9 : Blk (D5.alloc (.cells #[.int .i64 p1, .int .i64 p2, .int .i64 p3] 51)) D5.heap.size 51 #[.int .i64 p1, .int .i64 p2, .int .i64 p3] := Blk.new _ _ _
     have x0 := hx8.cell 0; have x1 := hx8.cell 1; have x2 := hx8.cell 2; have y0 := hx9.cell 0; have y1 := hx9.cell 1; have y2 := hx9.cell 2
     simp only [List.getElem?_toArray, List.getElem?_cons_zero, List.getElem?_cons_succ] at x0 x1 x2 y0 y1 y2
     replace HCc := Lib.hid (HCc.out.below hb)
     replace HCx := Lib.hid (HCx.out.below hb)
     replace HBL := Lib.hid (HBL.out.trans (hb.mono HBL.out.size))
     have qv := seqVec p1 p2 p3 p1 p2 p3
     rw [sveq_refl] at qv
     clear hb hb2 hx8 hx9 HD4 HB8 HU X8
     go_wp2_with fail
     refine (slen_any HCc.out).mono ?_
     rintro e w9 ⟨rfl, hw⟩
     subst w9
     rw [HNL.out]
     go_wp2_with fail
     refine (rlen_any HCx.out).mono ?_
     rintro e w9 ⟨rfl, hw⟩
     subst w9
     rw [HNL.out]
     go_wp2_with fail
     first | exact ⟨⟨i + 1, k2, by go_num, by omega, by omega, HCc, HCx, HBL⟩, by simp [intOf]; omega⟩ | exact ⟨⟨i + 1, by go_num, by omega, k2, by omega, HCc, HCx⟩, by simp [intOf]; omega⟩ | exact ⟨⟨i + 1, by go_num, by omega, ⟨k2, by omega, HCc, HCx⟩⟩, by simp [intOf]; omega⟩
    ·subst h8
     go_wp2_with fail
     try simp only [HYA.out, HYB.out, HYC.out]
     refine (sprev_any HCc.out (by omega) (by omega)).mono ?_
     intro e D1 hse
     unfold SeekO at hse
     obtain ⟨r, rfl, hr, hcur, hf⟩ := hse
     rw [HNL.out] at hr
     replace HCx := Lib.hid (HCx.out.other hf hne HFX.out)
     replace HBL := Lib.hid (seek_below HBL.out HBc.out hf)
     have HR9 := Lib.hid hr; have HCU := Lib.hid hcur
     clear hr hcur hf
     go_wp2_with fail
     refine (rprev_any HCx.out (by omega) (by omega)).mono ?_
     intro e D2 hse
     unfold RSeekO at hse
     obtain ⟨s, rfl, hs, hcur2, hf⟩ := hse
     rw [HNL.out] at hs
     have hsr := bool_same hs HR9.out
     subst hsr
     obtain ⟨k2, hk2, hk2N⟩ := place_in hs hkN
     have hcur := HCU.out
     rw [hk2] at hcur hcur2
     replace HCc := Lib.hid (hcur.other hf hne2 HFC.out)
     replace HCx := Lib.hid hcur2
     replace HBL := Lib.hid (seek_below HBL.out HBx.out hf)
     clear hs hcur hcur2 hf hk2 HR9 HCU
     go_wp2_with fail
     refine (sat_any HCc.out).mono ?_
     rintro e D3 ⟨rfl, hb⟩
     rw [rowAt_in (by rw [HNL.out]; exact hk2N)]
     obtain ⟨⟨p1, p2, p3⟩, hu⟩ : ∃ u, L.getD k2 (0, 0, 0) = u := ⟨_, rfl⟩
     rw [hu]
     unfold vcV
     dsimp only
     obtain ⟨b8, hb8⟩ : ∃ b, D3.heap.size = b := ⟨_, rfl⟩
     obtain ⟨D4, hD4⟩ : ∃ W, D3.alloc (.cells #[.int .i64 p1, .int .i64 p2, .int .i64 p3] 51) = W := ⟨_, rfl⟩
     have hb2 : Below D3.heap.size D3 D4 := by rw [<- hD4]; exact (Below.refl _ _).alloc (Nat.le_refl _) _
     have X8 : Hid (Blk D4 b8 51 #[.int .i64 p1, .int .i64 p2, .int .i64 p3]) := Lib.hid (by rw [<- hD4]; exact Blk.newAt _ hb8 _ _)
     replace hb := hb.trans (hb2.mono hb.size)
     replace HCc := Lib.hid (HCc.out.below hb)
     replace HCx := Lib.hid (HCx.out.below hb)
     replace HBL := Lib.hid (HBL.out.trans (hb.mono HBL.out.size))
     have HD4 := Lib.hid hD4; have HB8 := Lib.hid hb8; have HU := Lib.hid hu
     clear hb hb2 hD4 hb8 hu
     go_wp2_with fail
     rw [HD4.out]
     try simp only [HB8.out]
     have hat := rat_any HCx.out (by rw [HNL.out]; exact hk2N)
     rw [HU.out] at hat
     refine hat.mono ?_
     clear hat
     rintro e D5 ⟨rfl, hb⟩
     unfold vcV
     dsimp only
     have hb2 : Below D5.heap.size D5 (D5.alloc (.cells #[.int .i64 p1, .int .i64 p2, .int .i64 p3] 51)) := (Below.refl _ _).alloc (Nat.le_refl _) _
     replace hb := hb.trans (hb2.mono hb.size)
     have hx8 := Blk.below X8.out hb X8.out.lt
     have hx9 : Blk (D5.alloc (.cells #[.int .i64 p1, .int .i64 p2, .int .i64 p3] 51)) D5.heap.size 51 #[.int .i64 p1, .int .i64 p2, .int .i64 p3] := Blk.new _ _ _
     have x0 := hx8.cell 0; have x1 := hx8.cell 1; have x2 := hx8.cell 2; have y0 := hx9.cell 0; have y1 := hx9.cell 1; have y2 := hx9.cell 2
     simp only [List.getElem?_toArray, List.getElem?_cons_zero, List.getElem?_cons_succ] at x0 x1 x2 y0 y1 y2
     replace HCc := Lib.hid (HCc.out.below hb)
     replace HCx := Lib.hid (HCx.out.below hb)
     replace HBL := Lib.hid (HBL.out.trans (hb.mono HBL.out.size))
     have qv := seqVec p1 p2 p3 p1 p2 p3
     rw [sveq_refl] at qv
     clear hb hb2 hx8 hx9 HD4 HB8 HU X8
     go_wp2_with fail
     refine (slen_any HCc.out).mono ?_
     rintro e w9 ⟨rfl, hw⟩
     subst w9
     rw [HNL.out]
     go_wp2_with fail
     refine (rlen_any HCx.out).mono ?_
     rintro e w9 ⟨rfl, hw⟩
     subst w9
     rw [HNL.out]
     go_wp2_with fail
     first | exact ⟨⟨i + 1, k2, by go_num, by omega, by omega, HCc, HCx, HBL⟩, by simp [intOf]; omega⟩ | exact ⟨⟨i + 1, by go_num, by omega, k2, by omega, HCc, HCx⟩, by simp [intOf]; omega⟩ | exact ⟨⟨i + 1, by go_num, by omega, ⟨k2, by omega, HCc, HCx⟩⟩, by simp [intOf]; omega⟩
    ·subst h8
     go_wp2_with fail
     try simp only [HYA.out, HYB.out, HYC.out]
     refine (sseek_any (y := ya) HCc.out).mono ?_
     intro e D1 hse
     unfold SeekO at hse
     obtain ⟨r, rfl, hr, hcur, hf⟩ := hse
     rw [HNL.out] at hr
     replace HCx := Lib.hid (HCx.out.other hf hne HFX.out)
     replace HBL := Lib.hid (seek_below HBL.out HBc.out hf)
     have HR9 := Lib.hid hr; have HCU := Lib.hid hcur
     clear hr hcur hf
     go_wp2_with fail
     refine (rseek_any (y := ya) HCx.out).mono ?_
     intro e D2 hse
     unfold RSeekO at hse
     obtain ⟨s, rfl, hs, hcur2, hf⟩ := hse
     rw [HNL.out] at hs
     have hsr := bool_same hs HR9.out
     subst hsr
     obtain ⟨k2, hk2, hk2N⟩ := place_in hs hkN
     have hcur := HCU.out
     rw [hk2] at hcur hcur2
     replace HCc := Lib.hid (hcur.other hf hne2 HFC.out)
     replace HCx := Lib.hid hcur2
     replace HBL := Lib.hid (seek_below HBL.out HBx.out hf)
     clear hs hcur hcur2 hf hk2 HR9 HCU
     go_wp2_with fail
     refine (sat_any HCc.out).mono ?_
     rintro e D3 ⟨rfl, hb⟩
     rw [rowAt_in (by rw [HNL.out]; exact hk2N)]
     obtain ⟨⟨p1, p2, p3⟩, hu⟩ : ∃ u, L.getD k2 (0, 0, 0) = u := ⟨_, rfl⟩
     rw [hu]
     unfold vcV
     dsimp only
     obtain ⟨b8, hb8⟩ : ∃ b, D3.heap.size = b := ⟨_, rfl⟩
     obtain ⟨D4, hD4⟩ : ∃ W, D3.alloc (.cells #[.int .i64 p1, .int .i64 p2, .int .i64 p3] 51) = W := ⟨_, rfl⟩
     have hb2 : Below D3.heap.size D3 D4 := by rw [<- hD4]; exact (Below.refl _ _).alloc (Nat.le_refl _) _
     have X8 : Hid (Blk D4 b8 51 #[.int .i64 p1, .int .i64 p2, .int .i64 p3]) := Lib.hid (by rw [<- hD4]; exact Blk.newAt _ hb8 _ _)
     replace hb := hb.trans (hb2.mono hb.size)
     replace HCc := Lib.hid (HCc.out.below hb)
     replace HCx := Lib.hid (HCx.out.below hb)
     replace HBL := Lib.hid (HBL.out.trans (hb.mono HBL.out.size))
     have HD4 := Lib.hid hD4; have HB8 := Lib.hid hb8; have HU := Lib.hid hu
     clear hb hb2 hD4 hb8 hu
     go_wp2_with fail
     rw [HD4.out]
     try simp only [HB8.out]
     have hat := rat_any HCx.out (by rw [HNL.out]; exact hk2N)
     rw [HU.out] at hat
     refine hat.mono ?_
     clear hat
     rintro e D5 ⟨rfl, hb⟩
     unfold vcV
     dsimp only
     have hb2 : Below D5.heap.size D5 (D5.alloc (.cells #[.int .i64 p1, .int .i64 p2, .int .i64 p3] 51)) := (Below.refl _ _).alloc (Nat.le_refl _) _
     replace hb := hb.trans (hb2.mono hb.size)
     have hx8 := Blk.below X8.out hb X8.out.lt
     have hx9 : Blk (D5.alloc (.cells #[.int .i64 p1, .int .i64 p2, .int .i64 p3] 51)) D5.heap.size 51 #[.int .i64 p1, .int .i64 p2, .int .i64 p3] := Blk.new _ _ _
     have x0 := hx8.cell 0; have x1 := hx8.cell 1; have x2 := hx8.cell 2; have y0 := hx9.cell 0; have y1 := hx9.cell 1; have y2 := hx9.cell 2
     simp only [List.getElem?_toArray, List.getElem?_cons_zero, List.getElem?_cons_succ] at x0 x1 x2 y0 y1 y2
     replace HCc := Lib.hid (HCc.out.below hb)
     replace HCx := Lib.hid (HCx.out.below hb)
     replace HBL := Lib.hid (HBL.out.trans (hb.mono HBL.out.size))
     have qv := seqVec p1 p2 p3 p1 p2 p3
     rw [sveq_refl] at qv
     clear hb hb2 hx8 hx9 HD4 HB8 HU X8
     go_wp2_with fail
     refine (slen_any HCc.out).mono ?_
     rintro e w9 ⟨rfl, hw⟩
     subst w9
     rw [HNL.out]
     go_wp2_with fail
     refine (rlen_any HCx.out).mono ?_
     rintro e w9 ⟨rfl, hw⟩
     subst w9
     rw [HNL.out]
     go_wp2_with fail
     first | exact ⟨⟨i + 1, k2, by go_num, by omega, by omega, HCc, HCx, HBL⟩, by simp [intOf]; omega⟩ | exact ⟨⟨i + 1, by go_num, by omega, k2, by omega, HCc, HCx⟩, by simp [intOf]; omega⟩ | exact ⟨⟨i + 1, by go_num, by omega, ⟨k2, by omega, HCc, HCx⟩⟩, by simp [intOf]; omega⟩
    ·subst h8
     go_wp2_with fail
     try simp only [HYA.out, HYB.out, HYC.out]
     refine (sseek_any (y := a7) HCc.out).mono ?_
     intro e D1 hse
     unfold SeekO at hse
     obtain ⟨r, rfl, hr, hcur, hf⟩ := hse
     rw [HNL.out] at hr
     replace HCx := Lib.hid (HCx.out.other hf hne HFX.out)
     replace HBL := Lib.hid (seek_below HBL.out HBc.out hf)
     have HR9 := Lib.hid hr; have HCU := Lib.hid hcur
     clear hr hcur hf
     go_wp2_with fail
     refine (rseek_any (y := a7) HCx.out).mono ?_
     intro e D2 hse
     unfold RSeekO at hse
     obtain ⟨s, rfl, hs, hcur2, hf⟩ := hse
     rw [HNL.out] at hs
     have hsr := bool_same hs HR9.out
     subst hsr
     obtain ⟨k2, hk2, hk2N⟩ := place_in hs hkN
     have hcur := HCU.out
     rw [hk2] at hcur hcur2
     replace HCc := Lib.hid (hcur.other hf hne2 HFC.out)
     replace HCx := Lib.hid hcur2
     replace HBL := Lib.hid (seek_below HBL.out HBx.out hf)
     clear hs hcur hcur2 hf hk2 HR9 HCU
     go_wp2_with fail
     refine (sat_any HCc.out).mono ?_
     rintro e D3 ⟨rfl, hb⟩
     rw [rowAt_in (by rw [HNL.out]; exact hk2N)]
     obtain ⟨⟨p1, p2, p3⟩, hu⟩ : ∃ u, L.getD k2 (0, 0, 0) = u := ⟨_, rfl⟩
     rw [hu]
     unfold vcV
     dsimp only
     obtain ⟨b8, hb8⟩ : ∃ b, D3.heap.size = b := ⟨_, rfl⟩
     obtain ⟨D4, hD4⟩ : ∃ W, D3.alloc (.cells #[.int .i64 p1, .int .i64 p2, .int .i64 p3] 51) = W := ⟨_, rfl⟩
     have hb2 : Below D3.heap.size D3 D4 := by rw [<- hD4]; exact (Below.refl _ _).alloc (Nat.le_refl _) _
     have X8 : Hid (Blk D4 b8 51 #[.int .i64 p1, .int .i64 p2, .int .i64 p3]) := Lib.hid (by rw [<- hD4]; exact Blk.newAt _ hb8 _ _)
     replace hb := hb.trans (hb2.mono hb.size)
     replace HCc := Lib.hid (HCc.out.below hb)
     replace HCx := Lib.hid (HCx.out.below hb)
     replace HBL := Lib.hid (HBL.out.trans (hb.mono HBL.out.size))
     have HD4 := Lib.hid hD4; have HB8 := Lib.hid hb8; have HU := Lib.hid hu
     clear hb hb2 hD4 hb8 hu
     go_wp2_with fail
     rw [HD4.out]
     try simp only [HB8.out]
     have hat := rat_any HCx.out (by rw [HNL.out]; exact hk2N)
     rw [HU.out] at hat
     refine hat.mono ?_
     clear hat
     rintro e D5 ⟨rfl, hb⟩
     unfold vcV
     dsimp only
     have hb2 : Below D5.heap.size D5 (D5.alloc (.cells #[.int .i64 p1, .int .i64 p2, .int .i64 p3] 51)) := (Below.refl _ _).alloc (Nat.le_refl _) _
     replace hb := hb.trans (hb2.mono hb.size)
     have hx8 := Blk.below X8.out hb X8.out.lt
     have hx9 : Blk (D5.alloc (.cells #[.int .i64 p1, .int .i64 p2, .int .i64 p3] 51)) D5.heap.size 51 #[.int .i64 p1, .int .i64 p2, .int .i64 p3] := Blk.new _ _ _
     have x0 := hx8.cell 0; have x1 := hx8.cell 1; have x2 := hx8.cell 2; have y0 := hx9.cell 0; have y1 := hx9.cell 1; have y2 := hx9.cell 2
     simp only [List.getElem?_toArray, List.getElem?_cons_zero, List.getElem?_cons_succ] at x0 x1 x2 y0 y1 y2
     replace HCc := Lib.hid (HCc.out.below hb)
     replace HCx := Lib.hid (HCx.out.below hb)
     replace HBL := Lib.hid (HBL.out.trans (hb.mono HBL.out.size))
     have qv := seqVec p1 p2 p3 p1 p2 p3
     rw [sveq_refl] at qv
     clear hb hb2 hx8 hx9 HD4 HB8 HU X8
     go_wp2_with fail
     refine (slen_any HCc.out).mono ?_
     rintro e w9 ⟨rfl, hw⟩
     subst w9
     rw [HNL.out]
     go_wp2_with fail
     refine (rlen_any HCx.out).mono ?_
     rintro e w9 ⟨rfl, hw⟩
     subst w9
     rw [HNL.out]
     go_wp2_with fail
     first | exact ⟨⟨i + 1, k2, by go_num, by omega, by omega, HCc, HCx, HBL⟩, by simp [intOf]; omega⟩ | exact ⟨⟨i + 1, by go_num, by omega, k2, by omega, HCc, HCx⟩, by simp [intOf]; omega⟩ | exact ⟨⟨i + 1, by go_num, by omega, ⟨k2, by omega, HCc, HCx⟩⟩, by simp [intOf]; omega⟩
    ·have h80 : ¬ (m8 : Int) = 0 := by omega
     have h81 : ¬ (m8 : Int) = 1 := by omega
     have h82 : ¬ (m8 : Int) = 2 := by omega
     have h83 : ¬ (m8 : Int) = 3 := by omega
     have h84 : ¬ (m8 : Int) = 4 := by omega
     go_wp2_with fail
     try simp only [HYA.out, HYB.out, HYC.out]
     refine (sbest_any (lo := ya) (hi := yb) (cat := yc) HCc.out (by rw [HNL.out]; omega)).mono ?_
     intro e D1 hbe
     unfold BestO at hbe
     obtain ⟨rfl, hb⟩ := hbe
     obtain ⟨⟨pp, uu⟩, hbst⟩ : ∃ q, bestI L ya yb yc = q := ⟨_, rfl⟩
     rw [hbst]
     dsimp only
     replace HCc := Lib.hid (HCc.out.below hb)
     replace HCx := Lib.hid (HCx.out.below hb)
     replace HBL := Lib.hid (HBL.out.trans (hb.mono HBL.out.size))
     have HBST := Lib.hid hbst
     clear hb hbst
     go_wp2_with fail
     try simp only [HYA.out, HYB.out, HYC.out]
     refine (rbest_any (lo := ya) (hi := yb) (cat := yc) HCx.out (by rw [HNL.out]; omega)).mono ?_
     intro e D2 hbe
     unfold BestO at hbe
     obtain ⟨rfl, hb⟩ := hbe
     rw [HBST.out]
     dsimp only
     replace HCc := Lib.hid (HCc.out.below hb)
     replace HCx := Lib.hid (HCx.out.below hb)
     replace HBL := Lib.hid (HBL.out.trans (hb.mono HBL.out.size))
     clear hb HBST
     have hk2N : k < N := hkN
     go_wp2_with fail
     refine (sat_any HCc.out).mono ?_
     rintro e D3 ⟨rfl, hb⟩
     rw [rowAt_in (by rw [HNL.out]; exact hkN)]
     obtain ⟨⟨p1, p2, p3⟩, hu⟩ : ∃ u, L.getD k (0, 0, 0) = u := ⟨_, rfl⟩
     rw [hu]
     unfold vcV
     dsimp only
     obtain ⟨b8, hb8⟩ : ∃ b, D3.heap.size = b := ⟨_, rfl⟩
     obtain ⟨D4, hD4⟩ : ∃ W, D3.alloc (.cells #[.int .i64 p1, .int .i64 p2, .int .i64 p3] 51) = W := ⟨_, rfl⟩
     have hb2 : Below D3.heap.size D3 D4 := by rw [<- hD4]; exact (Below.refl _ _).alloc (Nat.le_refl _) _
     have X8 : Hid (Blk D4 b8 51 #[.int .i64 p1, .int .i64 p2, .int .i64 p3]) := Lib.hid (by rw [<- hD4]; exact Blk.newAt _ hb8 _ _)
     replace hb := hb.trans (hb2.mono hb.size)
     replace HCc := Lib.hid (HCc.out.below hb)
     replace HCx := Lib.hid (HCx.out.below hb)
     replace HBL := Lib.hid (HBL.out.trans (hb.mono HBL.out.size))
     have HD4 := Lib.hid hD4; have HB8 := Lib.hid hb8; have HU := Lib.hid hu
     clear hb hb2 hD4 hb8 hu
     go_wp2_with fail
     rw [HD4.out]
     try simp only [HB8.out]
     have hat := rat_any HCx.out (by rw [HNL.out]; exact hkN)
     rw [HU.out] at hat
     refine hat.mono ?_
     clear hat
     rintro e D5 ⟨rfl, hb⟩
     unfold vcV
     dsimp only
     have hb2 : Below D5.heap.size D5 (D5.alloc (.cells #[.int .i64 p1, .int .i64 p2, .int .i64 p3] 51)) := (Below.refl _ _).alloc (Nat.le_refl _) _
     replace hb := hb.trans (hb2.mono hb.size)
     have hx8 := Blk.below X8.out hb X8.out.lt
     have hx9 : Blk (D5.alloc (.cells #[.int .i64 p1, .int .i64 p2, .int .i64 p3] 51)) D5.heap.size 51 #[.int .i64 p1, .int .i64 p2, .int .i64 p3] := Blk.new _ _ _
     have x0 := hx8.cell 0; have x1 := hx8.cell 1; have x2 := hx8.cell 2; have y0 := hx9.cell 0; have y1 := hx9.cell 1; have y2 := hx9.cell 2
     simp only [List.getElem?_toArray, List.getElem?_cons_zero, List.getElem?_cons_succ] at x0 x1 x2 y0 y1 y2
     replace HCc := Lib.hid (HCc.out.below hb)
     replace HCx := Lib.hid (HCx.out.below hb)
     replace HBL := Lib.hid (HBL.out.trans (hb.mono HBL.out.size))
     have qv := seqVec p1 p2 p3 p1 p2 p3
     rw [sveq_refl] at qv
     clear hb hb2 hx8 hx9 HD4 HB8 HU X8
     go_wp2_with fail
     refine (slen_any HCc.out).mono ?_
     rintro e w9 ⟨rfl, hw⟩
     subst w9
     rw [HNL.out]
     go_wp2_with fail
     refine (rlen_any HCx.out).mono ?_
     rintro e w9 ⟨rfl, hw⟩
     subst w9
     rw [HNL.out]
     go_wp2_with fail
     first | exact ⟨⟨i + 1, k, by go_num, by omega, by omega, HCc, HCx, HBL⟩, by simp [intOf]; omega⟩ | exact ⟨⟨i + 1, by go_num, by omega, k, by omega, HCc, HCx⟩, by simp [intOf]; omega⟩ | exact ⟨⟨i + 1, by go_num, by omega, ⟨k, by omega, HCc, HCx⟩⟩, by simp [intOf]; omega⟩
   ·have hd : (len6 <= i /\ decide ((i : Int) < (len6 : Int)) = false) \/ (i < len6 /\ 60 <= i /\ decide ((i : Int) < 60) = false) := by simp; omega
    clear hgo
    rcases hd with ⟨d1, d2⟩ | ⟨d1, d2, d3⟩
    all_goals
     go_wp2_with fail
     go_ret
     exact ⟨rfl, HBL.out⟩
end Go.Proofs.Ytacgakkcpmhgmaa
