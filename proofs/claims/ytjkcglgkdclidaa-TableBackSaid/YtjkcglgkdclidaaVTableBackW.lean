/- TableBack: any table is written as the document says, and read as it was. -/
import Derived.Test.YtjkcglgkdclidaaVTableTb
import Derived.Test.YtjkcglgkdclidaaVTableTa
set_option linter.unusedVariables false
set_option linter.unusedSimpArgs false
set_option maxRecDepth 100000
set_option maxHeartbeats 8000000
namespace Go.Proofs.Ytjkcglgkdclidaa
open Go Go.RowKit Go.Proofs
theorem tableBack_walk (a0 : Int) (a1 : Int) (a2 : Option Addr) (len2 cap2 : Nat) (z2 : List Int) (a3 : Option Addr) (len3 cap3 : Nat) (z3 : List Int) (a4 : Option Addr) (len4 cap4 : Nat) (z4 : List Int) (w : World) (w0 : (Lit.int .i64 a0).wf = true) (w1 : (Lit.int .i64 a1).wf = true) (w2 : IsRow .i64 w a2 len2 cap2 z2) (w3 : IsRow .i64 w a3 len3 cap3 z3) (w4 : IsRow .i64 w a4 len4 cap4 z4) :
  Calls Try.prog 3 #[.int .i64 a0, .int .i64 a1, .slice a2 len2 cap2, .slice a3 len3 cap3, .slice a4 len4 cap4] w fun e w' => e = .returned (.bool true) /\ Below w.heap.size w w' := by
  have hk := kOf_is a0; have hn := nOf_is a1; have hk9 := kOf_lt a0; have hn9 := nOf_lt a1
  obtain ⟨k, ek⟩ : ∃ k, kOf a0 = k := ⟨_, rfl⟩
  obtain ⟨n, en⟩ : ∃ n, nOf a1 = n := ⟨_, rfl⟩
  rw [ek] at hk hk9
  rw [en] at hn hn9
  clear ek en
  obtain ⟨k0, k9⟩ := hk9
  obtain ⟨n0, n9⟩ := hn9
  have HK := Lib.hid hk; have HN := Lib.hid hn
  have R2 := Lib.hid w2.readsI
  have R3 := Lib.hid w3.readsI
  have R4 := Lib.hid w4.readsI
  clear hk hn w0 w1 w2 w3 w4
  go_enter Try.func3, Try.ntmps3
  go_wp2_with fail
  refine (tknown_any _).mono ?_
  rintro e V1 ⟨rfl, hb⟩
  replace R2 := Lib.hid (R2.out.below hb)
  replace R3 := Lib.hid (R3.out.below hb)
  replace R4 := Lib.hid (R4.out.below hb)
  have HB := Lib.hid hb
  clear hb
  go_wp2_with fail
  refine (make_any R2.out R3.out R4.out a0 a1 HK.out HN.out).mono ?_
  rintro e V2 ⟨vc, vl, vbn, vbo, vfn, vfe, rfl, ht, hb⟩
  replace R2 := Lib.hid (R2.out.below hb)
  replace R3 := Lib.hid (R3.out.below hb)
  replace R4 := Lib.hid (R4.out.below hb)
  replace HB := Lib.hid (HB.out.trans (hb.mono HB.out.size))
  clear hb
  have hrtt := lawTab_right (ns := (z2.take len2)) (ms := (z3.take len3)) (cs := (z4.take len4)) k0 (by omega) n0 (by omega)
  have helt := lawTab_len (ns := (z2.take len2)) (ms := (z3.take len3)) (cs := (z4.take len4)) k0 k9 n0 n9
  obtain ⟨tt, htt⟩ : ∃ t, lawTab (z2.take len2) (z3.take len3) (z4.take len4) k n = t := ⟨_, rfl⟩
  rw [htt] at ht hrtt helt
  have hlens := hrtt.lens helt
  obtain ⟨A0t, k0t, rfl, le0t, lt0t, -⟩ := ht.c.form
  obtain ⟨A1t, k1t, rfl, le1t, lt1t, -⟩ := ht.l.form
  obtain ⟨A2t, k2t, ee, le2t, lt2t⟩ := ht.bn.form
  subst ee
  obtain ⟨A3t, k3t, rfl, le3t, lt3t, -⟩ := ht.bo.form
  obtain ⟨A4t, k4t, ee, le4t, lt4t⟩ := ht.fn.form
  subst ee
  obtain ⟨A5t, k5t, ee, le5t, lt5t⟩ := ht.fe.form
  subst ee
  obtain ⟨m0t, hm0t⟩ : ∃ m, tt.cuts.length = m := ⟨_, rfl⟩
  obtain ⟨m1t, hm1t⟩ : ∃ m, tt.letters.length = m := ⟨_, rfl⟩
  obtain ⟨m2t, hm2t⟩ : ∃ m, tt.bn.length = m := ⟨_, rfl⟩
  obtain ⟨m3t, hm3t⟩ : ∃ m, tt.bo.length = m := ⟨_, rfl⟩
  obtain ⟨m4t, hm4t⟩ : ∃ m, tt.fn.length = m := ⟨_, rfl⟩
  obtain ⟨m5t, hm5t⟩ : ∃ m, tt.fe.length = m := ⟨_, rfl⟩
  rw [hm0t, hm1t, hm2t, hm3t, hm4t, hm5t] at ht hlens
  rw [hm0t] at le0t
  rw [hm1t] at le1t
  rw [hm2t] at le2t
  rw [hm3t] at le3t
  rw [hm4t] at le4t
  rw [hm5t] at le5t
  rw [hm0t, hm1t, hm2t, hm3t, hm4t, hm5t]
  obtain ⟨q0t, q1t, q2t, q3t, q4t, q5t⟩ := hlens
  have HM0t := Lib.hid hm0t
  have HM1t := Lib.hid hm1t
  have HM2t := Lib.hid hm2t
  have HM3t := Lib.hid hm3t
  have HM4t := Lib.hid hm4t
  have HM5t := Lib.hid hm5t
  obtain ⟨bt, hbe⟩ : ∃ b, V2.heap.size = b := ⟨_, rfl⟩
  obtain ⟨V3, hW⟩ : ∃ W, V2.alloc (.cells #[.slice A0t m0t k0t, .slice A1t m1t k1t, .slice A2t m2t k2t, .slice A3t m3t k3t, .slice A4t m4t k4t, .slice A5t m5t k5t] 31) = W := ⟨_, rfl⟩
  have hb : Below V2.heap.size V2 V3 := by rw [<- hW]; exact (Below.refl _ _).alloc (Nat.le_refl _) _
  have Xt : Hid (Blk V3 bt 31 #[.slice A0t m0t k0t, .slice A1t m1t k1t, .slice A2t m2t k2t, .slice A3t m3t k3t, .slice A4t m4t k4t, .slice A5t m5t k5t]) := Lib.hid (by rw [<- hW]; exact Blk.newAt _ hbe _ _)
  replace R2 := Lib.hid (R2.out.below hb)
  replace R3 := Lib.hid (R3.out.below hb)
  replace R4 := Lib.hid (R4.out.below hb)
  have HTt := Lib.hid (ht.below hb)
  replace HB := Lib.hid (HB.out.trans (hb.mono HB.out.size))
  have HRt := Lib.hid hrtt; have HEt := Lib.hid helt; have TEt := Lib.hid htt; have HWt := Lib.hid hW; have HBEt := Lib.hid hbe
  clear ht hrtt helt htt hW hb hbe hm0t hm1t hm2t hm3t hm4t hm5t
  have c0t := Xt.out.cell 0
  have c1t := Xt.out.cell 1
  have c2t := Xt.out.cell 2
  have c3t := Xt.out.cell 3
  have c4t := Xt.out.cell 4
  have c5t := Xt.out.cell 5
  simp only [List.getElem?_toArray, List.getElem?_cons_zero, List.getElem?_cons_succ] at c0t c1t c2t c3t c4t c5t
  have HWt' := HWt.out
  rw [<- HWt.out, <- HBEt.out] at c0t c1t c2t c3t c4t c5t
  clear HWt'
  go_wp2_with fail
  rw [HWt.out]
  try simp only [HBEt.out]
  rw [HWt.out, HBEt.out] at c0t c1t c2t c3t c4t c5t
  refine (tright_any HTt.out).mono ?_
  rintro e V4 ⟨s4, rfl, hs4, hb⟩
  have h4 := hs4.2 HRt.out
  subst h4
  replace HTt := Lib.hid (HTt.out.below hb)
  replace Xt := Lib.hid (Blk.below Xt.out hb Xt.out.lt)
  replace HB := Lib.hid (HB.out.trans (hb.mono HB.out.size))
  clear hb
  clear hs4
  clear c0t c1t c2t c3t c4t c5t
  have c0t := Xt.out.cell 0
  have c1t := Xt.out.cell 1
  have c2t := Xt.out.cell 2
  have c3t := Xt.out.cell 3
  have c4t := Xt.out.cell 4
  have c5t := Xt.out.cell 5
  simp only [List.getElem?_toArray, List.getElem?_cons_zero, List.getElem?_cons_succ] at c0t c1t c2t c3t c4t c5t
  go_wp2_with fail
  refine (tsave_any HTt.out (fun _ => (Nat.le_trans HEt.out (by decide)))).mono ?_
  rintro e V5 ⟨u, rfl, hsv, -, hb⟩
  replace HTt := Lib.hid (HTt.out.below hb)
  replace Xt := Lib.hid (Blk.below Xt.out hb Xt.out.lt)
  have HU := Lib.hid (hsv HRt.out)
  clear hsv
  replace HB := Lib.hid (HB.out.trans (hb.mono HB.out.size))
  clear hb
  clear c0t c1t c2t c3t c4t c5t
  obtain ⟨A7, c7, e7, -, -⟩ := HU.out.slice
  subst e7
  obtain ⟨n7, hn7⟩ : ∃ n, (saveT tt).length = n := ⟨_, rfl⟩
  have hn79 : n7 <= 8000000 := by rw [<- hn7, saveT_len]; have := HEt.out; omega
  have HBY := Lib.hid (HU.out.bytes (saveT_byte tt))
  rw [hn7] at HU HBY ⊢
  clear hn7
  go_wp2_with fail
  refine (tload_any HBY.out hn79).mono ?_
  rintro e V6 ⟨hld, hb⟩
  obtain ⟨vc, vl, vbn, vbo, vfn, vfe, rfl, hto, htr⟩ := load_save hld HRt.out
  clear hld
  replace HTt := Lib.hid (HTt.out.below hb)
  replace Xt := Lib.hid (Blk.below Xt.out hb Xt.out.lt)
  replace HU := Lib.hid (HU.out.below hb)
  replace HBY := Lib.hid (HBY.out.below hb)
  replace HB := Lib.hid (HB.out.trans (hb.mono HB.out.size))
  clear hb
  obtain ⟨A0x, k0x, rfl, -, -, -⟩ := htr.c.form
  obtain ⟨A1x, k1x, rfl, -, -, -⟩ := htr.l.form
  obtain ⟨A2x, k2x, ee, -, -⟩ := htr.bn.form
  subst ee
  obtain ⟨A3x, k3x, rfl, -, -, -⟩ := htr.bo.form
  obtain ⟨A4x, k4x, ee, -, -⟩ := htr.fn.form
  subst ee
  obtain ⟨A5x, k5x, ee, -, -⟩ := htr.fe.form
  subst ee
  obtain ⟨m0x, hm0x⟩ : ∃ m, tt.cuts.length = m := ⟨_, rfl⟩
  obtain ⟨m1x, hm1x⟩ : ∃ m, tt.letters.length = m := ⟨_, rfl⟩
  obtain ⟨m2x, hm2x⟩ : ∃ m, tt.bn.length = m := ⟨_, rfl⟩
  obtain ⟨m3x, hm3x⟩ : ∃ m, tt.bo.length = m := ⟨_, rfl⟩
  obtain ⟨m4x, hm4x⟩ : ∃ m, tt.fn.length = m := ⟨_, rfl⟩
  obtain ⟨m5x, hm5x⟩ : ∃ m, tt.fe.length = m := ⟨_, rfl⟩
  rw [hm0x, hm1x, hm2x, hm3x, hm4x, hm5x] at htr hto
  rw [hm0x, hm1x, hm2x, hm3x, hm4x, hm5x]
  have HM0x := Lib.hid hm0x
  have HM1x := Lib.hid hm1x
  have HM2x := Lib.hid hm2x
  have HM3x := Lib.hid hm3x
  have HM4x := Lib.hid hm4x
  have HM5x := Lib.hid hm5x
  obtain ⟨bx, hbe⟩ : ∃ b, V6.heap.size = b := ⟨_, rfl⟩
  obtain ⟨V7, hW⟩ : ∃ W, V6.alloc (.cells #[.slice A0x m0x k0x, .slice A1x m1x k1x, .slice A2x m2x k2x, .slice A3x m3x k3x, .slice A4x m4x k4x, .slice A5x m5x k5x] 31) = W := ⟨_, rfl⟩
  have hb : Below V6.heap.size V6 V7 := by rw [<- hW]; exact (Below.refl _ _).alloc (Nat.le_refl _) _
  have Xx : Hid (Blk V7 bx 31 #[.slice A0x m0x k0x, .slice A1x m1x k1x, .slice A2x m2x k2x, .slice A3x m3x k3x, .slice A4x m4x k4x, .slice A5x m5x k5x]) := Lib.hid (by rw [<- hW]; exact Blk.newAt _ hbe _ _)
  replace HTt := Lib.hid (HTt.out.below hb)
  replace Xt := Lib.hid (Blk.below Xt.out hb Xt.out.lt)
  replace HU := Lib.hid (HU.out.below hb)
  replace HBY := Lib.hid (HBY.out.below hb)
  have HTx := Lib.hid (htr.below hb)
  have HTOx := Lib.hid (hto.below hb)
  replace HB := Lib.hid (HB.out.trans (hb.mono HB.out.size))
  have HWx := Lib.hid hW; have HBEx := Lib.hid hbe
  clear htr hto hW hb hbe hm0x hm1x hm2x hm3x hm4x hm5x
  go_wp2_with fail
  rw [HWx.out]
  try simp only [HBEx.out]
  have hb : Below V7.heap.size V7 V7.drew := (Below.refl _ _).drew
  replace HTt := Lib.hid (HTt.out.below hb)
  replace Xt := Lib.hid (Blk.below Xt.out hb Xt.out.lt)
  replace HTx := Lib.hid (HTx.out.below hb)
  replace Xx := Lib.hid (Blk.below Xx.out hb Xx.out.lt)
  replace HU := Lib.hid (HU.out.below hb)
  replace HBY := Lib.hid (HBY.out.below hb)
  replace HB := Lib.hid (HB.out.trans (hb.mono HB.out.size))
  clear hb
  refine region_x 14 (fun W : World => ((W.cell? ⟨bt, 0, none⟩ = some (.slice A0t m0t k0t) /\ W.cell? ⟨bt, 1, none⟩ = some (.slice A1t m1t k1t) /\ W.cell? ⟨bt, 2, none⟩ = some (.slice A2t m2t k2t) /\ W.cell? ⟨bt, 3, none⟩ = some (.slice A3t m3t k3t) /\ W.cell? ⟨bt, 4, none⟩ = some (.slice A4t m4t k4t) /\ W.cell? ⟨bt, 5, none⟩ = some (.slice A5t m5t k5t)) /\ (W.cell? ⟨bx, 0, none⟩ = some (.slice A0x m0x k0x) /\ W.cell? ⟨bx, 1, none⟩ = some (.slice A1x m1x k1x) /\ W.cell? ⟨bx, 2, none⟩ = some (.slice A2x m2x k2x) /\ W.cell? ⟨bx, 3, none⟩ = some (.slice A3x m3x k3x) /\ W.cell? ⟨bx, 4, none⟩ = some (.slice A4x m4x k4x) /\ W.cell? ⟨bx, 5, none⟩ = some (.slice A5x m5x k5x))) /\ (convert 34 9 (.slice A7 n7 c7)).run Try.prog W = .ok (.string (strOfNums (saveT tt))) W) (by kernel_rfl) ?_
  generalize V7.drew = V8 at *
  have hS : (fun W : World => ((W.cell? ⟨bt, 0, none⟩ = some (.slice A0t m0t k0t) /\ W.cell? ⟨bt, 1, none⟩ = some (.slice A1t m1t k1t) /\ W.cell? ⟨bt, 2, none⟩ = some (.slice A2t m2t k2t) /\ W.cell? ⟨bt, 3, none⟩ = some (.slice A3t m3t k3t) /\ W.cell? ⟨bt, 4, none⟩ = some (.slice A4t m4t k4t) /\ W.cell? ⟨bt, 5, none⟩ = some (.slice A5t m5t k5t)) /\ (W.cell? ⟨bx, 0, none⟩ = some (.slice A0x m0x k0x) /\ W.cell? ⟨bx, 1, none⟩ = some (.slice A1x m1x k1x) /\ W.cell? ⟨bx, 2, none⟩ = some (.slice A2x m2x k2x) /\ W.cell? ⟨bx, 3, none⟩ = some (.slice A3x m3x k3x) /\ W.cell? ⟨bx, 4, none⟩ = some (.slice A4x m4x k4x) /\ W.cell? ⟨bx, 5, none⟩ = some (.slice A5x m5x k5x))) /\ (convert 34 9 (.slice A7 n7 c7)).run Try.prog W = .ok (.string (strOfNums (saveT tt))) W) V8 := ⟨⟨⟨Xt.out.cell 0, Xt.out.cell 1, Xt.out.cell 2, Xt.out.cell 3, Xt.out.cell 4, Xt.out.cell 5⟩, ⟨Xx.out.cell 0, Xx.out.cell 1, Xx.out.cell 2, Xx.out.cell 3, Xx.out.cell 4, Xx.out.cell 5⟩⟩, run_convB HU.out⟩
  refine tkx (i := 0) (v := ?_) hS ?_ ?_
  rotate_left
  ·rintro w' ⟨⟨⟨a0', a1', a2', a3', a4', a5'⟩, ⟨b0', b1', b2', b3', b4', b5'⟩⟩, cv'⟩
   go_simp
   try with_reducible rfl
  try simp only [Act.put, zq1, zq2, zq3, zq4, zq5, zq6]
  refine tkx (i := 1) (v := .string (strOfNums (saveT tt))) hS ?_ ?_
  ·rintro w' ⟨-, cv'⟩
   try simp only [zq1, zq2, zq3]
   unfold execOp
   simp only [Sem.run_bind, Sem.run_pure, Result.andThen_ok]
   exact (by simp only [Act.eval, zq1, zq2, zq3]; go_simp)
  try simp only [Act.put, zq1, zq2, zq3, zq4, zq5, zq6]
  refine tkx (i := 2) (v := ?_) hS ?_ ?_
  rotate_left
  ·rintro w' ⟨⟨⟨a0', a1', a2', a3', a4', a5'⟩, ⟨b0', b1', b2', b3', b4', b5'⟩⟩, cv'⟩
   go_simp
   try with_reducible rfl
  try simp only [Act.put, zq1, zq2, zq3, zq4, zq5, zq6]
  refine anyX_g (i := 3) (by kernel_rfl) (by decide) rfl (by rfl) ?_
  intro K hK
  try simp only [zq1, zq2, zq3]
  refine wp_enterE #[.agg #[.slice A0t m0t k0t, .slice A1t m1t k1t, .slice A2t m2t k2t, .slice A3t m3t k3t, .slice A4t m4t k4t, .slice A5t m5t k5t]] Try.func17 (by kernel_rfl) (by kernel_rfl) ?_ (rsave_any HTt.out HRt.out.intsT (Nat.le_trans HEt.out (by decide))) ?_
  ·go_simp
  rintro e V9 ⟨u9, rfl, ho9, hb⟩
  replace HTt := Lib.hid (HTt.out.below hb)
  replace Xt := Lib.hid (Blk.below Xt.out hb Xt.out.lt)
  replace HTx := Lib.hid (HTx.out.below hb)
  replace Xx := Lib.hid (Blk.below Xx.out hb Xx.out.lt)
  replace HU := Lib.hid (HU.out.below hb)
  replace HBY := Lib.hid (HBY.out.below hb)
  have HU9 := Lib.hid ho9
  clear ho9
  replace HB := Lib.hid (HB.out.trans (hb.mono HB.out.size))
  clear hb
  clear hS
  have hS : (fun W : World => ((W.cell? ⟨bt, 0, none⟩ = some (.slice A0t m0t k0t) /\ W.cell? ⟨bt, 1, none⟩ = some (.slice A1t m1t k1t) /\ W.cell? ⟨bt, 2, none⟩ = some (.slice A2t m2t k2t) /\ W.cell? ⟨bt, 3, none⟩ = some (.slice A3t m3t k3t) /\ W.cell? ⟨bt, 4, none⟩ = some (.slice A4t m4t k4t) /\ W.cell? ⟨bt, 5, none⟩ = some (.slice A5t m5t k5t)) /\ (W.cell? ⟨bx, 0, none⟩ = some (.slice A0x m0x k0x) /\ W.cell? ⟨bx, 1, none⟩ = some (.slice A1x m1x k1x) /\ W.cell? ⟨bx, 2, none⟩ = some (.slice A2x m2x k2x) /\ W.cell? ⟨bx, 3, none⟩ = some (.slice A3x m3x k3x) /\ W.cell? ⟨bx, 4, none⟩ = some (.slice A4x m4x k4x) /\ W.cell? ⟨bx, 5, none⟩ = some (.slice A5x m5x k5x))) /\ (convert 34 9 (.slice A7 n7 c7)).run Try.prog W = .ok (.string (strOfNums (saveT tt))) W) V9 := ⟨⟨⟨Xt.out.cell 0, Xt.out.cell 1, Xt.out.cell 2, Xt.out.cell 3, Xt.out.cell 4, Xt.out.cell 5⟩, ⟨Xx.out.cell 0, Xx.out.cell 1, Xx.out.cell 2, Xx.out.cell 3, Xx.out.cell 4, Xx.out.cell 5⟩⟩, run_convB HU.out⟩
  refine ⟨_, rfl, ?_⟩
  refine hK _ _ hS ?_
  clear hK
  try simp only [Act.put, zq1, zq2, zq3, zq4, zq5, zq6]
  refine anyX_g (i := 4) (by kernel_rfl) (by decide) rfl (by rfl) ?_
  intro K hK
  try simp only [zq1, zq2, zq3]
  refine wp_convB rfl (.tmp 36) rfl _ rfl HU9.out ?_
  refine hK _ _ hS ?_
  clear hK
  try simp only [Act.put, zq1, zq2, zq3, zq4, zq5, zq6]
  have hss : ((strOfNums (saveT tt)).toList == (strOfNums (saveT tt)).toList) = true := by simp
  refine anyX_g (i := 5) (by kernel_rfl) (by decide) rfl (by rfl) ?_
  intro K hK
  try simp only [zq1, zq2, zq3]
  go_simp
  try rw [hss]
  refine hK _ _ hS ?_
  clear hK
  try simp only [Act.put, zq1, zq2, zq3, zq4, zq5, zq6]
  refine anyX_g (i := 6) (by kernel_rfl) (by decide) rfl (by rfl) ?_
  intro K hK
  try simp only [zq1, zq2, zq3]
  go_simp
  refine hK _ _ hS ?_
  clear hK
  try simp only [Act.put, zq1, zq2, zq3, zq4, zq5, zq6]
  refine anyX_g (i := 7) (by kernel_rfl) (by decide) rfl (by rfl) ?_
  intro K hK
  try simp only [zq1, zq2, zq3]
  go_simp
  refine hK _ _ hS ?_
  clear hK
  try simp only [Act.put, zq1, zq2, zq3, zq4, zq5, zq6]
  refine anyX_g (i := 8) (by kernel_rfl) (by decide) rfl (by rfl) ?_
  intro K hK
  try simp only [zq1, zq2, zq3]
  go_simp
  refine hK _ _ hS ?_
  clear hK
  try simp only [Act.put, zq1, zq2, zq3, zq4, zq5, zq6]
  refine anyX_g (i := 9) (by kernel_rfl) (by decide) rfl (by rfl) ?_
  intro K hK
  try simp only [zq1, zq2, zq3]
  go_simp
  refine hK _ _ hS ?_
  clear hK
  try simp only [Act.put, zq1, zq2, zq3, zq4, zq5, zq6]
  refine tkx (i := 10) (v := ?_) hS ?_ ?_
  rotate_left
  ·rintro w' ⟨⟨⟨a0', a1', a2', a3', a4', a5'⟩, ⟨b0', b1', b2', b3', b4', b5'⟩⟩, cv'⟩
   go_simp
   try with_reducible rfl
  try simp only [Act.put, zq1, zq2, zq3, zq4, zq5, zq6]
  refine tkx (i := 11) (v := ?_) hS ?_ ?_
  rotate_left
  ·rintro w' ⟨⟨⟨a0', a1', a2', a3', a4', a5'⟩, ⟨b0', b1', b2', b3', b4', b5'⟩⟩, cv'⟩
   go_simp
   try with_reducible rfl
  try simp only [Act.put, zq1, zq2, zq3, zq4, zq5, zq6]
  refine anyX_g (i := 12) (by kernel_rfl) (by decide) rfl (by rfl) ?_
  intro K hK
  try simp only [zq1, zq2, zq3]
  refine wp_enterE #[.agg #[.slice A0t m0t k0t, .slice A1t m1t k1t, .slice A2t m2t k2t, .slice A3t m3t k3t, .slice A4t m4t k4t, .slice A5t m5t k5t], .agg #[.slice A0x m0x k0x, .slice A1x m1x k1x, .slice A2x m2x k2x, .slice A3x m3x k3x, .slice A4x m4x k4x, .slice A5x m5x k5x]] Try.func18 (by kernel_rfl) (by kernel_rfl) ?_ (rsame_any HTt.out HTx.out HRt.out.intsT HRt.out.intsT (Nat.le_trans HEt.out (by decide)) (Nat.le_trans HEt.out (by decide)) (r := true) ⟨fun _ => rfl, fun _ => rfl⟩) ?_
  ·go_simp
  rintro e V10 ⟨rfl, hb⟩
  replace HTt := Lib.hid (HTt.out.below hb)
  replace Xt := Lib.hid (Blk.below Xt.out hb Xt.out.lt)
  replace HTx := Lib.hid (HTx.out.below hb)
  replace Xx := Lib.hid (Blk.below Xx.out hb Xx.out.lt)
  replace HU := Lib.hid (HU.out.below hb)
  replace HBY := Lib.hid (HBY.out.below hb)
  replace HB := Lib.hid (HB.out.trans (hb.mono HB.out.size))
  clear hb
  clear hS
  have hS : (fun W : World => ((W.cell? ⟨bt, 0, none⟩ = some (.slice A0t m0t k0t) /\ W.cell? ⟨bt, 1, none⟩ = some (.slice A1t m1t k1t) /\ W.cell? ⟨bt, 2, none⟩ = some (.slice A2t m2t k2t) /\ W.cell? ⟨bt, 3, none⟩ = some (.slice A3t m3t k3t) /\ W.cell? ⟨bt, 4, none⟩ = some (.slice A4t m4t k4t) /\ W.cell? ⟨bt, 5, none⟩ = some (.slice A5t m5t k5t)) /\ (W.cell? ⟨bx, 0, none⟩ = some (.slice A0x m0x k0x) /\ W.cell? ⟨bx, 1, none⟩ = some (.slice A1x m1x k1x) /\ W.cell? ⟨bx, 2, none⟩ = some (.slice A2x m2x k2x) /\ W.cell? ⟨bx, 3, none⟩ = some (.slice A3x m3x k3x) /\ W.cell? ⟨bx, 4, none⟩ = some (.slice A4x m4x k4x) /\ W.cell? ⟨bx, 5, none⟩ = some (.slice A5x m5x k5x))) /\ (convert 34 9 (.slice A7 n7 c7)).run Try.prog W = .ok (.string (strOfNums (saveT tt))) W) V10 := ⟨⟨⟨Xt.out.cell 0, Xt.out.cell 1, Xt.out.cell 2, Xt.out.cell 3, Xt.out.cell 4, Xt.out.cell 5⟩, ⟨Xx.out.cell 0, Xx.out.cell 1, Xx.out.cell 2, Xx.out.cell 3, Xx.out.cell 4, Xx.out.cell 5⟩⟩, run_convB HU.out⟩
  refine ⟨_, rfl, ?_⟩
  refine hK _ _ hS ?_
  clear hK
  try simp only [Act.put, zq1, zq2, zq3, zq4, zq5, zq6]
  refine anyX_g (i := 13) (by kernel_rfl) (by decide) rfl (by rfl) ?_
  intro K hK
  try simp only [zq1, zq2, zq3]
  go_simp
  refine hK _ _ hS ?_
  clear hK
  try simp only [Act.put, zq1, zq2, zq3, zq4, zq5, zq6]
  clear hS
  refine anyX_last (by kernel_rfl) (by kernel_rfl) rfl rfl ?_
  try simp only [zq1, zq2, zq3]
  go_simp
  try apply_assumption
  go_wp2_with fail
  go_ret
  exact ⟨rfl, HB.out⟩
end Go.Proofs.Ytjkcglgkdclidaa
