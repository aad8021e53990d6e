/- SegTwo: state by state: a text of two scalars. -/
import Derived.Test.YtacgakkcpmhgmaaVSegR
set_option linter.unusedVariables false
set_option linter.unusedSimpArgs false
set_option maxRecDepth 100000
set_option maxHeartbeats 8000000
namespace Go.Proofs.Ytacgakkcpmhgmaa
open Go Go.RowKit Go.Proofs
theorem segTwo_walk (a0 : Int) (a1 : Int) (a2 : Option Addr) (len2 cap2 : Nat) (z2 : List Int) (a3 : Option Addr) (len3 cap3 : Nat) (z3 : List Int) (a4 : Option Addr) (len4 cap4 : Nat) (z4 : List Int) (a5 : Int) (a6 : Int) (w : World) (w0 : (Lit.int .i64 a0).wf = true) (w1 : (Lit.int .i64 a1).wf = true) (w2 : IsRow .i64 w a2 len2 cap2 z2) (w3 : IsRow .i64 w a3 len3 cap3 z3) (w4 : IsRow .i64 w a4 len4 cap4 z4) (w5 : (Lit.int .i64 a5).wf = true) (w6 : (Lit.int .i64 a6).wf = true) :
  Calls Try.prog 14 #[.int .i64 a0, .int .i64 a1, .slice a2 len2 cap2, .slice a3 len3 cap3, .slice a4 len4 cap4, .int .i64 a5, .int .i64 a6] w fun e w' => e = .returned (.bool true) /\ Below w.heap.size w w' := by
  have hk := kOf_is a0; have hn := nOf_is a1; have hk9 := kOf_lt a0; have hn9 := nOf_lt a1
  obtain ⟨k, ek⟩ : ∃ k, kOf a0 = k := ⟨_, rfl⟩
  obtain ⟨n, en⟩ : ∃ n, nOf a1 = n := ⟨_, rfl⟩
  rw [ek] at hk hk9
  rw [en] at hn hn9
  clear ek en
  obtain ⟨k0, k9⟩ := hk9
  obtain ⟨n0, n9⟩ := hn9
  have HK := Lib.hid hk; have HN := Lib.hid hn
  have R2 := Lib.hid w2.readsI
  have R3 := Lib.hid w3.readsI
  have R4 := Lib.hid w4.readsI
  clear hk hn w0 w1 w2 w3 w4 w5 w6
  go_enter Try.func14, Try.ntmps14
  go_wp2_with fail
  refine (sknown_any _).mono ?_
  rintro e V1 ⟨rfl, hb⟩
  replace R2 := Lib.hid (R2.out.below hb)
  replace R3 := Lib.hid (R3.out.below hb)
  replace R4 := Lib.hid (R4.out.below hb)
  have HB := Lib.hid hb
  clear hb
  go_wp2_with fail
  refine (make_any R2.out R3.out R4.out a0 a1 HK.out HN.out).mono ?_
  rintro e V2 ⟨vc, vl, vbn, vbo, vfn, vfe, rfl, ht, hb⟩
  replace R2 := Lib.hid (R2.out.below hb)
  replace R3 := Lib.hid (R3.out.below hb)
  replace R4 := Lib.hid (R4.out.below hb)
  replace HB := Lib.hid (HB.out.trans (hb.mono HB.out.size))
  clear hb
  have hrtt := lawTab_right (ns := (z2.take len2)) (ms := (z3.take len3)) (cs := (z4.take len4)) k0 (by omega) n0 (by omega)
  have helt := lawTab_len (ns := (z2.take len2)) (ms := (z3.take len3)) (cs := (z4.take len4)) k0 k9 n0 n9
  obtain ⟨tt, htt⟩ : ∃ t, lawTab (z2.take len2) (z3.take len3) (z4.take len4) k n = t := ⟨_, rfl⟩
  rw [htt] at ht hrtt helt
  have hlens := hrtt.lens helt
  obtain ⟨A0t, k0t, rfl, le0t, lt0t, -⟩ := ht.c.form
  obtain ⟨A1t, k1t, rfl, le1t, lt1t, -⟩ := ht.l.form
  obtain ⟨A2t, k2t, ee, le2t, lt2t⟩ := ht.bn.form
  subst ee
  obtain ⟨A3t, k3t, rfl, le3t, lt3t, -⟩ := ht.bo.form
  obtain ⟨A4t, k4t, ee, le4t, lt4t⟩ := ht.fn.form
  subst ee
  obtain ⟨A5t, k5t, ee, le5t, lt5t⟩ := ht.fe.form
  subst ee
  obtain ⟨m0t, hm0t⟩ : ∃ m, tt.cuts.length = m := ⟨_, rfl⟩
  obtain ⟨m1t, hm1t⟩ : ∃ m, tt.letters.length = m := ⟨_, rfl⟩
  obtain ⟨m2t, hm2t⟩ : ∃ m, tt.bn.length = m := ⟨_, rfl⟩
  obtain ⟨m3t, hm3t⟩ : ∃ m, tt.bo.length = m := ⟨_, rfl⟩
  obtain ⟨m4t, hm4t⟩ : ∃ m, tt.fn.length = m := ⟨_, rfl⟩
  obtain ⟨m5t, hm5t⟩ : ∃ m, tt.fe.length = m := ⟨_, rfl⟩
  rw [hm0t, hm1t, hm2t, hm3t, hm4t, hm5t] at ht hlens
  rw [hm0t] at le0t
  rw [hm1t] at le1t
  rw [hm2t] at le2t
  rw [hm3t] at le3t
  rw [hm4t] at le4t
  rw [hm5t] at le5t
  rw [hm0t, hm1t, hm2t, hm3t, hm4t, hm5t]
  obtain ⟨q0t, q1t, q2t, q3t, q4t, q5t⟩ := hlens
  have HM0t := Lib.hid hm0t
  have HM1t := Lib.hid hm1t
  have HM2t := Lib.hid hm2t
  have HM3t := Lib.hid hm3t
  have HM4t := Lib.hid hm4t
  have HM5t := Lib.hid hm5t
  obtain ⟨bt, hbe⟩ : ∃ b, V2.heap.size = b := ⟨_, rfl⟩
  obtain ⟨V3, hW⟩ : ∃ W, V2.alloc (.cells #[.slice A0t m0t k0t, .slice A1t m1t k1t, .slice A2t m2t k2t, .slice A3t m3t k3t, .slice A4t m4t k4t, .slice A5t m5t k5t] 32) = W := ⟨_, rfl⟩
  have hb : Below V2.heap.size V2 V3 := by rw [<- hW]; exact (Below.refl _ _).alloc (Nat.le_refl _) _
  have Xt : Hid (Blk V3 bt 32 #[.slice A0t m0t k0t, .slice A1t m1t k1t, .slice A2t m2t k2t, .slice A3t m3t k3t, .slice A4t m4t k4t, .slice A5t m5t k5t]) := Lib.hid (by rw [<- hW]; exact Blk.newAt _ hbe _ _)
  replace R2 := Lib.hid (R2.out.below hb)
  replace R3 := Lib.hid (R3.out.below hb)
  replace R4 := Lib.hid (R4.out.below hb)
  have HTt := Lib.hid (ht.below hb)
  replace HB := Lib.hid (HB.out.trans (hb.mono HB.out.size))
  have HRt := Lib.hid hrtt; have HEt := Lib.hid helt; have TEt := Lib.hid htt; have HWt := Lib.hid hW; have HBEt := Lib.hid hbe
  clear ht hrtt helt htt hW hb hbe hm0t hm1t hm2t hm3t hm4t hm5t
  go_wp2_with fail
  rw [HWt.out]
  try simp only [HBEt.out]
  refine (swithin_any a5 55296 (by omega) (by omega) _).mono ?_
  rintro e w6 ⟨rfl, hw⟩
  subst w6
  have hm1 := Int.emod_nonneg a5 (show (55296 : Int) ≠ 0 by omega)
  have hm2 := Int.emod_lt_of_pos a5 (show (0 : Int) < 55296 by omega)
  obtain ⟨x, hi⟩ : ∃ zz : Nat, a5 % 55296 = (zz : Int) := ⟨(a5 % 55296).toNat, by omega⟩
  rw [hi] at hm1 hm2 ⊢
  clear hi hm1
  have hx9 : x < 55296 := by omega
  clear hm2
  go_wp2_with fail
  refine (swithin_any a6 55296 (by omega) (by omega) _).mono ?_
  rintro e w6 ⟨rfl, hw⟩
  subst w6
  have hm1 := Int.emod_nonneg a6 (show (55296 : Int) ≠ 0 by omega)
  have hm2 := Int.emod_lt_of_pos a6 (show (0 : Int) < 55296 by omega)
  obtain ⟨y, hi⟩ : ∃ zz : Nat, a6 % 55296 = (zz : Int) := ⟨(a6 % 55296).toNat, by omega⟩
  rw [hi] at hm1 hm2 ⊢
  clear hi hm1
  have hy9 : y < 55296 := by omega
  clear hm2
  go_wp2_with fail
  have hpi := lettI_in HRt.out (x := (x : Int)) (by omega)
  have hqi := lettI_in HRt.out (x := (y : Int)) (by omega)
  obtain ⟨p, hp⟩ : ∃ p : Nat, lettI tt (x : Int) = (p : Int) := ⟨(lettI tt (x : Int)).toNat, by omega⟩
  obtain ⟨q, hq⟩ : ∃ q : Nat, lettI tt (y : Int) = (q : Int) := ⟨(lettI tt (y : Int)).toNat, by omega⟩
  rw [hp] at hpi
  rw [hq] at hqi
  have HP := Lib.hid hp; have HQ := Lib.hid hq
  clear hp hq
  have hd : Below V3.heap.size V3 V3.drew := (Below.refl _ _).drew
  have hS : (fun W : World => W.cell? ⟨bt, 0, none⟩ = some (.slice A0t m0t k0t) /\ W.cell? ⟨bt, 1, none⟩ = some (.slice A1t m1t k1t)) V3.drew := ⟨Xt.out.cell 0, Xt.out.cell 1⟩
  refine region_x 13 (fun W : World => W.cell? ⟨bt, 0, none⟩ = some (.slice A0t m0t k0t) /\ W.cell? ⟨bt, 1, none⟩ = some (.slice A1t m1t k1t)) (by kernel_rfl) ?_
  have hb := hd
  replace HTt := Lib.hid (HTt.out.below hb)
  replace Xt := Lib.hid (Blk.below Xt.out hb Xt.out.lt)
  replace HB := Lib.hid (HB.out.trans (hb.mono HB.out.size))
  clear hb
  clear hd
  generalize V3.drew = V4 at *
  refine tkx (i := 0) (v := ?_) hS ?_ ?_
  rotate_left
  ·rintro w' ⟨d0', d1'⟩
   go_simp
   try with_reducible rfl
  try simp only [Act.put, zq1, zq2, zq3, zq4, zq5, zq6]
  refine tkx (i := 1) (v := ?_) hS ?_ ?_
  rotate_left
  ·rintro w' ⟨d0', d1'⟩
   go_simp
   try with_reducible rfl
  try simp only [Act.put, zq1, zq2, zq3, zq4, zq5, zq6]
  refine tkx (i := 2) (v := ?_) hS ?_ ?_
  rotate_left
  ·rintro w' ⟨d0', d1'⟩
   go_simp
   try with_reducible rfl
  try simp only [Act.put, zq1, zq2, zq3, zq4, zq5, zq6]
  refine tkx (i := 3) (v := ?_) hS ?_ ?_
  rotate_left
  ·rintro w' ⟨d0', d1'⟩
   go_simp
   try with_reducible rfl
  try simp only [Act.put, zq1, zq2, zq3, zq4, zq5, zq6]
  refine tkx (i := 4) (v := ?_) hS ?_ ?_
  rotate_left
  ·rintro w' ⟨d0', d1'⟩
   go_simp
   try with_reducible rfl
  try simp only [Act.put, zq1, zq2, zq3, zq4, zq5, zq6]
  refine tkx (i := 6) (v := ?_) hS ?_ ?_
  rotate_left
  ·rintro w' ⟨d0', d1'⟩
   go_simp
   try with_reducible rfl
  try simp only [Act.put, zq1, zq2, zq3, zq4, zq5, zq6]
  refine tkx (i := 7) (v := ?_) hS ?_ ?_
  rotate_left
  ·rintro w' ⟨d0', d1'⟩
   go_simp
   try with_reducible rfl
  try simp only [Act.put, zq1, zq2, zq3, zq4, zq5, zq6]
  refine tkx (i := 8) (v := ?_) hS ?_ ?_
  rotate_left
  ·rintro w' ⟨d0', d1'⟩
   go_simp
   try with_reducible rfl
  try simp only [Act.put, zq1, zq2, zq3, zq4, zq5, zq6]
  refine tkx (i := 9) (v := ?_) hS ?_ ?_
  rotate_left
  ·rintro w' ⟨d0', d1'⟩
   go_simp
   try with_reducible rfl
  try simp only [Act.put, zq1, zq2, zq3, zq4, zq5, zq6]
  refine tkx (i := 10) (v := ?_) hS ?_ ?_
  rotate_left
  ·rintro w' ⟨d0', d1'⟩
   go_simp
   try with_reducible rfl
  try simp only [Act.put, zq1, zq2, zq3, zq4, zq5, zq6]
  refine anyX_g (i := 5) (by kernel_rfl) (by decide) rfl (by rfl) ?_
  intro K hK
  try simp only [zq1, zq2, zq3]
  refine wp_enterE #[.slice A0t m0t k0t, .slice A1t m1t k1t, .int .i64 (x : Int)] Try.func41 (by kernel_rfl) (by kernel_rfl) ?_ (srlet_tab (T := tt) (by rw [HM0t.out]; exact (show ReadsI V4 (.slice A0t m0t k0t) m0t tt.cuts by have := HTt.out.c; rwa [HM0t.out] at this)) (by rw [HM1t.out]; exact (show ReadsI V4 (.slice A1t m1t k1t) m1t tt.letters by have := HTt.out.l; rwa [HM1t.out] at this)) HRt.out (x := (x : Int)) (by omega) (by omega)) ?_
  ·go_simp
  rintro e w' ⟨rfl, hw⟩
  subst hw
  rw [HP.out]
  refine ⟨_, rfl, ?_⟩
  refine hK _ _ hS ?_
  clear hK
  try simp only [Act.put, zq1, zq2, zq3, zq4, zq5, zq6]
  refine anyX_g (i := 11) (by kernel_rfl) (by decide) rfl (by rfl) ?_
  intro K hK
  try simp only [zq1, zq2, zq3]
  refine wp_enterE #[.slice A0t m0t k0t, .slice A1t m1t k1t, .int .i64 (y : Int)] Try.func41 (by kernel_rfl) (by kernel_rfl) ?_ (srlet_tab (T := tt) (by rw [HM0t.out]; exact (show ReadsI V4 (.slice A0t m0t k0t) m0t tt.cuts by have := HTt.out.c; rwa [HM0t.out] at this)) (by rw [HM1t.out]; exact (show ReadsI V4 (.slice A1t m1t k1t) m1t tt.letters by have := HTt.out.l; rwa [HM1t.out] at this)) HRt.out (x := (y : Int)) (by omega) (by omega)) ?_
  ·go_simp
  rintro e w' ⟨rfl, hw⟩
  subst hw
  rw [HQ.out]
  refine ⟨_, rfl, ?_⟩
  refine hK _ _ hS ?_
  clear hK
  try simp only [Act.put, zq1, zq2, zq3, zq4, zq5, zq6]
  refine tkx (i := 12) (v := ?_) hS ?_ ?_
  rotate_left
  ·rintro w' ⟨d0', d1'⟩
   go_simp
   try with_reducible rfl
  try simp only [Act.put, zq1, zq2, zq3, zq4, zq5, zq6]
  refine anyX_last (by kernel_rfl) (by kernel_rfl) rfl rfl ?_
  try simp only [zq1, zq2, zq3]
  go_simp
  try apply_assumption
  clear hS
  go_wp2_with fail
  have hd : Below V4.heap.size V4 V4.drew := (Below.refl _ _).drew
  have hb := hd
  replace HTt := Lib.hid (HTt.out.below hb)
  replace Xt := Lib.hid (Blk.below Xt.out hb Xt.out.lt)
  replace HB := Lib.hid (HB.out.trans (hb.mono HB.out.size))
  clear hb
  refine region_x 10 (fun W : World => W.cell? ⟨bt, 0, none⟩ = some (.slice A0t m0t k0t) /\ W.cell? ⟨bt, 1, none⟩ = some (.slice A1t m1t k1t) /\ W.cell? ⟨bt, 2, none⟩ = some (.slice A2t m2t k2t) /\ W.cell? ⟨bt, 3, none⟩ = some (.slice A3t m3t k3t) /\ W.cell? ⟨bt, 4, none⟩ = some (.slice A4t m4t k4t) /\ W.cell? ⟨bt, 5, none⟩ = some (.slice A5t m5t k5t)) (by kernel_rfl) ?_
  clear hd
  generalize V4.drew = V5 at *
  have hS : (fun W : World => W.cell? ⟨bt, 0, none⟩ = some (.slice A0t m0t k0t) /\ W.cell? ⟨bt, 1, none⟩ = some (.slice A1t m1t k1t) /\ W.cell? ⟨bt, 2, none⟩ = some (.slice A2t m2t k2t) /\ W.cell? ⟨bt, 3, none⟩ = some (.slice A3t m3t k3t) /\ W.cell? ⟨bt, 4, none⟩ = some (.slice A4t m4t k4t) /\ W.cell? ⟨bt, 5, none⟩ = some (.slice A5t m5t k5t)) V5 := ⟨Xt.out.cell 0, Xt.out.cell 1, Xt.out.cell 2, Xt.out.cell 3, Xt.out.cell 4, Xt.out.cell 5⟩
  refine tkx (i := 0) (v := ?_) hS ?_ ?_
  rotate_left
  ·rintro w' ⟨d0', d1', d2', d3', d4', d5'⟩
   go_simp
   try with_reducible rfl
  try simp only [Act.put, zq1, zq2, zq3, zq4, zq5, zq6]
  refine tkx (i := 1) (v := ?_) hS ?_ ?_
  rotate_left
  ·rintro w' ⟨d0', d1', d2', d3', d4', d5'⟩
   go_simp
   try with_reducible rfl
  try simp only [Act.put, zq1, zq2, zq3, zq4, zq5, zq6]
  refine tkx (i := 2) (v := ?_) hS ?_ ?_
  rotate_left
  ·rintro w' ⟨d0', d1', d2', d3', d4', d5'⟩
   go_simp
   try with_reducible rfl
  try simp only [Act.put, zq1, zq2, zq3, zq4, zq5, zq6]
  refine anyX_g (i := 3) (by kernel_rfl) (by decide) rfl (by rfl) ?_
  intro K hK
  try simp only [zq1, zq2, zq3]
  obtain ⟨b9, hb9⟩ : ∃ b, V5.heap.size = b := ⟨_, rfl⟩
  obtain ⟨V6, eV⟩ : ∃ W', V5.alloc (.cells #[.int .i64 (x : Int), .int .i64 (y : Int)] 3) = W' := ⟨_, rfl⟩
  go_simp
  try simp only [hb9]
  try rw [eV]
  have hb : Below V5.heap.size V5 V6 := by rw [<- eV]; exact (Below.refl _ _).alloc (Nat.le_refl _) _
  have X9 : Blk V6 b9 3 #[.int .i64 (x : Int), .int .i64 (y : Int)] := by rw [<- eV]; exact Blk.newAt _ hb9 _ _
  clear eV hb9
  replace HTt := Lib.hid (HTt.out.below hb)
  replace Xt := Lib.hid (Blk.below Xt.out hb Xt.out.lt)
  replace HB := Lib.hid (HB.out.trans (hb.mono HB.out.size))
  clear hb
  clear hS
  have hS : (fun W : World => W.cell? ⟨bt, 0, none⟩ = some (.slice A0t m0t k0t) /\ W.cell? ⟨bt, 1, none⟩ = some (.slice A1t m1t k1t) /\ W.cell? ⟨bt, 2, none⟩ = some (.slice A2t m2t k2t) /\ W.cell? ⟨bt, 3, none⟩ = some (.slice A3t m3t k3t) /\ W.cell? ⟨bt, 4, none⟩ = some (.slice A4t m4t k4t) /\ W.cell? ⟨bt, 5, none⟩ = some (.slice A5t m5t k5t)) V6 := ⟨Xt.out.cell 0, Xt.out.cell 1, Xt.out.cell 2, Xt.out.cell 3, Xt.out.cell 4, Xt.out.cell 5⟩
  refine hK _ _ hS ?_
  clear hK
  try simp only [Act.put, zq1, zq2, zq3, zq4, zq5, zq6]
  refine anyX_g (i := 4) (by kernel_rfl) (by decide) rfl (by rfl) ?_
  intro K hK
  try simp only [zq1, zq2, zq3]
  have henc := refencode_any [(x : Int), (y : Int)] 2 2 b9 0 V6 rfl (by decide) X9.lt (fun i hi => by rcases (show i = 0 \/ i = 1 by omega) with rfl | rfl <;> exact X9.cell _)
  refine wp_enterE #[.slice (some ⟨b9, 0, none⟩) 2 2] Try.func39 (by kernel_rfl) (by kernel_rfl) ?_ henc ?_
  ·go_simp
  rintro e V7 ⟨rfl, hb⟩
  clear henc X9
  replace HTt := Lib.hid (HTt.out.below hb)
  replace Xt := Lib.hid (Blk.below Xt.out hb Xt.out.lt)
  replace HB := Lib.hid (HB.out.trans (hb.mono HB.out.size))
  clear hb
  clear hS
  have hS : (fun W : World => W.cell? ⟨bt, 0, none⟩ = some (.slice A0t m0t k0t) /\ W.cell? ⟨bt, 1, none⟩ = some (.slice A1t m1t k1t) /\ W.cell? ⟨bt, 2, none⟩ = some (.slice A2t m2t k2t) /\ W.cell? ⟨bt, 3, none⟩ = some (.slice A3t m3t k3t) /\ W.cell? ⟨bt, 4, none⟩ = some (.slice A4t m4t k4t) /\ W.cell? ⟨bt, 5, none⟩ = some (.slice A5t m5t k5t)) V7 := ⟨Xt.out.cell 0, Xt.out.cell 1, Xt.out.cell 2, Xt.out.cell 3, Xt.out.cell 4, Xt.out.cell 5⟩
  obtain ⟨S, hSe⟩ : ∃ S : ByteArray, (⟨(enc [(x : Int), (y : Int)]).toArray⟩ : ByteArray) = S := ⟨_, rfl⟩
  have hS8 : S.size <= 8 := by
   rw [<- hSe]
   have := enc_len [(x : Int), (y : Int)]
   simpa [ByteArray.size] using this
  have hsg : segT tt S = segL tt [(p : Int), (q : Int)] := by
   unfold segT
   have e1 : S.data.toList = enc [(x : Int), (y : Int)] := by rw [<- hSe]
   rw [e1, scs_enc_all]
   show segL tt [lettI tt (fix (x : Int)), lettI tt (fix (y : Int))] = _
   rw [fix_scalar _ ⟨by omega, by omega, .inl (by omega)⟩, fix_scalar _ ⟨by omega, by omega, .inl (by omega)⟩, HP.out, HQ.out]
  have HSG := Lib.hid hsg
  rw [hSe]
  clear hSe hsg
  refine ⟨_, rfl, ?_⟩
  refine hK _ _ hS ?_
  clear hK
  try simp only [Act.put, zq1, zq2, zq3, zq4, zq5, zq6]
  refine anyX_g (i := 5) (by kernel_rfl) (by decide) rfl (by rfl) ?_
  intro K hK
  try simp only [zq1, zq2, zq3]
  have hseg := segment_any HTt.out S
  rw [segT_ok HRt.out (by omega), HSG.out] at hseg
  unfold tabV at hseg
  refine wp_enterE #[.agg #[.slice A0t m0t k0t, .slice A1t m1t k1t, .slice A2t m2t k2t, .slice A3t m3t k3t, .slice A4t m4t k4t, .slice A5t m5t k5t], .string S] Try.func18 (by kernel_rfl) (by kernel_rfl) ?_ hseg ?_
  ·go_simp
  rintro e V8 ⟨v, rfl, ⟨AL, cL, rfl, hL, -⟩, hb⟩
  clear hseg
  dsimp only at hL ⊢
  have hl3 : (segL tt [(p : Int), (q : Int)]).length = 3 := segL_len _ _
  rw [hl3] at hL ⊢
  have HSL := Lib.hid hL
  clear hL hl3
  replace HTt := Lib.hid (HTt.out.below hb)
  replace Xt := Lib.hid (Blk.below Xt.out hb Xt.out.lt)
  replace HB := Lib.hid (HB.out.trans (hb.mono HB.out.size))
  clear hb
  clear hS
  have hS : (fun W : World => W.cell? ⟨bt, 0, none⟩ = some (.slice A0t m0t k0t) /\ W.cell? ⟨bt, 1, none⟩ = some (.slice A1t m1t k1t) /\ W.cell? ⟨bt, 2, none⟩ = some (.slice A2t m2t k2t) /\ W.cell? ⟨bt, 3, none⟩ = some (.slice A3t m3t k3t) /\ W.cell? ⟨bt, 4, none⟩ = some (.slice A4t m4t k4t) /\ W.cell? ⟨bt, 5, none⟩ = some (.slice A5t m5t k5t)) V8 := ⟨Xt.out.cell 0, Xt.out.cell 1, Xt.out.cell 2, Xt.out.cell 3, Xt.out.cell 4, Xt.out.cell 5⟩
  refine ⟨_, rfl, ?_⟩
  refine hK _ _ hS ?_
  clear hK
  try simp only [Act.put, zq1, zq2, zq3, zq4, zq5, zq6]
  refine tkx (i := 6) (v := ?_) hS ?_ ?_
  rotate_left
  ·rintro w' ⟨d0', d1', d2', d3', d4', d5'⟩
   go_simp
   try with_reducible rfl
  try simp only [Act.put, zq1, zq2, zq3, zq4, zq5, zq6]
  refine tkx (i := 7) (v := ?_) hS ?_ ?_
  rotate_left
  ·rintro w' ⟨d0', d1', d2', d3', d4', d5'⟩
   go_simp
   try with_reducible rfl
  try simp only [Act.put, zq1, zq2, zq3, zq4, zq5, zq6]
  refine tkx (i := 8) (v := ?_) hS ?_ ?_
  rotate_left
  ·rintro w' ⟨d0', d1', d2', d3', d4', d5'⟩
   go_simp
   try with_reducible rfl
  try simp only [Act.put, zq1, zq2, zq3, zq4, zq5, zq6]
  refine tkx (i := 9) (v := ?_) hS ?_ ?_
  rotate_left
  ·rintro w' ⟨d0', d1', d2', d3', d4', d5'⟩
   go_simp
   try with_reducible rfl
  try simp only [Act.put, zq1, zq2, zq3, zq4, zq5, zq6]
  refine anyX_last (by kernel_rfl) (by kernel_rfl) rfl rfl ?_
  try simp only [zq1, zq2, zq3]
  go_simp
  try apply_assumption
  clear hS
  have c0t := Xt.out.cell 0
  have c1t := Xt.out.cell 1
  have c2t := Xt.out.cell 2
  have c3t := Xt.out.cell 3
  have c4t := Xt.out.cell 4
  have c5t := Xt.out.cell 5
  simp only [List.getElem?_toArray, List.getElem?_cons_zero, List.getElem?_cons_succ] at c0t c1t c2t c3t c4t c5t
  have hR := HRt.out
  obtain ⟨nn, hnn⟩ : ∃ n, cntL tt.letters = n := ⟨_, rfl⟩
  rw [hnn] at hpi hqi
  have hB := hR.back; have hF := hR.fwd
  rw [hnn] at hB hF
  have hbp := hB.1; have hfp := hF.1
  rw [HM2t.out] at hbp
  rw [HM4t.out] at hfp
  obtain ⟨gb, ob, eb, hbc⟩ := rows_cells (show RowsI V8 (.slice A2t m2t k2t) tt.bn from HTt.out.bn) HM2t.out hbp
  subst eb
  obtain ⟨gf, of_, ef, hfc⟩ := rows_cells (show RowsI V8 (.slice A4t m4t k4t) tt.fn from HTt.out.fn) HM4t.out hfp
  subst ef
  have hel : tt.fe.length = m4t := by rw [hR.emits.1]; exact HM4t.out
  have h54 : m5t = m4t := by rw [<- HM5t.out]; exact hel
  subst h54
  obtain ⟨ge, oe, ee9, hec⟩ := emits_cells (show EmitR V8 (.slice A5t m5t k5t) tt.fe from HTt.out.fe) HM5t.out hfp
  subst ee9
  have hol : tt.bo.length = m2t := by rw [hR.outs.1]; exact HM2t.out
  have h32 : m3t = m2t := by rw [<- HM3t.out]; exact hol
  subst h32
  have hbo : ReadsI V8 (.slice A3t m3t k3t) m3t tt.bo := by have := HTt.out.bo; rwa [HM3t.out] at this
  obtain ⟨go_, oo, eo, -, -⟩ := hbo.at 0 hbp
  subst eo
  have hoc : ∀ i, i < m3t -> V8.cell? ⟨go_, oo + i, none⟩ = some (.int .i64 (tt.bo.getD i 0)) := fun i hi => by
   obtain ⟨g', o', e', -, hc⟩ := hbo.at i hi
   cases e'
   exact hc
  obtain ⟨u, hu, huN⟩ : ∃ u : Nat, nxI tt.bn 0 (q : Int) = (u : Int) /\ u < m3t := by
   have h := lead_nx hB (s := 0) (a := (q : Int)) (by omega) (by rw [HM2t.out]; omega) (by omega) (by omega)
   rw [HM2t.out] at h
   exact ⟨(nxI tt.bn 0 (q : Int)).toNat, by omega, by omega⟩
  obtain ⟨v, hv, hvN⟩ : ∃ v : Nat, nxI tt.bn (u : Int) (p : Int) = (v : Int) /\ v < m3t := by
   have h := lead_nx hB (s := (u : Int)) (a := (p : Int)) (by omega) (by rw [HM2t.out]; omega) (by omega) (by omega)
   rw [HM2t.out] at h
   exact ⟨(nxI tt.bn (u : Int) (p : Int)).toNat, by omega, by omega⟩
  obtain ⟨f, hf, hfN⟩ : ∃ f : Nat, nxI tt.fn 0 (p : Int) = (f : Int) /\ f < m5t := by
   have h := lead_nx hF (s := 0) (a := (p : Int)) (by omega) (by rw [HM4t.out]; omega) (by omega) (by omega)
   rw [HM4t.out] at h
   exact ⟨(nxI tt.fn 0 (p : Int)).toNat, by omega, by omega⟩
  obtain ⟨g, hg, hgN⟩ : ∃ g : Nat, nxI tt.fn (f : Int) (q : Int) = (g : Int) /\ g < m5t := by
   have h := lead_nx hF (s := (f : Int)) (a := (q : Int)) (by omega) (by rw [HM4t.out]; omega) (by omega) (by omega)
   rw [HM4t.out] at h
   exact ⟨(nxI tt.fn (f : Int) (q : Int)).toNat, by omega, by omega⟩
  obtain ⟨Qb0, qb0, yb0, hb01, hb02, hb03⟩ := hbc 0 (by omega)
  have wb0 : qb0 = nn := hb02.trans (lead_row hB (s := (0 : Int)) (by omega) (by rw [HM2t.out]; omega))
  obtain ⟨rb0, zb0, eb0, hb04⟩ := hb03 q (by omega)
  subst eb0
  have vb0 : (tt.bn.getD 0 []).getD q 0 = (u : Int) := by have := hu; unfold nxI at this; simpa using this
  rw [vb0] at hb04
  clear hb02 hb03 vb0
  obtain ⟨Qb1, qb1, yb1, hb11, hb12, hb13⟩ := hbc u (by omega)
  have wb1 : qb1 = nn := hb12.trans (lead_row hB (s := (u : Int)) (by omega) (by rw [HM2t.out]; omega))
  obtain ⟨rb1, zb1, eb1, hb14⟩ := hb13 p (by omega)
  subst eb1
  have vb1 : (tt.bn.getD u []).getD p 0 = (v : Int) := by have := hv; unfold nxI at this; simpa using this
  rw [vb1] at hb14
  clear hb12 hb13 vb1
  obtain ⟨Qf0, qf0, yf0, hf01, hf02, hf03⟩ := hfc 0 (by omega)
  have wf0 : qf0 = nn := hf02.trans (lead_row hF (s := (0 : Int)) (by omega) (by rw [HM4t.out]; omega))
  obtain ⟨rf0, zf0, ef0, hf04⟩ := hf03 p (by omega)
  subst ef0
  have vf0 : (tt.fn.getD 0 []).getD p 0 = (f : Int) := by have := hf; unfold nxI at this; simpa using this
  rw [vf0] at hf04
  clear hf02 hf03 vf0
  obtain ⟨Qf1, qf1, yf1, hf11, hf12, hf13⟩ := hfc f (by omega)
  have wf1 : qf1 = nn := hf12.trans (lead_row hF (s := (f : Int)) (by omega) (by rw [HM4t.out]; omega))
  obtain ⟨rf1, zf1, ef1, hf14⟩ := hf13 q (by omega)
  subst ef1
  have vf1 : (tt.fn.getD f []).getD q 0 = (g : Int) := by have := hg; unfold nxI at this; simpa using this
  rw [vf1] at hf14
  clear hf12 hf13 vf1
  have hti : TextI tt [(p : Int), (q : Int)] := fun a ha => by
   rw [hnn]
   simp only [List.mem_cons, List.not_mem_nil, or_false] at ha
   rcases ha with rfl | rfl <;> omega
  have k0 : bakI tt.bn [(p : Int), (q : Int)] 0 = (v : Int) := by
   show nxI tt.bn (nxI tt.bn 0 (q : Int)) (p : Int) = _
   rw [hu, hv]
  have k1 : bakI tt.bn [(p : Int), (q : Int)] 1 = (u : Int) := hu
  have k2 : bakI tt.bn [(p : Int), (q : Int)] 2 = 0 := rfl
  have j0 : fwdI tt.fn [(p : Int), (q : Int)] 0 = 0 := rfl
  have j1 : fwdI tt.fn [(p : Int), (q : Int)] 1 = (f : Int) := hf
  have j2 : fwdI tt.fn [(p : Int), (q : Int)] 2 = (g : Int) := by
   show nxI tt.fn (nxI tt.fn 0 (p : Int)) (q : Int) = _
   rw [hf, hg]
  obtain ⟨⟨P00, P01, P02⟩, hP0⟩ : ∃ z, segV tt [(p : Int), (q : Int)] 0 = z := ⟨_, rfl⟩
  obtain ⟨x0, hx0, hxm0⟩ : ∃ n : Nat, tt.bo.getD v 0 = (n : Int) /\ n < (tt.fe.getD 0 []).length := by
   have h1 := outI_in hR hti 0
   have h2 := emit_row hR hti 0
   unfold outI at h1
   rw [k0] at h1
   rw [j0] at h2
   try rw [Int.toNat_natCast] at h1
   try rw [Int.toNat_natCast] at h2
   try rw [Int.toNat_zero] at h1
   try rw [Int.toNat_zero] at h2
   exact ⟨(tt.bo.getD v 0).toNat, by omega, by omega⟩
  have hE0 : (tt.fe.getD 0 []).getD x0 (0, 0, 0) = (P00, P01, P02) := by
   have h := hP0
   unfold segV outI at h
   rw [k0, j0] at h
   try rw [Int.toNat_natCast] at h
   try rw [Int.toNat_natCast] at h
   try rw [Int.toNat_zero] at h
   rw [hx0, Int.toNat_natCast] at h
   exact h
  have c0O := hoc v (by omega)
  rw [hx0] at c0O
  obtain ⟨QE0, qe0, ye0, hE01, hE02, hE03⟩ := hec 0 (by omega)
  rw [<- hE02] at hxm0
  obtain ⟨re0, ze0, eE0, hE04⟩ := hE03 x0 hxm0
  subst eE0
  obtain ⟨E00, E01, E02⟩ := hE04 _ hE0
  dsimp only at E00 E01 E02
  obtain ⟨gl0, ol0, el0, -, hl0⟩ := HSL.out.at encV_len (by decide) 0 (P00, P01, P02) (by rw [<- hP0, sgetD_at (d := ((0, 0, 0) : Int × Int × Int)) (by rw [segL_len]; simp), segL_at tt (by simp)])
  subst el0
  have L00 := hl0 0 (.int .i64 P00) rfl; have L01 := hl0 1 (.int .i64 P01) rfl; have L02 := hl0 2 (.int .i64 P02) rfl
  have Z0 := seqVec P00 P01 P02 P00 P01 P02
  rw [sveq_refl] at Z0
  have X00 : (0 : Int) <= (x0 : Int) := Int.natCast_nonneg _
  have X01 : (x0 : Int) < (qe0 : Int) := by omega
  clear hE0 hP0 hx0 hE02 hE03 hE04 hl0
  obtain ⟨⟨P10, P11, P12⟩, hP1⟩ : ∃ z, segV tt [(p : Int), (q : Int)] 1 = z := ⟨_, rfl⟩
  obtain ⟨x1, hx1, hxm1⟩ : ∃ n : Nat, tt.bo.getD u 0 = (n : Int) /\ n < (tt.fe.getD f []).length := by
   have h1 := outI_in hR hti 1
   have h2 := emit_row hR hti 1
   unfold outI at h1
   rw [k1] at h1
   rw [j1] at h2
   try rw [Int.toNat_natCast] at h1
   try rw [Int.toNat_natCast] at h2
   try rw [Int.toNat_zero] at h1
   try rw [Int.toNat_zero] at h2
   exact ⟨(tt.bo.getD u 0).toNat, by omega, by omega⟩
  have hE1 : (tt.fe.getD f []).getD x1 (0, 0, 0) = (P10, P11, P12) := by
   have h := hP1
   unfold segV outI at h
   rw [k1, j1] at h
   try rw [Int.toNat_natCast] at h
   try rw [Int.toNat_natCast] at h
   try rw [Int.toNat_zero] at h
   rw [hx1, Int.toNat_natCast] at h
   exact h
  have c1O := hoc u (by omega)
  rw [hx1] at c1O
  obtain ⟨QE1, qe1, ye1, hE11, hE12, hE13⟩ := hec f (by omega)
  rw [<- hE12] at hxm1
  obtain ⟨re1, ze1, eE1, hE14⟩ := hE13 x1 hxm1
  subst eE1
  obtain ⟨E10, E11, E12⟩ := hE14 _ hE1
  dsimp only at E10 E11 E12
  obtain ⟨gl1, ol1, el1, -, hl1⟩ := HSL.out.at encV_len (by decide) 1 (P10, P11, P12) (by rw [<- hP1, sgetD_at (d := ((0, 0, 0) : Int × Int × Int)) (by rw [segL_len]; simp), segL_at tt (by simp)])
  cases el1
  have L10 := hl1 0 (.int .i64 P10) rfl; have L11 := hl1 1 (.int .i64 P11) rfl; have L12 := hl1 2 (.int .i64 P12) rfl
  have Z1 := seqVec P10 P11 P12 P10 P11 P12
  rw [sveq_refl] at Z1
  have X10 : (0 : Int) <= (x1 : Int) := Int.natCast_nonneg _
  have X11 : (x1 : Int) < (qe1 : Int) := by omega
  clear hE1 hP1 hx1 hE12 hE13 hE14 hl1
  obtain ⟨⟨P20, P21, P22⟩, hP2⟩ : ∃ z, segV tt [(p : Int), (q : Int)] 2 = z := ⟨_, rfl⟩
  obtain ⟨x2, hx2, hxm2⟩ : ∃ n : Nat, tt.bo.getD 0 0 = (n : Int) /\ n < (tt.fe.getD g []).length := by
   have h1 := outI_in hR hti 2
   have h2 := emit_row hR hti 2
   unfold outI at h1
   rw [k2] at h1
   rw [j2] at h2
   try rw [Int.toNat_natCast] at h1
   try rw [Int.toNat_natCast] at h2
   try rw [Int.toNat_zero] at h1
   try rw [Int.toNat_zero] at h2
   exact ⟨(tt.bo.getD 0 0).toNat, by omega, by omega⟩
  have hE2 : (tt.fe.getD g []).getD x2 (0, 0, 0) = (P20, P21, P22) := by
   have h := hP2
   unfold segV outI at h
   rw [k2, j2] at h
   try rw [Int.toNat_natCast] at h
   try rw [Int.toNat_natCast] at h
   try rw [Int.toNat_zero] at h
   rw [hx2, Int.toNat_natCast] at h
   exact h
  have c2O := hoc 0 (by omega)
  rw [hx2] at c2O
  obtain ⟨QE2, qe2, ye2, hE21, hE22, hE23⟩ := hec g (by omega)
  rw [<- hE22] at hxm2
  obtain ⟨re2, ze2, eE2, hE24⟩ := hE23 x2 hxm2
  subst eE2
  obtain ⟨E20, E21, E22⟩ := hE24 _ hE2
  dsimp only at E20 E21 E22
  obtain ⟨gl2, ol2, el2, -, hl2⟩ := HSL.out.at encV_len (by decide) 2 (P20, P21, P22) (by rw [<- hP2, sgetD_at (d := ((0, 0, 0) : Int × Int × Int)) (by rw [segL_len]; simp), segL_at tt (by simp)])
  cases el2
  have L20 := hl2 0 (.int .i64 P20) rfl; have L21 := hl2 1 (.int .i64 P21) rfl; have L22 := hl2 2 (.int .i64 P22) rfl
  have Z2 := seqVec P20 P21 P22 P20 P21 P22
  rw [sveq_refl] at Z2
  have X20 : (0 : Int) <= (x2 : Int) := Int.natCast_nonneg _
  have X21 : (x2 : Int) < (qe2 : Int) := by omega
  clear hE2 hP2 hx2 hE22 hE23 hE24 hl2
  simp only [Nat.zero_mul, Nat.one_mul, Nat.add_zero, Nat.reduceMul] at L00 L01 L02 L10 L11 L12 L20 L21 L22 c2O hb01 hf01 hE01
  clear k0 k1 k2 j0 j1 j2 hti hoc hec hbc hfc hbo hu hv hf hg hB hF hR hel hol HSL
  have p0 : (0 : Int) <= (p : Int) := by omega
  have q0 : (0 : Int) <= (q : Int) := by omega
  have u0 : (0 : Int) <= (u : Int) := by omega
  have v0 : (0 : Int) <= (v : Int) := by omega
  have f0 : (0 : Int) <= (f : Int) := by omega
  have g0 : (0 : Int) <= (g : Int) := by omega
  have p1 : (p : Int) < (nn : Int) := by omega
  have q1 : (q : Int) < (nn : Int) := by omega
  rw [wb0] at hb01; rw [wb1] at hb11; rw [wf0] at hf01; rw [wf1] at hf11
  have u1 : (u : Int) < (m3t : Int) := by omega
  have v1 : (v : Int) < (m3t : Int) := by omega
  have f1 : (f : Int) < (m5t : Int) := by omega
  have g1 : (g : Int) < (m5t : Int) := by omega
  have b1 : (0 : Int) < (m3t : Int) := by omega
  have b2 : (0 : Int) < (m5t : Int) := by omega
  clear hnn wb0 wb1 wf0 wf1 hbp hfp hpi hqi huN hvN hfN hgN hxm0 hxm1 hxm2
  go_wp2_with fail
  simp only [List.append]
  go_big_quiet (fail)
  go_wp2_with fail
  go_ret
  exact ⟨rfl, sbel_drewN HB.out _⟩
end Go.Proofs.Ytacgakkcpmhgmaa
