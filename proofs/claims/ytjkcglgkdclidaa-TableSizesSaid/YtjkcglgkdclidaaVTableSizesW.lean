/- TableSizes: how many bytes a table has. -/
import Derived.Test.YtjkcglgkdclidaaVTableTb
import Derived.Test.YtjkcglgkdclidaaVTableTa
set_option linter.unusedVariables false
set_option linter.unusedSimpArgs false
set_option maxRecDepth 100000
set_option maxHeartbeats 8000000
namespace Go.Proofs.Ytjkcglgkdclidaa
open Go Go.RowKit Go.Proofs
theorem tableSizes_walk (a0 : Int) (a1 : Int) (a2 : Option Addr) (len2 cap2 : Nat) (z2 : List Int) (a3 : Option Addr) (len3 cap3 : Nat) (z3 : List Int) (a4 : Option Addr) (len4 cap4 : Nat) (z4 : List Int) (w : World) (w0 : (Lit.int .i64 a0).wf = true) (w1 : (Lit.int .i64 a1).wf = true) (w2 : IsRow .i64 w a2 len2 cap2 z2) (w3 : IsRow .i64 w a3 len3 cap3 z3) (w4 : IsRow .i64 w a4 len4 cap4 z4) :
  Calls Try.prog 9 #[.int .i64 a0, .int .i64 a1, .slice a2 len2 cap2, .slice a3 len3 cap3, .slice a4 len4 cap4] w fun e w' => e = .returned (.bool true) /\ Below w.heap.size w w' := by
  have hk := kOf_is a0; have hn := nOf_is a1; have hk9 := kOf_lt a0; have hn9 := nOf_lt a1
  obtain ⟨k, ek⟩ : ∃ k, kOf a0 = k := ⟨_, rfl⟩
  obtain ⟨n, en⟩ : ∃ n, nOf a1 = n := ⟨_, rfl⟩
  rw [ek] at hk hk9
  rw [en] at hn hn9
  clear ek en
  obtain ⟨k0, k9⟩ := hk9
  obtain ⟨n0, n9⟩ := hn9
  have HK := Lib.hid hk; have HN := Lib.hid hn
  have R2 := Lib.hid w2.readsI
  have R3 := Lib.hid w3.readsI
  have R4 := Lib.hid w4.readsI
  clear hk hn w0 w1 w2 w3 w4
  go_enter Try.func9, Try.ntmps9
  go_wp2_with fail
  refine (tknown_any _).mono ?_
  rintro e V1 ⟨rfl, hb⟩
  replace R2 := Lib.hid (R2.out.below hb)
  replace R3 := Lib.hid (R3.out.below hb)
  replace R4 := Lib.hid (R4.out.below hb)
  have HB := Lib.hid hb
  clear hb
  go_wp2_with fail
  refine (make_any R2.out R3.out R4.out a0 a1 HK.out HN.out).mono ?_
  rintro e V2 ⟨vc, vl, vbn, vbo, vfn, vfe, rfl, ht, hb⟩
  replace R2 := Lib.hid (R2.out.below hb)
  replace R3 := Lib.hid (R3.out.below hb)
  replace R4 := Lib.hid (R4.out.below hb)
  replace HB := Lib.hid (HB.out.trans (hb.mono HB.out.size))
  clear hb
  have hrtt := lawTab_right (ns := (z2.take len2)) (ms := (z3.take len3)) (cs := (z4.take len4)) k0 (by omega) n0 (by omega)
  have helt := lawTab_len (ns := (z2.take len2)) (ms := (z3.take len3)) (cs := (z4.take len4)) k0 k9 n0 n9
  obtain ⟨tt, htt⟩ : ∃ t, lawTab (z2.take len2) (z3.take len3) (z4.take len4) k n = t := ⟨_, rfl⟩
  rw [htt] at ht hrtt helt
  have hlens := hrtt.lens helt
  obtain ⟨A0t, k0t, rfl, le0t, lt0t, -⟩ := ht.c.form
  obtain ⟨A1t, k1t, rfl, le1t, lt1t, -⟩ := ht.l.form
  obtain ⟨A2t, k2t, ee, le2t, lt2t⟩ := ht.bn.form
  subst ee
  obtain ⟨A3t, k3t, rfl, le3t, lt3t, -⟩ := ht.bo.form
  obtain ⟨A4t, k4t, ee, le4t, lt4t⟩ := ht.fn.form
  subst ee
  obtain ⟨A5t, k5t, ee, le5t, lt5t⟩ := ht.fe.form
  subst ee
  obtain ⟨m0t, hm0t⟩ : ∃ m, tt.cuts.length = m := ⟨_, rfl⟩
  obtain ⟨m1t, hm1t⟩ : ∃ m, tt.letters.length = m := ⟨_, rfl⟩
  obtain ⟨m2t, hm2t⟩ : ∃ m, tt.bn.length = m := ⟨_, rfl⟩
  obtain ⟨m3t, hm3t⟩ : ∃ m, tt.bo.length = m := ⟨_, rfl⟩
  obtain ⟨m4t, hm4t⟩ : ∃ m, tt.fn.length = m := ⟨_, rfl⟩
  obtain ⟨m5t, hm5t⟩ : ∃ m, tt.fe.length = m := ⟨_, rfl⟩
  rw [hm0t, hm1t, hm2t, hm3t, hm4t, hm5t] at ht hlens
  rw [hm0t] at le0t
  rw [hm1t] at le1t
  rw [hm2t] at le2t
  rw [hm3t] at le3t
  rw [hm4t] at le4t
  rw [hm5t] at le5t
  rw [hm0t, hm1t, hm2t, hm3t, hm4t, hm5t]
  obtain ⟨q0t, q1t, q2t, q3t, q4t, q5t⟩ := hlens
  have HM0t := Lib.hid hm0t
  have HM1t := Lib.hid hm1t
  have HM2t := Lib.hid hm2t
  have HM3t := Lib.hid hm3t
  have HM4t := Lib.hid hm4t
  have HM5t := Lib.hid hm5t
  obtain ⟨bt, hbe⟩ : ∃ b, V2.heap.size = b := ⟨_, rfl⟩
  obtain ⟨V3, hW⟩ : ∃ W, V2.alloc (.cells #[.slice A0t m0t k0t, .slice A1t m1t k1t, .slice A2t m2t k2t, .slice A3t m3t k3t, .slice A4t m4t k4t, .slice A5t m5t k5t] 31) = W := ⟨_, rfl⟩
  have hb : Below V2.heap.size V2 V3 := by rw [<- hW]; exact (Below.refl _ _).alloc (Nat.le_refl _) _
  have Xt : Hid (Blk V3 bt 31 #[.slice A0t m0t k0t, .slice A1t m1t k1t, .slice A2t m2t k2t, .slice A3t m3t k3t, .slice A4t m4t k4t, .slice A5t m5t k5t]) := Lib.hid (by rw [<- hW]; exact Blk.newAt _ hbe _ _)
  replace R2 := Lib.hid (R2.out.below hb)
  replace R3 := Lib.hid (R3.out.below hb)
  replace R4 := Lib.hid (R4.out.below hb)
  have HTt := Lib.hid (ht.below hb)
  replace HB := Lib.hid (HB.out.trans (hb.mono HB.out.size))
  have HRt := Lib.hid hrtt; have HEt := Lib.hid helt; have TEt := Lib.hid htt; have HWt := Lib.hid hW; have HBEt := Lib.hid hbe
  clear ht hrtt helt htt hW hb hbe hm0t hm1t hm2t hm3t hm4t hm5t
  go_wp2_with fail
  rw [HWt.out]
  try simp only [HBEt.out]
  obtain ⟨N0, hN0⟩ : ∃ q : Nat, m0t + m1t + m3t + 7 = q := ⟨_, rfl⟩
  have hN9 : N0 <= 40000 := by omega
  have HN0 := Lib.hid hN0
  have htot : (enT tt).length = (1 + m0t) + (1 + m1t) + ((tt.bn.flatMap enN).length + 1) + (1 + m3t) + ((tt.fn.flatMap enN).length + 1) + ((tt.fe.flatMap enVecs).length + 1) := by
   rw [enT_parts, enN_len, enN_len, enN_len, HM0t.out, HM1t.out, HM3t.out]; rfl
  have HTOT := Lib.hid htot
  have hfe : m5t = m4t := by rw [<- HM5t.out, <- HM4t.out]; exact HRt.out.emits.1
  subst hfe
  clear htot
  go_loopw [12, 13] (fun v vi wr => ∃ i : Nat, vi = .int .i64 (i : Int) /\ i <= m2t /\ v = .int .i64 ((N0 + ((tt.bn.take i).flatMap enN).length : Nat) : Int) /\ Hid (Below V3.heap.size V3 wr)) (fun _ vi _ => m2t - (intOf vi).toNat)
  case atStart => exact ⟨0, rfl, Nat.zero_le _, congrArg (Value.int .i64) (by rw [List.take_zero, List.flatMap_nil]; simp only [List.length_nil]; omega), Lib.hid (Below.refl _ _)⟩
  case round =>
   clear hN0
   obtain ⟨i, rfl, hi, rfl, HB3⟩ := hrel
   have i0 : (0 : Int) <= (i : Int) := Int.natCast_nonneg _
   have c2 := (Blk.below Xt.out HB3.out Xt.out.lt).cell 2
   simp only [List.getElem?_toArray, List.getElem?_cons_zero, List.getElem?_cons_succ] at c2
   have hle := flat_take_len enN tt.bn i
   have hel := HEt.out
   rw [HTOT.out] at hel
   obtain ⟨S, hS⟩ : ∃ S, N0 + ((tt.bn.take i).flatMap enN).length = S := ⟨_, rfl⟩
   have hS9 : S <= 100000 := by omega
   have HS := Lib.hid hS
   rw [hS]
   by_cases hlt : i < m2t
   ·have i1 : (i : Int) < (m2t : Int) := by omega
    have hil : i < tt.bn.length := by rw [HM2t.out]; exact hlt
    obtain ⟨g, o, A9, m9, c9, ea, hk9, hc0, -, hkc, hc9⟩ := (show RowsI wr (.slice A2t m2t k2t) tt.bn from HTt.out.bn.below HB3.out).at_ hil
    subst ea
    have hone := flat_one_le enN tt.bn hil []
    have hstp := flat_take_one enN tt.bn hil []
    have hkk : (enN (tt.bn.getD i [])).length = 1 + m9 := by rw [enN_len, hk9]
    have HST : Hid (N0 + ((tt.bn.take (i + 1)).flatMap enN).length = S + 1 + m9) := Lib.hid (by rw [hstp, List.length_append, hkk, <- hS]; omega)
    have hm9 : m9 <= 100000 := by omega
    have hs0 : (0 : Int) <= (S : Int) := Int.natCast_nonneg _
    clear hone hstp hkk hk9 hle hel hS hil
    go_wp2_with fail
    exact ⟨⟨i + 1, by go_num, by omega, congrArg (Value.int .i64) (by rw [HST.out]; omega), HB3⟩, by simp [intOf]; omega⟩
   ·obtain rfl : i = m2t := by omega
    have hall : N0 + (tt.bn.flatMap enN).length = S := by rw [<- hS, List.take_of_length_le (by rw [HM2t.out]; exact Nat.le_refl _)]
    have HALL := Lib.hid hall
    clear hle hel hS hall HS
    go_wp2_with fail
    go_loopw [12, 14] (fun v vi wr => ∃ j : Nat, vi = .int .i64 (j : Int) /\ j <= m5t /\ v = .int .i64 ((S + ((tt.fn.take j).flatMap enN).length + ((tt.fe.take j).flatMap enVecs).length : Nat) : Int) /\ Hid (Below V3.heap.size V3 wr)) (fun _ vi _ => m5t - (intOf vi).toNat)
    case atStart => exact ⟨0, rfl, Nat.zero_le _, congrArg (Value.int .i64) (by simp), HB3⟩
    case round =>
     clear HB3 c2
     obtain ⟨j, rfl, hj, rfl, HB3⟩ := hrel
     have j0 : (0 : Int) <= (j : Int) := Int.natCast_nonneg _
     have hx := Blk.below Xt.out HB3.out Xt.out.lt
     have c4 := hx.cell 4; have c5 := hx.cell 5
     simp only [List.getElem?_toArray, List.getElem?_cons_zero, List.getElem?_cons_succ] at c4 c5
     have hle1 := flat_take_len enN tt.fn j; have hle2 := flat_take_len enVecs tt.fe j
     have hel := HEt.out
     rw [HTOT.out] at hel
     have hal := HALL.out
     obtain ⟨S2, hS2⟩ : ∃ S2, S + ((tt.fn.take j).flatMap enN).length + ((tt.fe.take j).flatMap enVecs).length = S2 := ⟨_, rfl⟩
     have hS29 : S2 <= 200000 := by omega
     rw [hS2]
     by_cases hlt : j < m5t
     ·have j1 : (j : Int) < (m5t : Int) := by omega
      have hil : j < tt.fn.length := by rw [HM4t.out]; exact hlt
      have hil2 : j < tt.fe.length := by rw [HM5t.out]; exact hlt
      obtain ⟨g, o, A9, m9, c9, ea, hk9, hc0, -, hkc, hc9⟩ := (show RowsI wr (.slice A4t m5t k4t) tt.fn from HTt.out.fn.below HB3.out).at_ hil
      obtain ⟨g2, o2, A8, m8, c8, ea2, hk8, hc02, -, hkc2, hc92⟩ := (show EmitR wr (.slice A5t m5t k5t) tt.fe from HTt.out.fe.below HB3.out).at_ hil2
      subst ea ea2
      have hone := flat_one_le enN tt.fn hil []; have hone2 := flat_one_le enVecs tt.fe hil2 []
      have hstp := flat_take_one enN tt.fn hil []; have hstp2 := flat_take_one enVecs tt.fe hil2 []
      have hkk : (enN (tt.fn.getD j [])).length = 1 + m9 := by rw [enN_len, hk9]
      have hkk2 : (enVecs (tt.fe.getD j [])).length = 1 + 3 * m8 := by rw [enVecs_len, hk8]
      have HST : Hid (S + ((tt.fn.take (j + 1)).flatMap enN).length + ((tt.fe.take (j + 1)).flatMap enVecs).length = S2 + 1 + m9 + 1 + 3 * m8) := Lib.hid (by rw [hstp, hstp2, List.length_append, List.length_append, hkk, hkk2, <- hS2]; omega)
      have hm9 : m9 <= 100000 := by omega
      have hm8 : m8 <= 100000 := by omega
      have hs0 : (0 : Int) <= (S2 : Int) := Int.natCast_nonneg _
      have w1 : IntKind.i64.wrap ((S2 : Int) + 1) = (S2 : Int) + 1 := IntWalk.i64_in _ (by omega)
      have w2 : IntKind.i64.wrap ((S2 : Int) + 1 + (m9 : Int)) = (S2 : Int) + 1 + (m9 : Int) := IntWalk.i64_in _ (by omega)
      have w3 : IntKind.i64.wrap ((S2 : Int) + 1 + (m9 : Int) + 1) = (S2 : Int) + 1 + (m9 : Int) + 1 := IntWalk.i64_in _ (by omega)
      have w4 : IntKind.i64.wrap (3 * (m8 : Int)) = 3 * (m8 : Int) := IntWalk.i64_in _ (by omega)
      have w5 : IntKind.i64.wrap ((S2 : Int) + 1 + (m9 : Int) + 1 + 3 * (m8 : Int)) = (S2 : Int) + 1 + (m9 : Int) + 1 + 3 * (m8 : Int) := IntWalk.i64_in _ (by omega)
      clear hone hone2 hstp hstp2 hkk hkk2 hk9 hk8 hle1 hle2 hel hal hS2 hil hil2 hx
      go_wp2_with fail
      go_big_quiet (fail)
      go_wp2_with fail
      refine ⟨⟨j + 1, by go_num, by omega, congrArg (Value.int .i64) (by rw [HST.out]; omega), Lib.hid ?_⟩, by simp [intOf]; omega⟩
      exact ⟨HB3.out.os, HB3.out.tape, HB3.out.output, HB3.out.size, HB3.out.block⟩
     ·obtain rfl : j = m5t := by omega
      have HFIN : Hid ((saveT tt).length = 8 * S2) := Lib.hid (by
       rw [saveT_len, HTOT.out, <- hS2, List.take_of_length_le (by rw [HM4t.out]; exact Nat.le_refl _), List.take_of_length_le (by rw [HM5t.out]; exact Nat.le_refl _), <- hal, <- HN0.out]
       omega)
      have c0 := hx.cell 0; have c1 := hx.cell 1; have c2 := hx.cell 2; have c3 := hx.cell 3
      simp only [List.getElem?_toArray, List.getElem?_cons_zero, List.getElem?_cons_succ] at c0 c1 c2 c3
      have HTW := Lib.hid (HTt.out.below HB3.out)
      have hs0 : (0 : Int) <= (S2 : Int) := Int.natCast_nonneg _
      clear hle1 hle2 hel hal hS2 hx
      go_wp2_with fail
      refine (tsave_any HTW.out (fun _ => Nat.le_trans HEt.out (by decide))).mono ?_
      rintro e V9 ⟨u, rfl, hsv, -, hb⟩
      obtain ⟨A7, c7, e7, -, -⟩ := (hsv HRt.out).slice
      rw [HFIN.out] at e7
      subst e7
      have HBZ := Lib.hid (HB.out.trans ((HB3.out.trans (hb.mono HB3.out.size)).mono HB.out.size))
      clear hsv hb
      go_wp2_with fail
      go_ret
      exact ⟨by simp, HBZ.out⟩
end Go.Proofs.Ytjkcglgkdclidaa
