/- The law UtfParts returns true, whatever the numbers and the byte. -/
import Derived.Test.YtcdenblejfmkaaaUtfPartsP
import Derived.Test.YtcdenblejfmkaaaUtfV
import Derived.Laws.BytesArg
import Derived.RegionTactic
import Derived.ChangeAlike
namespace Go.Proofs.Ytcdenblejfmkaaa
open Go.RowKit Go.Proofs
set_option linter.unusedVariables false

/-- The scalar that the law text takes. -/
def pk (n : Int) : Int := if 55296 ≤ 128 + n % 1113984 ∧ 128 + n % 1113984 ≤ 57343 then 8364 else 128 + n % 1113984
theorem pk_is (n : Int) : isScalar (pk n) ∧ 128 ≤ pk n := by unfold isScalar pk; split <;> omega

theorem refencode_one (x : Int) (cap b : Nat) (w : World) (hb : b < w.heap.size) (hc : w.cell? ⟨b, 0, none⟩ = some (.int .i64 x)) :
    Calls Try.prog 19 #[.slice (some ⟨b, 0, none⟩) 1 cap] w fun e w' => e = .returned (.string ⟨(enc [x]).toArray⟩) ∧ Below w.heap.size w w' :=
  refencode_any [x] 1 cap b 0 w rfl (by omega) hb (fun i hi => by cases i with | zero => exact hc | succ j => omega)

theorem front_str (s : ByteArray) (c : Nat) (y : Int) (h0 : 0 ≤ y) (h1 : y < 256) : (s.extract 0 c ++ strOfNums [y]).data.toList = s.data.toList.take c ++ [UInt8.ofNat y.toNat] := by
  rw [ByteArray.data_append, Array.toList_append, ByteArray.data_extract, Array.toList_extract, List.extract_eq_drop_take', List.drop_zero]
  rfl

theorem below_alloc {w a b : World} {o : Obj} (h : Below w.heap.size w a) (k : Below (a.alloc o).heap.size (a.alloc o) b) : Below w.heap.size w b :=
  (h.alloc h.size o).trans (k.mono (Nat.le_trans h.size (by simp)))
theorem enc1 (x : Int) : enc [x] = Lib.encodeRune x := by simp [enc]
theorem enc1_size (k : Int) (hk : isScalar k) (h128 : 128 ≤ k) : 2 ≤ (Lib.encodeRune k).length ∧ (Lib.encodeRune k).length ≤ 4 := by
  unfold isScalar at hk
  rw [enc_length]
  by_cases g2 : k ≤ 2047
  · rw [Lib.encodeRuneZ_two h128 g2]; simp
  · by_cases g3 : k ≤ 65535
    · rw [Lib.encodeRuneZ_three (by omega)]; simp
    · rw [Lib.encodeRuneZ_four (by omega) (by omega)]; simp

set_option maxRecDepth 100000 in
set_option maxHeartbeats 2000000 in
theorem parts_walk (a0 a1 a2 : Int) (w : World) (wa : (Lit.int .i64 a0).wf = true) (wb : (Lit.int .i64 a1).wf = true) (wc : (Lit.int .u8 a2).wf = true) :
    Calls Try.prog 6 #[.int .i64 a0, .int .i64 a1, .int .u8 a2] w fun e w' => e = .returned (.bool true) ∧ Below w.heap.size w w' := by
  have hc := bounds_u8 wc
  have hpk := pk_is a0
  have WA := Lib.hid wa; have WB := Lib.hid wb; clear wa wb wc
  have e127 : bits .and .u8 a2 127 = a2 % 128 := bits_mask .u8 8 (by decide) wraps_u8 7 (by decide) a2 (by omega) (by omega)
  have y0 : 0 ≤ a2 % 128 := by omega
  have y1 : a2 % 128 < 128 := by omega
  have hx0 : 0 ≤ a0 % 1113984 := by omega
  have hx1 : a0 % 1113984 < 1113984 := by omega
  by_cases hs : 55296 ≤ 128 + a0 % 1113984 ∧ 128 + a0 % 1113984 ≤ 57343
  · have hkv : pk a0 = 8364 := if_pos hs
    have HK := Lib.hid hkv; clear hkv
    obtain ⟨s0, s1⟩ := hs
    go_enter Try.func6, Try.ntmps6
    go_wp2_with fail
    refine (known_any _).mono ?_
    rintro e w1 ⟨rfl, hb1⟩
    have HB1 := Lib.hid hb1; clear hb1
    go_wp2_with fail
    refine (within_any a0 1113984 _ WA.out (by omega) (by omega)).mono ?_; rintro e w' ⟨rfl, rfl⟩
    go_wp2_with fail
    refine (refencode_one 8364 1 w1.heap.size _ (by simp) (by simp [go_sem])).mono ?_
    rintro e w2 ⟨rfl, hb2⟩
    rw [← HK.out]
    have HB2 := Lib.hid (below_alloc HB1.out hb2); have hz2 := HB2.out.size
    clear hb2
    rw [enc1]
    obtain ⟨S, hS⟩ : ∃ S : ByteArray, S = ⟨(Lib.encodeRune (pk a0)).toArray⟩ := ⟨_, rfl⟩
    rw [← hS]
    have hSl : S.data.toList = Lib.encodeRune (pk a0) := by rw [hS]
    have hSz : S.size = (Lib.encodeRune (pk a0)).length := by rw [hS]; simp [ByteArray.size]
    have hS4 := enc1_size (pk a0) hpk.1 hpk.2
    rw [← hSz] at hS4
    obtain ⟨z2, z4⟩ := hS4
    obtain ⟨j, hj⟩ : ∃ j : Nat, a1 % ((S.size : Int) - 1) = (j : Int) := ⟨(a1 % ((S.size : Int) - 1)).toNat, by have := Int.emod_nonneg a1 (show (S.size : Int) - 1 ≠ 0 by omega); omega⟩
    have hjl : (j : Int) < (S.size : Int) - 1 := by rw [← hj]; exact Int.emod_lt_of_pos _ (by omega)
    have j0 : (0 : Int) ≤ (j : Int) := Int.natCast_nonneg _
    have HJ := Lib.hid hj; clear hj
    have hfd := front_dec (pk a0) hpk.1 hpk.2 (1 + j) (by omega) (by rw [← hSz]; omega) (UInt8.ofNat (a2 % 128).toNat) (by simp; omega)
    have hyv : ((UInt8.ofNat (a2 % 128).toNat).toNat : Int) = a2 % 128 := by simp; omega
    rw [hyv, ← hSl, ← front_str S (1 + j) (a2 % 128) (by omega) (by omega)] at hfd
    have hTz : (S.extract 0 (1 + j) ++ strOfNums [a2 % 128]).size ≤ 1000000 := by
      rw [ByteArray.size_append, ByteArray.size_extract, strOfNums_size]; simp; omega
    have hcv : (convert 23 9 (.slice (some ⟨w2.heap.size, 0, none⟩) 1 1)).run Try.prog (w2.alloc (.cells #[.int .u8 (a2 % 128)] 5)).drew = .ok (.string (strOfNums [a2 % 128])) (w2.alloc (.cells #[.int .u8 (a2 % 128)] 5)).drew :=
      run_convert_bytes_arg _ 23 5 Try.underlying23 Try.underlying5 w2.heap.size 0 1 1 [a2 % 128] rfl (by intro i hi; obtain rfl : i = 0 := (by omega); simp [go_sem]) _ Try.underlying9
    have hez : (S.extract 0 (1 + j)).size ≤ 4 := by rw [ByteArray.size_extract]; omega
    have hnz : (strOfNums [a2 % 128]).size = 1 := strOfNums_size _
    have hnz2 : (strOfNums [a2 % 128]).size ≤ 1 := by omega
    have HFD := Lib.hid hfd; have HTZ := Lib.hid hTz; have HCV := Lib.hid hcv
    clear hfd hTz hcv hnz hyv hS hSl hSz hpk
    go_wp2_with fail
    refine (within_any a1 ((S.size : Int) - 1) _ WB.out (by omega) (by omega)).mono ?_; rintro e w' ⟨rfl, rfl⟩
    rw [HJ.out]
    go_wp2_with fail
    have hcv := HCV.out
    go_region
    go_wp2_with fail
    refine (decode_any (S.extract 0 (1 + j) ++ strOfNums [a2 % 128]) _ HTZ.out).mono ?_
    rintro e w3 ⟨v, u, rfl, hv, hu, hap, hb3⟩
    rw [HFD.out.1] at hv hu
    rw [HFD.out.2] at hu
    have HB3 := Lib.hid ((HB2.out.alloc hz2 _).drew.trans (hb3.mono (Nat.le_trans hz2 (by simp))))
    obtain ⟨g1, c1, rfl, _, _, _, hc1⟩ := hv.slice (by simp)
    obtain ⟨g2, c2, rfl, _, _, _, hc2⟩ := hu.slice (by simp)
    have d0 : w3.cell? ⟨g1, 0, none⟩ = some (.int .i64 65533) := hc1 0 (by simp)
    have d1 : w3.cell? ⟨g1, 1, none⟩ = some (.int .i64 (a2 % 128)) := hc1 1 (by simp)
    have d2 : w3.cell? ⟨g2, 1, none⟩ = some (.int .i64 ((1 + j : Nat) : Int)) := hc2 1 (by simp)
    rw [show ((1 + j : Nat) : Int) = 1 + (j : Int) by omega] at d2
    have q1 : (a2 % 128 == a2 % 128) = true := by simp
    have q2 : ((1 + (j : Int)) == 1 + (j : Int)) = true := by simp
    clear hv hu hap hb3 hc1 hc2
    go_wp2_with fail
    go_ret
    exact ⟨rfl, HB3.out⟩
  · have hkv : pk a0 = 128 + a0 % 1113984 := if_neg hs
    have HK := Lib.hid hkv; clear hkv
    have hs2 : 128 + a0 % 1113984 < 55296 ∨ 57343 < 128 + a0 % 1113984 := by omega
    clear hs
    rcases hs2 with s0 | s0
    all_goals
      go_enter Try.func6, Try.ntmps6
      go_wp2_with fail
      refine (known_any _).mono ?_
      rintro e w1 ⟨rfl, hb1⟩
      have HB1 := Lib.hid hb1; clear hb1
      go_wp2_with fail
      refine (within_any a0 1113984 _ WA.out (by omega) (by omega)).mono ?_; rintro e w' ⟨rfl, rfl⟩
      go_wp2_with fail
      refine (refencode_one (128 + a0 % 1113984) 1 w1.heap.size _ (by simp) (by simp [go_sem])).mono ?_
      rintro e w2 ⟨rfl, hb2⟩
      rw [← HK.out]
      have HB2 := Lib.hid (below_alloc HB1.out hb2); have hz2 := HB2.out.size
      clear hb2
      rw [enc1]
      obtain ⟨S, hS⟩ : ∃ S : ByteArray, S = ⟨(Lib.encodeRune (pk a0)).toArray⟩ := ⟨_, rfl⟩
      rw [← hS]
      have hSl : S.data.toList = Lib.encodeRune (pk a0) := by rw [hS]
      have hSz : S.size = (Lib.encodeRune (pk a0)).length := by rw [hS]; simp [ByteArray.size]
      have hS4 := enc1_size (pk a0) hpk.1 hpk.2
      rw [← hSz] at hS4
      obtain ⟨z2, z4⟩ := hS4
      obtain ⟨j, hj⟩ : ∃ j : Nat, a1 % ((S.size : Int) - 1) = (j : Int) := ⟨(a1 % ((S.size : Int) - 1)).toNat, by have := Int.emod_nonneg a1 (show (S.size : Int) - 1 ≠ 0 by omega); omega⟩
      have hjl : (j : Int) < (S.size : Int) - 1 := by rw [← hj]; exact Int.emod_lt_of_pos _ (by omega)
      have j0 : (0 : Int) ≤ (j : Int) := Int.natCast_nonneg _
      have HJ := Lib.hid hj; clear hj
      have hfd := front_dec (pk a0) hpk.1 hpk.2 (1 + j) (by omega) (by rw [← hSz]; omega) (UInt8.ofNat (a2 % 128).toNat) (by simp; omega)
      have hyv : ((UInt8.ofNat (a2 % 128).toNat).toNat : Int) = a2 % 128 := by simp; omega
      rw [hyv, ← hSl, ← front_str S (1 + j) (a2 % 128) (by omega) (by omega)] at hfd
      have hTz : (S.extract 0 (1 + j) ++ strOfNums [a2 % 128]).size ≤ 1000000 := by
        rw [ByteArray.size_append, ByteArray.size_extract, strOfNums_size]; simp; omega
      have hcv : (convert 23 9 (.slice (some ⟨w2.heap.size, 0, none⟩) 1 1)).run Try.prog (w2.alloc (.cells #[.int .u8 (a2 % 128)] 5)).drew = .ok (.string (strOfNums [a2 % 128])) (w2.alloc (.cells #[.int .u8 (a2 % 128)] 5)).drew :=
        run_convert_bytes_arg _ 23 5 Try.underlying23 Try.underlying5 w2.heap.size 0 1 1 [a2 % 128] rfl (by intro i hi; obtain rfl : i = 0 := (by omega); simp [go_sem]) _ Try.underlying9
      have hez : (S.extract 0 (1 + j)).size ≤ 4 := by rw [ByteArray.size_extract]; omega
      have hnz : (strOfNums [a2 % 128]).size = 1 := strOfNums_size _
      have hnz2 : (strOfNums [a2 % 128]).size ≤ 1 := by omega
      have HFD := Lib.hid hfd; have HTZ := Lib.hid hTz; have HCV := Lib.hid hcv
      clear hfd hTz hcv hnz hyv hS hSl hSz hpk
      go_wp2_with fail
      refine (within_any a1 ((S.size : Int) - 1) _ WB.out (by omega) (by omega)).mono ?_; rintro e w' ⟨rfl, rfl⟩
      rw [HJ.out]
      go_wp2_with fail
      have hcv := HCV.out
      go_region
      go_wp2_with fail
      refine (decode_any (S.extract 0 (1 + j) ++ strOfNums [a2 % 128]) _ HTZ.out).mono ?_
      rintro e w3 ⟨v, u, rfl, hv, hu, hap, hb3⟩
      rw [HFD.out.1] at hv hu
      rw [HFD.out.2] at hu
      have HB3 := Lib.hid ((HB2.out.alloc hz2 _).drew.trans (hb3.mono (Nat.le_trans hz2 (by simp))))
      obtain ⟨g1, c1, rfl, _, _, _, hc1⟩ := hv.slice (by simp)
      obtain ⟨g2, c2, rfl, _, _, _, hc2⟩ := hu.slice (by simp)
      have d0 : w3.cell? ⟨g1, 0, none⟩ = some (.int .i64 65533) := hc1 0 (by simp)
      have d1 : w3.cell? ⟨g1, 1, none⟩ = some (.int .i64 (a2 % 128)) := hc1 1 (by simp)
      have d2 : w3.cell? ⟨g2, 1, none⟩ = some (.int .i64 ((1 + j : Nat) : Int)) := hc2 1 (by simp)
      rw [show ((1 + j : Nat) : Int) = 1 + (j : Int) by omega] at d2
      have q1 : (a2 % 128 == a2 % 128) = true := by simp
      have q2 : ((1 + (j : Int)) == 1 + (j : Int)) = true := by simp
      clear hv hu hap hb3 hc1 hc2
      go_wp2_with fail
      go_ret
      exact ⟨rfl, HB3.out⟩
end Go.Proofs.Ytcdenblejfmkaaa
