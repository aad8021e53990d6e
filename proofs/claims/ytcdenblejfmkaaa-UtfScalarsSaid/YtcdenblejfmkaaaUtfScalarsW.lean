/- The law UtfScalars returns true, whatever the two numbers. -/
import Derived.Test.YtcdenblejfmkaaaUtfH
import Derived.Test.YtcdenblejfmkaaaUtfU
namespace Go.Proofs.Ytcdenblejfmkaaa
open Go.RowKit Go.Proofs
set_option linter.unusedVariables false

/-- What decoding one encoded number gives, and how it stands to it. -/
theorem scs_one (x : Int) : scs (enc [x]) = [fix x] := scs_enc_all [x]
theorem fix_cases (x : Int) : (scB x = true ∧ fix x = x) ∨ (scB x = false ∧ fix x = 65533 ∧ x ≠ 65533) := by
  unfold fix
  by_cases h : isScalar x
  · left; exact ⟨(scB_iff x).2 h, if_pos h⟩
  · right
    refine ⟨?_, if_neg h, ?_⟩
    · cases e : scB x
      · rfl
      · exact absurd ((scB_iff x).1 e) h
    · rintro rfl
      exact h (by unfold isScalar; omega)
theorem enc_one_size (x : Int) : (⟨(enc [x]).toArray⟩ : ByteArray).size ≤ 1000000 := by
  have := enc_len [x]
  simp [ByteArray.size] at *
  omega

theorem refscalar_q (n : Int) (B : Bool) (hB : scB n = B) (w : World) :
    Calls Try.prog 21 #[.int .i64 n] w fun e w' => e = .returned (.bool B) ∧ w' = w :=
  (refscalar_any n w).mono fun _ _ ⟨h, k⟩ => ⟨by rw [h, hB], k.symm⟩

set_option maxHeartbeats 1000000 in
theorem scalars_walk (a0 a1 : Int) (w : World) (wa : (Lit.int .i64 a0).wf = true) (wb : (Lit.int .i64 a1).wf = true) :
    Calls Try.prog 7 #[.int .i64 a0, .int .i64 a1] w fun e w' => e = .returned (.bool true) ∧ Below w.heap.size w w' := by
  have WB := Lib.hid wb; clear wa wb
  go_enter Try.func7, Try.ntmps7
  go_wp2_with fail
  refine (known_any _).mono ?_
  rintro e w1 ⟨rfl, hb1⟩
  have HB1 := Lib.hid hb1; clear hb1
  go_wp2_with fail
  refine (within_any a1 1179648 _ WB.out (by omega) (by omega)).mono ?_; rintro e w' ⟨rfl, rfl⟩
  generalize a1 % 1179648 = y at *
  go_wp2_with fail
  obtain ⟨L, hL⟩ : ∃ L : List Int, L = [a0, y, -1, 0, 55295, 55296, 57343, 57344, 1114111, 1114112] := ⟨_, rfl⟩
  have hl10 : L.length = 10 := by rw [hL]; rfl
  have hc0 : ∀ i, i < 10 → (w1.alloc (.cells #[.int .i64 a0, .int .i64 y, .int .i64 (-1), .int .i64 0, .int .i64 55295, .int .i64 55296, .int .i64 57343, .int .i64 57344, .int .i64 1114111, .int .i64 1114112] 3)).cell? ⟨w1.heap.size, i, none⟩ = some (.int .i64 (L.getD i 0)) := by
    intro i hi
    rw [hL]
    rcases (show i = 0 ∨ i = 1 ∨ i = 2 ∨ i = 3 ∨ i = 4 ∨ i = 5 ∨ i = 6 ∨ i = 7 ∨ i = 8 ∨ i = 9 by omega) with rfl | rfl | rfl | rfl | rfl | rfl | rfl | rfl | rfl | rfl <;> simp [go_sem]
  have HB2 := Lib.hid (HB1.out.alloc HB1.out.size (.cells #[.int .i64 a0, .int .i64 y, .int .i64 (-1), .int .i64 0, .int .i64 55295, .int .i64 55296, .int .i64 57343, .int .i64 57344, .int .i64 1114111, .int .i64 1114112] 3))
  have HC0 := Lib.hid hc0; have HL10 := Lib.hid hl10
  clear hL hc0 hl10
  have hgz : w1.heap.size < (w1.alloc (.cells #[.int .i64 a0, .int .i64 y, .int .i64 (-1), .int .i64 0, .int .i64 55295, .int .i64 55296, .int .i64 57343, .int .i64 57344, .int .i64 1114111, .int .i64 1114112] 3)).heap.size := by simp
  generalize w1.alloc (.cells #[.int .i64 a0, .int .i64 y, .int .i64 (-1), .int .i64 0, .int .i64 55295, .int .i64 55296, .int .i64 57343, .int .i64 57344, .int .i64 1114111, .int .i64 1114112] 3) = w2 at *
  generalize w1.heap.size = b at *
  go_loopw [6] (fun i wr => ∃ k : Nat, k ≤ 10 ∧ i = .int .i64 k ∧ Below w.heap.size w wr ∧ b < wr.heap.size ∧ (∀ i, i < 10 → wr.cell? ⟨b, i, none⟩ = some (.int .i64 (L.getD i 0)))) (fun i _ => 10 - (intOf i).toNat)
  case atStart => exact ⟨0, Nat.zero_le _, rfl, HB2.out, hgz, HC0.out⟩
  case round =>
    obtain ⟨k, hk, rfl, hbw, hbz, hc⟩ := hrel
    by_cases hlt : k < 10
    · have k0 : (0 : Int) ≤ (k : Int) := Int.natCast_nonneg _
      have k1 : (k : Int) < 10 := by omega
      have hcell := hc k hlt
      have HC := Lib.hid hc; have HBW := Lib.hid hbw; clear hc hbw
      generalize hx : L.getD k 0 = x at *
      have HX := Lib.hid hx; clear hx
      have hzz := HBW.out.size
      rcases fix_cases x with ⟨h1, h2⟩ | ⟨h1, h2, h3⟩
      · have H1 := Lib.hid h1; have H2 := Lib.hid h2; clear h1 h2
        go_wp2_with fail
        refine (scalar_any x _).mono ?_; rintro e w' ⟨rfl, rfl⟩
        rw [H1.out]
        go_wp2_with fail
        refine (encode_any [x] 1 _ b k _ rfl (by omega) hbz (fun i hi => by cases i with | zero => exact hcell | succ j => omega)).mono ?_
        rintro e w3 ⟨rfl, hb3⟩
        have hcell3 : w3.cell? ⟨b, k, none⟩ = some (.int .i64 x) := by rw [(bcell hb3).1 _ _ hbz]; exact hcell
        have HB3 := Lib.hid hb3; have hz3 := hb3.size; clear hb3
        go_wp2_with fail
        refine (decode_any _ _ (enc_one_size x)).mono ?_
        rintro e w4 ⟨v, u, rfl, hv, hu, hap, hb4⟩
        rw [show (⟨(enc [x]).toArray⟩ : ByteArray).data.toList = enc [x] from rfl, scs_one, H2.out] at hv
        obtain ⟨g1, c1, rfl, _, _, _, hc1⟩ := hv.slice (by simp)
        have d0 : w4.cell? ⟨g1, 0, none⟩ = some (.int .i64 x) := hc1 0 (by simp)
        have hcell4 : w4.cell? ⟨b, k, none⟩ = some (.int .i64 x) := by rw [(bcell hb4).1 _ _ (by omega)]; exact hcell3
        have hB5 : Below wr.heap.size wr w4 := HB3.out.trans (hb4.mono hz3)
        have HB5 := Lib.hid hB5; have hz5 := hB5.size
        clear hv hu hap hc1 hb4 hB5
        have e1 : (x == x) = true := by simp
        go_wp2_with fail
        go_quiet ((go_at_call 21; exact Calls.quiet_of_same (refscalar_q x true H1.out _)))
        go_wp2_with fail
        refine ⟨⟨k + 1, by omega, by go_num, ?_, ?_, ?_⟩, by simp [intOf]; omega⟩
        · exact HBW.out.trans ((HB5.out.mono HBW.out.size).trans ⟨rfl, rfl, rfl, Nat.le_refl _, fun _ _ => rfl⟩)
        · show b < w4.heap.size; omega
        · intro i hi
          show w4.cell? ⟨b, i, none⟩ = _
          rw [(bcell HB5.out).1 _ _ hbz]; exact HC.out i hi
      · have hn : (x == 65533) = false := by simpa using h3
        have hn2 : ((65533 : Int) == x) = false := by simpa using fun e => h3 e.symm
        have H1 := Lib.hid h1; have H2 := Lib.hid h2; clear h1 h2 h3
        go_wp2_with fail
        refine (scalar_any x _).mono ?_; rintro e w' ⟨rfl, rfl⟩
        rw [H1.out]
        go_wp2_with fail
        refine (encode_any [x] 1 _ b k _ rfl (by omega) hbz (fun i hi => by cases i with | zero => exact hcell | succ j => omega)).mono ?_
        rintro e w3 ⟨rfl, hb3⟩
        have hcell3 : w3.cell? ⟨b, k, none⟩ = some (.int .i64 x) := by rw [(bcell hb3).1 _ _ hbz]; exact hcell
        have HB3 := Lib.hid hb3; have hz3 := hb3.size; clear hb3
        go_wp2_with fail
        refine (decode_any _ _ (enc_one_size x)).mono ?_
        rintro e w4 ⟨v, u, rfl, hv, hu, hap, hb4⟩
        rw [show (⟨(enc [x]).toArray⟩ : ByteArray).data.toList = enc [x] from rfl, scs_one, H2.out] at hv
        obtain ⟨g1, c1, rfl, _, _, _, hc1⟩ := hv.slice (by simp)
        have d0 : w4.cell? ⟨g1, 0, none⟩ = some (.int .i64 65533) := hc1 0 (by simp)
        have hcell4 : w4.cell? ⟨b, k, none⟩ = some (.int .i64 x) := by rw [(bcell hb4).1 _ _ (by omega)]; exact hcell3
        have hB5 : Below wr.heap.size wr w4 := HB3.out.trans (hb4.mono hz3)
        have HB5 := Lib.hid hB5; have hz5 := hB5.size
        clear hv hu hap hc1 hb4 hB5
        go_wp2_with fail
        go_quiet ((go_at_call 21; exact Calls.quiet_of_same (refscalar_q x false H1.out _)))
        go_wp2_with fail
        refine ⟨⟨k + 1, by omega, by go_num, ?_, ?_, ?_⟩, by simp [intOf]; omega⟩
        · exact HBW.out.trans ((HB5.out.mono HBW.out.size).trans ⟨rfl, rfl, rfl, Nat.le_refl _, fun _ _ => rfl⟩)
        · show b < w4.heap.size; omega
        · intro i hi
          show w4.cell? ⟨b, i, none⟩ = _
          rw [(bcell HB5.out).1 _ _ hbz]; exact HC.out i hi
    · have HBW := Lib.hid hbw; clear hbw hc
      go_wp2_with fail
      go_ret
      exact ⟨rfl, HBW.out⟩

end Go.Proofs.Ytcdenblejfmkaaa
