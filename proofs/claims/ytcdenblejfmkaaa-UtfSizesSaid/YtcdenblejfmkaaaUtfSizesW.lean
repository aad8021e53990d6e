/- The law UtfSizes returns true, whatever the number. -/
import Derived.Test.YtcdenblejfmkaaaUtfH
namespace Go.Proofs.Ytcdenblejfmkaaa
open Go.RowKit Go.Proofs
set_option linter.unusedVariables false

/-- How many bytes a number has, encoded. -/
def wide (k : Int) : Nat := (Lib.encodeRune k).length
theorem wide_eq (k : Int) : wide k = (Lib.encodeRuneZ k).length := by unfold wide Lib.encodeRune; simp
theorem wide_cases (k : Int) (h0 : 0 ≤ k) (h1 : k < 1114112) : (k < 128 ∧ wide k = 1) ∨ (128 ≤ k ∧ k < 2048 ∧ wide k = 2) ∨ (2048 ≤ k ∧ k < 65536 ∧ wide k = 3) ∨ (65536 ≤ k ∧ wide k = 4) := by
  rw [wide_eq]
  by_cases g1 : k < 128
  · left; rw [Lib.encodeRuneZ_one h0 (by omega)]; exact ⟨g1, rfl⟩
  · by_cases g2 : k < 2048
    · right; left; rw [Lib.encodeRuneZ_two (by omega) (by omega)]; exact ⟨by omega, g2, rfl⟩
    · by_cases g3 : k < 65536
      · right; right; left
        by_cases hs : k < 55296 ∨ 57343 < k
        · rw [Lib.encodeRuneZ_three (by omega)]; exact ⟨by omega, g3, rfl⟩
        · rw [Lib.encodeRuneZ_bad (by omega)]; exact ⟨by omega, g3, rfl⟩
      · right; right; right; rw [Lib.encodeRuneZ_four (by omega) (by omega)]; exact ⟨by omega, rfl⟩
theorem enc1_len (k : Int) : (enc [k]).length = wide k := by simp [enc, wide]
theorem enc2_len (k : Int) : (enc [k, k]).length = wide k + wide k := by simp [enc, wide]
theorem str_size (l : List UInt8) : (⟨l.toArray⟩ : ByteArray).size = l.length := by simp [ByteArray.size]

set_option maxHeartbeats 1000000 in
theorem sizes_walk (a0 : Int) (w : World) (wa : (Lit.int .i64 a0).wf = true) :
    Calls Try.prog 9 #[.int .i64 a0] w fun e w' => e = .returned (.bool true) ∧ Below w.heap.size w w' := by
  have hk0 : 0 ≤ a0 % 1114112 := by omega
  have hk1 : a0 % 1114112 < 1114112 := by omega
  have WA := Lib.hid wa; clear wa
  rcases wide_cases (a0 % 1114112) hk0 hk1 with ⟨g, h⟩ | ⟨g1, g2, h⟩ | ⟨g1, g2, h⟩ | ⟨g, h⟩
  all_goals
    have h1 := enc1_len (a0 % 1114112)
    have h2 := enc2_len (a0 % 1114112)
    rw [h] at h1 h2
    have H1 := Lib.hid h1; have H2 := Lib.hid h2; clear h h1 h2
    go_enter Try.func9, Try.ntmps9
    go_wp2_with fail
    refine (known_any _).mono ?_
    rintro e w1 ⟨rfl, hb1⟩
    have HB1 := Lib.hid hb1; clear hb1
    go_wp2_with fail
    refine (within_any a0 1114112 _ WA.out (by omega) (by omega)).mono ?_; rintro e w' ⟨rfl, rfl⟩
    generalize a0 % 1114112 = k at *
    go_wp2_with fail
    refine (encode_one k 1 w1.heap.size _ (by simp) (by simp [go_sem])).mono ?_
    rintro e w2 ⟨rfl, hb2⟩
    have HB2 := Lib.hid ((HB1.out.alloc HB1.out.size (.cells #[.int .i64 k] 3)).trans (hb2.mono (by have := HB1.out.size; simp; omega)))
    clear hb2
    have z1 := str_size (enc [k]); rw [H1.out] at z1
    go_wp2_with fail
    refine (encode_any [k, k] 2 2 w2.heap.size 0 _ rfl (by omega) (by simp) (fun i hi => by rcases (show i = 0 ∨ i = 1 by omega) with rfl | rfl <;> simp [go_sem])).mono ?_
    rintro e w3 ⟨rfl, hb3⟩
    have HB3 := Lib.hid ((HB2.out.alloc HB2.out.size (.cells #[.int .i64 k, .int .i64 k] 3)).trans (hb3.mono (by have := HB2.out.size; simp; omega)))
    clear hb3
    have z2 := str_size (enc [k, k]); rw [H2.out] at z2
    go_wp2_with fail
    go_ret
    exact ⟨rfl, HB3.out⟩

end Go.Proofs.Ytcdenblejfmkaaa
