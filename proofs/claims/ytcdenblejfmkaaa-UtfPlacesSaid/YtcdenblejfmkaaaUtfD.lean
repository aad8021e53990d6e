/- Contract of the document's own next: the scalar that begins a row, and how many bytes it has. -/
import Derived.Test.YtcdenblejfmkaaaUtfC
import Derived.Test.YtcdenblejfmkaaaBits
namespace Go.Proofs.Ytcdenblejfmkaaa
open Go.RowKit
set_option linter.unusedVariables false

theorem second_q (f c : Int) (B : Bool) (hB : inB (loOf f) (hiOf f) c = B) (w : World) (h0 : 0 ≤ c) (h1 : c < 256) :
    Calls Try.prog 31 #[.int .u8 f, .int .u8 c] w fun e w' => e = .returned (.bool B) ∧ w' = w :=
  (second_any f c w h0 h1).mono fun _ _ ⟨h, k⟩ => ⟨by rw [h, hB], k.symm⟩
theorem inB_low (f c : Int) (h : inB (loOf f) (hiOf f) c = true) : 128 ≤ c ∧ c ≤ 191 := by
  rw [inB_iff] at h
  have := loOf_cases f
  omega
theorem ret_two {a b c d : Int} (h1 : a = c) (h2 : b = d) : Ending.returned (.tuple #[.int .i64 a, .int .i64 b]) = .returned (.tuple #[.int .i64 c, .int .i64 d]) := by rw [h1, h2]
theorem sec_of (l : List UInt8) (x0 x1 : Int) (h0 : bt l 0 = x0) (h1 : bt l 1 = x1) (hl : 1 < l.length) (h : inB (loOf x0) (hiOf x0) x1 = true) : sec l := by
  rw [inB_iff] at h; unfold sec; rw [h0, h1]; exact ⟨hl, h⟩
theorem not_sec_of (l : List UInt8) (x0 x1 : Int) (h0 : bt l 0 = x0) (h1 : bt l 1 = x1) (h : l.length ≤ 1 ∨ inB (loOf x0) (hiOf x0) x1 = false) : ¬ sec l := by
  unfold sec; rw [h0, h1]
  rcases h with h | h
  · omega
  · intro hh
    have := (inB_iff (loOf x0) (hiOf x0) x1).2 hh.2
    rw [h] at this; cases this

set_option maxHeartbeats 400000 in
theorem next_0 (s : ByteArray) (w : World) (hs : 0 < s.size) (hm : s.size ≤ 9223372036854775807) (x0 x1 x2 x3 : Int) (q0 : bt s.data.toList 0 = x0) (q1 : bt s.data.toList 1 = x1) (q2 : bt s.data.toList 2 = x2) (q3 : bt s.data.toList 3 = x3) (h2 : szOf x0 = 0) :
    Calls Try.prog 23 #[.string s] w fun e w' => e = .returned (.tuple #[.int .i64 (nx s.data.toList).1, .int .i64 (nx s.data.toList).2]) ∧ Below w.heap.size w w' := by
  have y0 : ((s[0]'hs).toNat : Int) = x0 := by rw [bt_get s 0 hs, q0]
  have r0 := bt_lt s.data.toList 0; rw [q0] at r0
  have hf : nx s.data.toList = (65533, 1) := by unfold nx; rw [q0, h2]; simp
  have HF := Lib.hid hf; have H2 := Lib.hid h2; clear hf h2 q0 q1 q2 q3
  go_enter Try.func23, Try.ntmps23
  go_wp2_with fail
  refine (size_any _ _ (by omega) (by omega)).mono ?_
  rintro e w1 ⟨rfl, rfl⟩
  rw [H2.out]
  go_wp2_with fail
  go_ret2
  exact ⟨ret_two (by rw [HF.out]) (by rw [HF.out]; rfl), by repeat (first | exact Below.refl _ _ | refine below_drewN ?_ _)⟩

set_option maxHeartbeats 400000 in
theorem next_1 (s : ByteArray) (w : World) (hs : 0 < s.size) (hm : s.size ≤ 9223372036854775807) (x0 x1 x2 x3 : Int) (q0 : bt s.data.toList 0 = x0) (q1 : bt s.data.toList 1 = x1) (q2 : bt s.data.toList 2 = x2) (q3 : bt s.data.toList 3 = x3) (h2 : szOf x0 = 1) :
    Calls Try.prog 23 #[.string s] w fun e w' => e = .returned (.tuple #[.int .i64 (nx s.data.toList).1, .int .i64 (nx s.data.toList).2]) ∧ Below w.heap.size w w' := by
  have y0 : ((s[0]'hs).toNat : Int) = x0 := by rw [bt_get s 0 hs, q0]
  have r0 := bt_lt s.data.toList 0; rw [q0] at r0
  have hf : nx s.data.toList = (x0, 1) := by unfold nx; rw [q0, h2]; simp
  have HF := Lib.hid hf; have H2 := Lib.hid h2; clear hf h2 q0 q1 q2 q3
  go_enter Try.func23, Try.ntmps23
  go_wp2_with fail
  refine (size_any _ _ (by omega) (by omega)).mono ?_
  rintro e w1 ⟨rfl, rfl⟩
  rw [H2.out]
  go_wp2_with fail
  go_ret2
  exact ⟨ret_two (by rw [HF.out]) (by rw [HF.out]; rfl), by repeat (first | exact Below.refl _ _ | refine below_drewN ?_ _)⟩

set_option maxHeartbeats 1000000 in
theorem next_2_1a (s : ByteArray) (w : World) (hs : 0 < s.size) (hm : s.size ≤ 9223372036854775807) (x0 x1 x2 x3 : Int) (q0 : bt s.data.toList 0 = x0) (q1 : bt s.data.toList 1 = x1) (q2 : bt s.data.toList 2 = x2) (q3 : bt s.data.toList 3 = x3) (h2 : szOf x0 = 2) (hz : s.size ≤ 1) :
    Calls Try.prog 23 #[.string s] w fun e w' => e = .returned (.tuple #[.int .i64 (nx s.data.toList).1, .int .i64 (nx s.data.toList).2]) ∧ Below w.heap.size w w' := by
  have y0 : ((s[0]'hs).toNat : Int) = x0 := by rw [bt_get s 0 hs, q0]
  have r0 := bt_lt s.data.toList 0; rw [q0] at r0
  have hl : s.data.toList.length = s.size := rfl
  have hb0 : szOf x0 = 2 ∧ 194 ≤ x0 ∧ x0 ≤ 223 := by have := szOf_cases x0; omega
  replace hb0 := hb0.2
  have hse := not_sec_of _ _ _ q0 q1 (.inl (by rw [hl]; exact hz))
  have hf : nx s.data.toList = (65533, 1) := by unfold nx; rw [q0, h2]; simp [hse]
  have hda : decide ((s.size : Int) ≤ 1) = true := by simp; omega
  have em := i64_and31 x0 (by omega) (by omega)
  have HF := Lib.hid hf; have H2 := Lib.hid h2; clear hf h2 q0 q1 q2 q3 hl hse
  go_enter Try.func23, Try.ntmps23
  go_wp2_with fail
  refine (size_any _ _ (by omega) (by omega)).mono ?_
  rintro e w1 ⟨rfl, rfl⟩
  rw [H2.out]
  go_wp2_with fail
  refine wp_loop_rounds 5 ?_; rw [rounds_succ]
  go_wp2_with fail
  go_quiet (fail)
  go_wp2_with fail
  go_ret2
  exact ⟨ret_two (by rw [HF.out]) (by rw [HF.out]; rfl), by repeat (first | exact Below.refl _ _ | refine below_drewN ?_ _)⟩

set_option maxHeartbeats 1000000 in
theorem next_2_1b (s : ByteArray) (w : World) (hs : 0 < s.size) (hm : s.size ≤ 9223372036854775807) (x0 x1 x2 x3 : Int) (q0 : bt s.data.toList 0 = x0) (q1 : bt s.data.toList 1 = x1) (q2 : bt s.data.toList 2 = x2) (q3 : bt s.data.toList 3 = x3) (h2 : szOf x0 = 2) (hz : 1 < s.size) (hsec : inB (loOf x0) (hiOf x0) x1 = false) :
    Calls Try.prog 23 #[.string s] w fun e w' => e = .returned (.tuple #[.int .i64 (nx s.data.toList).1, .int .i64 (nx s.data.toList).2]) ∧ Below w.heap.size w w' := by
  have y0 : ((s[0]'hs).toNat : Int) = x0 := by rw [bt_get s 0 hs, q0]
  have r0 := bt_lt s.data.toList 0; rw [q0] at r0
  have y1 : ((s[1]'(by omega)).toNat : Int) = x1 := by rw [bt_get s 1 (by omega), q1]
  have r1 := bt_lt s.data.toList 1; rw [q1] at r1
  have hlI1 : (1 : Int) < (s.size : Int) := by omega
  have hd1 : decide ((s.size : Int) ≤ 1) = false := by simp; omega
  have hl : s.data.toList.length = s.size := rfl
  have hb0 : szOf x0 = 2 ∧ 194 ≤ x0 ∧ x0 ≤ 223 := by have := szOf_cases x0; omega
  replace hb0 := hb0.2
  have hse := not_sec_of _ _ _ q0 q1 (.inr hsec)
  have hf : nx s.data.toList = (65533, 1) := by unfold nx; rw [q0, h2]; simp [hse]
  have em := i64_and31 x0 (by omega) (by omega)
  have HF := Lib.hid hf; have H2 := Lib.hid h2; clear hf h2 q0 q1 q2 q3 hl hse
  go_enter Try.func23, Try.ntmps23
  go_wp2_with fail
  refine (size_any _ _ (by omega) (by omega)).mono ?_
  rintro e w1 ⟨rfl, rfl⟩
  rw [H2.out]
  go_wp2_with fail
  refine wp_loop_rounds 5 ?_; rw [rounds_succ]
  go_wp2_with fail
  go_quiet ((go_at_call 31; exact Calls.quiet_of_same (second_q _ _ false hsec _ (by omega) (by omega))))
  go_wp2_with fail
  go_ret2
  exact ⟨ret_two (by rw [HF.out]) (by rw [HF.out]; rfl), by repeat (first | exact Below.refl _ _ | refine below_drewN ?_ _)⟩

set_option maxHeartbeats 1000000 in
theorem next_2_ok (s : ByteArray) (w : World) (hs : 0 < s.size) (hm : s.size ≤ 9223372036854775807) (x0 x1 x2 x3 : Int) (q0 : bt s.data.toList 0 = x0) (q1 : bt s.data.toList 1 = x1) (q2 : bt s.data.toList 2 = x2) (q3 : bt s.data.toList 3 = x3) (h2 : szOf x0 = 2) (hz : 1 < s.size) (hsec : inB (loOf x0) (hiOf x0) x1 = true) :
    Calls Try.prog 23 #[.string s] w fun e w' => e = .returned (.tuple #[.int .i64 (nx s.data.toList).1, .int .i64 (nx s.data.toList).2]) ∧ Below w.heap.size w w' := by
  have y0 : ((s[0]'hs).toNat : Int) = x0 := by rw [bt_get s 0 hs, q0]
  have r0 := bt_lt s.data.toList 0; rw [q0] at r0
  have y1 : ((s[1]'(by omega)).toNat : Int) = x1 := by rw [bt_get s 1 (by omega), q1]
  have r1 := bt_lt s.data.toList 1; rw [q1] at r1
  have hlI1 : (1 : Int) < (s.size : Int) := by omega
  have hd1 : decide ((s.size : Int) ≤ 1) = false := by simp; omega
  have hl : s.data.toList.length = s.size := rfl
  have hb0 : szOf x0 = 2 ∧ 194 ≤ x0 ∧ x0 ≤ 223 := by have := szOf_cases x0; omega
  replace hb0 := hb0.2
  have hse := sec_of _ _ _ q0 q1 (by rw [hl]; omega) hsec
  have hf : nx s.data.toList = (x0 % 32 * 64 + x1 % 64, 2) := by unfold nx; rw [q0, q1, h2]; simp [hse]
  have hc1 := inB_low _ _ hsec
  have em := i64_and31 x0 (by omega) (by omega)
  have ea1 := i64_and63 x1 (by omega) (by omega)
  have eo1 := i64_or6 ((x0 % 32) * 64) (x1 % 64) (by omega) (by omega) (by omega) (by omega) (by omega)
  have ez1 : 0 ≤ x0 % 32 * 64 + x1 % 64 ∧ x0 % 32 * 64 + x1 % 64 ≤ 16777215 := by omega
  have t1l : decide (x1 < 128) = false := by simp; omega
  have t1h : decide (191 < x1) = false := by simp; omega
  have HF := Lib.hid hf; have H2 := Lib.hid h2; clear hf h2 q0 q1 q2 q3 hl hse
  go_enter Try.func23, Try.ntmps23
  go_wp2_with fail
  refine (size_any _ _ (by omega) (by omega)).mono ?_
  rintro e w1 ⟨rfl, rfl⟩
  rw [H2.out]
  go_wp2_with fail
  refine wp_loop_rounds 5 ?_; rw [rounds_succ]
  go_wp2_with fail
  go_quiet ((go_at_call 31; exact Calls.quiet_of_same (second_q _ _ true hsec _ (by omega) (by omega))))
  go_wp2_with fail
  rw [rounds_succ]
  go_wp2_with fail
  go_ret2
  exact ⟨ret_two (by rw [HF.out]) (by rw [HF.out]; rfl), by repeat (first | exact Below.refl _ _ | refine below_drewN ?_ _)⟩

set_option maxHeartbeats 1000000 in
theorem next_3_1a (s : ByteArray) (w : World) (hs : 0 < s.size) (hm : s.size ≤ 9223372036854775807) (x0 x1 x2 x3 : Int) (q0 : bt s.data.toList 0 = x0) (q1 : bt s.data.toList 1 = x1) (q2 : bt s.data.toList 2 = x2) (q3 : bt s.data.toList 3 = x3) (h2 : szOf x0 = 3) (hz : s.size ≤ 1) :
    Calls Try.prog 23 #[.string s] w fun e w' => e = .returned (.tuple #[.int .i64 (nx s.data.toList).1, .int .i64 (nx s.data.toList).2]) ∧ Below w.heap.size w w' := by
  have y0 : ((s[0]'hs).toNat : Int) = x0 := by rw [bt_get s 0 hs, q0]
  have r0 := bt_lt s.data.toList 0; rw [q0] at r0
  have hl : s.data.toList.length = s.size := rfl
  have hb0 : szOf x0 = 3 ∧ 224 ≤ x0 ∧ x0 ≤ 239 := by have := szOf_cases x0; omega
  replace hb0 := hb0.2
  have hse := not_sec_of _ _ _ q0 q1 (.inl (by rw [hl]; exact hz))
  have hf : nx s.data.toList = (65533, 1) := by unfold nx; rw [q0, h2]; simp [hse]
  have hda : decide ((s.size : Int) ≤ 1) = true := by simp; omega
  have em := i64_and15 x0 (by omega) (by omega)
  have HF := Lib.hid hf; have H2 := Lib.hid h2; clear hf h2 q0 q1 q2 q3 hl hse
  go_enter Try.func23, Try.ntmps23
  go_wp2_with fail
  refine (size_any _ _ (by omega) (by omega)).mono ?_
  rintro e w1 ⟨rfl, rfl⟩
  rw [H2.out]
  go_wp2_with fail
  refine wp_loop_rounds 5 ?_; rw [rounds_succ]
  go_wp2_with fail
  go_quiet (fail)
  go_wp2_with fail
  go_ret2
  exact ⟨ret_two (by rw [HF.out]) (by rw [HF.out]; rfl), by repeat (first | exact Below.refl _ _ | refine below_drewN ?_ _)⟩

set_option maxHeartbeats 1000000 in
theorem next_3_1b (s : ByteArray) (w : World) (hs : 0 < s.size) (hm : s.size ≤ 9223372036854775807) (x0 x1 x2 x3 : Int) (q0 : bt s.data.toList 0 = x0) (q1 : bt s.data.toList 1 = x1) (q2 : bt s.data.toList 2 = x2) (q3 : bt s.data.toList 3 = x3) (h2 : szOf x0 = 3) (hz : 1 < s.size) (hsec : inB (loOf x0) (hiOf x0) x1 = false) :
    Calls Try.prog 23 #[.string s] w fun e w' => e = .returned (.tuple #[.int .i64 (nx s.data.toList).1, .int .i64 (nx s.data.toList).2]) ∧ Below w.heap.size w w' := by
  have y0 : ((s[0]'hs).toNat : Int) = x0 := by rw [bt_get s 0 hs, q0]
  have r0 := bt_lt s.data.toList 0; rw [q0] at r0
  have y1 : ((s[1]'(by omega)).toNat : Int) = x1 := by rw [bt_get s 1 (by omega), q1]
  have r1 := bt_lt s.data.toList 1; rw [q1] at r1
  have hlI1 : (1 : Int) < (s.size : Int) := by omega
  have hd1 : decide ((s.size : Int) ≤ 1) = false := by simp; omega
  have hl : s.data.toList.length = s.size := rfl
  have hb0 : szOf x0 = 3 ∧ 224 ≤ x0 ∧ x0 ≤ 239 := by have := szOf_cases x0; omega
  replace hb0 := hb0.2
  have hse := not_sec_of _ _ _ q0 q1 (.inr hsec)
  have hf : nx s.data.toList = (65533, 1) := by unfold nx; rw [q0, h2]; simp [hse]
  have em := i64_and15 x0 (by omega) (by omega)
  have HF := Lib.hid hf; have H2 := Lib.hid h2; clear hf h2 q0 q1 q2 q3 hl hse
  go_enter Try.func23, Try.ntmps23
  go_wp2_with fail
  refine (size_any _ _ (by omega) (by omega)).mono ?_
  rintro e w1 ⟨rfl, rfl⟩
  rw [H2.out]
  go_wp2_with fail
  refine wp_loop_rounds 5 ?_; rw [rounds_succ]
  go_wp2_with fail
  go_quiet ((go_at_call 31; exact Calls.quiet_of_same (second_q _ _ false hsec _ (by omega) (by omega))))
  go_wp2_with fail
  go_ret2
  exact ⟨ret_two (by rw [HF.out]) (by rw [HF.out]; rfl), by repeat (first | exact Below.refl _ _ | refine below_drewN ?_ _)⟩

set_option maxHeartbeats 1000000 in
theorem next_3_2a (s : ByteArray) (w : World) (hs : 0 < s.size) (hm : s.size ≤ 9223372036854775807) (x0 x1 x2 x3 : Int) (q0 : bt s.data.toList 0 = x0) (q1 : bt s.data.toList 1 = x1) (q2 : bt s.data.toList 2 = x2) (q3 : bt s.data.toList 3 = x3) (h2 : szOf x0 = 3) (hz : 1 < s.size) (hsec : inB (loOf x0) (hiOf x0) x1 = true) (hz2 : s.size ≤ 2) :
    Calls Try.prog 23 #[.string s] w fun e w' => e = .returned (.tuple #[.int .i64 (nx s.data.toList).1, .int .i64 (nx s.data.toList).2]) ∧ Below w.heap.size w w' := by
  have y0 : ((s[0]'hs).toNat : Int) = x0 := by rw [bt_get s 0 hs, q0]
  have r0 := bt_lt s.data.toList 0; rw [q0] at r0
  have y1 : ((s[1]'(by omega)).toNat : Int) = x1 := by rw [bt_get s 1 (by omega), q1]
  have r1 := bt_lt s.data.toList 1; rw [q1] at r1
  have hlI1 : (1 : Int) < (s.size : Int) := by omega
  have hd1 : decide ((s.size : Int) ≤ 1) = false := by simp; omega
  have hl : s.data.toList.length = s.size := rfl
  have hb0 : szOf x0 = 3 ∧ 224 ≤ x0 ∧ x0 ≤ 239 := by have := szOf_cases x0; omega
  replace hb0 := hb0.2
  have hse := sec_of _ _ _ q0 q1 (by rw [hl]; omega) hsec
  have hcon2 : ¬ con s.data.toList 2 := by unfold con; rw [q2, hl]; omega
  have hf : nx s.data.toList = (65533, 2) := by unfold nx; rw [q0, h2]; simp [hse, hcon2]
  have hda : decide ((s.size : Int) ≤ 2) = true := by simp; omega
  have hc1 := inB_low _ _ hsec
  have em := i64_and15 x0 (by omega) (by omega)
  have ea1 := i64_and63 x1 (by omega) (by omega)
  have eo1 := i64_or6 ((x0 % 16) * 64) (x1 % 64) (by omega) (by omega) (by omega) (by omega) (by omega)
  have ez1 : 0 ≤ x0 % 16 * 64 + x1 % 64 ∧ x0 % 16 * 64 + x1 % 64 ≤ 16777215 := by omega
  have t1l : decide (x1 < 128) = false := by simp; omega
  have t1h : decide (191 < x1) = false := by simp; omega
  have HF := Lib.hid hf; have H2 := Lib.hid h2; clear hf h2 q0 q1 q2 q3 hl hse hcon2
  go_enter Try.func23, Try.ntmps23
  go_wp2_with fail
  refine (size_any _ _ (by omega) (by omega)).mono ?_
  rintro e w1 ⟨rfl, rfl⟩
  rw [H2.out]
  go_wp2_with fail
  refine wp_loop_rounds 5 ?_; rw [rounds_succ]
  go_wp2_with fail
  go_quiet ((go_at_call 31; exact Calls.quiet_of_same (second_q _ _ true hsec _ (by omega) (by omega))))
  go_wp2_with fail
  rw [rounds_succ]
  go_wp2_with fail
  go_quiet (fail)
  go_wp2_with fail
  go_ret2
  exact ⟨ret_two (by rw [HF.out]) (by rw [HF.out]; rfl), by repeat (first | exact Below.refl _ _ | refine below_drewN ?_ _)⟩

set_option maxHeartbeats 1000000 in
theorem next_3_2d (s : ByteArray) (w : World) (hs : 0 < s.size) (hm : s.size ≤ 9223372036854775807) (x0 x1 x2 x3 : Int) (q0 : bt s.data.toList 0 = x0) (q1 : bt s.data.toList 1 = x1) (q2 : bt s.data.toList 2 = x2) (q3 : bt s.data.toList 3 = x3) (h2 : szOf x0 = 3) (hz : 2 < s.size) (hsec : inB (loOf x0) (hiOf x0) x1 = true) (hd : x2 < 128) :
    Calls Try.prog 23 #[.string s] w fun e w' => e = .returned (.tuple #[.int .i64 (nx s.data.toList).1, .int .i64 (nx s.data.toList).2]) ∧ Below w.heap.size w w' := by
  have y0 : ((s[0]'hs).toNat : Int) = x0 := by rw [bt_get s 0 hs, q0]
  have r0 := bt_lt s.data.toList 0; rw [q0] at r0
  have y1 : ((s[1]'(by omega)).toNat : Int) = x1 := by rw [bt_get s 1 (by omega), q1]
  have r1 := bt_lt s.data.toList 1; rw [q1] at r1
  have hlI1 : (1 : Int) < (s.size : Int) := by omega
  have hd1 : decide ((s.size : Int) ≤ 1) = false := by simp; omega
  have y2 : ((s[2]'(by omega)).toNat : Int) = x2 := by rw [bt_get s 2 (by omega), q2]
  have r2 := bt_lt s.data.toList 2; rw [q2] at r2
  have hlI2 : (2 : Int) < (s.size : Int) := by omega
  have hd2 : decide ((s.size : Int) ≤ 2) = false := by simp; omega
  have hl : s.data.toList.length = s.size := rfl
  have hb0 : szOf x0 = 3 ∧ 224 ≤ x0 ∧ x0 ≤ 239 := by have := szOf_cases x0; omega
  replace hb0 := hb0.2
  have hse := sec_of _ _ _ q0 q1 (by rw [hl]; omega) hsec
  have hcon2 : ¬ con s.data.toList 2 := by unfold con; rw [q2, hl]; omega
  have hf : nx s.data.toList = (65533, 2) := by unfold nx; rw [q0, h2]; simp [hse, hcon2]
  have hc1 := inB_low _ _ hsec
  have em := i64_and15 x0 (by omega) (by omega)
  have ea1 := i64_and63 x1 (by omega) (by omega)
  have eo1 := i64_or6 ((x0 % 16) * 64) (x1 % 64) (by omega) (by omega) (by omega) (by omega) (by omega)
  have ez1 : 0 ≤ x0 % 16 * 64 + x1 % 64 ∧ x0 % 16 * 64 + x1 % 64 ≤ 16777215 := by omega
  have t1l : decide (x1 < 128) = false := by simp; omega
  have t1h : decide (191 < x1) = false := by simp; omega
  have tl : decide (x2 < 128) = true := by simp; omega
  have HF := Lib.hid hf; have H2 := Lib.hid h2; clear hf h2 q0 q1 q2 q3 hl hse hcon2
  go_enter Try.func23, Try.ntmps23
  go_wp2_with fail
  refine (size_any _ _ (by omega) (by omega)).mono ?_
  rintro e w1 ⟨rfl, rfl⟩
  rw [H2.out]
  go_wp2_with fail
  refine wp_loop_rounds 5 ?_; rw [rounds_succ]
  go_wp2_with fail
  go_quiet ((go_at_call 31; exact Calls.quiet_of_same (second_q _ _ true hsec _ (by omega) (by omega))))
  go_wp2_with fail
  rw [rounds_succ]
  go_wp2_with fail
  go_quiet (fail)
  go_wp2_with fail
  go_ret2
  exact ⟨ret_two (by rw [HF.out]) (by rw [HF.out]; rfl), by repeat (first | exact Below.refl _ _ | refine below_drewN ?_ _)⟩

set_option maxHeartbeats 1000000 in
theorem next_3_2e (s : ByteArray) (w : World) (hs : 0 < s.size) (hm : s.size ≤ 9223372036854775807) (x0 x1 x2 x3 : Int) (q0 : bt s.data.toList 0 = x0) (q1 : bt s.data.toList 1 = x1) (q2 : bt s.data.toList 2 = x2) (q3 : bt s.data.toList 3 = x3) (h2 : szOf x0 = 3) (hz : 2 < s.size) (hsec : inB (loOf x0) (hiOf x0) x1 = true) (hd : 191 < x2) :
    Calls Try.prog 23 #[.string s] w fun e w' => e = .returned (.tuple #[.int .i64 (nx s.data.toList).1, .int .i64 (nx s.data.toList).2]) ∧ Below w.heap.size w w' := by
  have y0 : ((s[0]'hs).toNat : Int) = x0 := by rw [bt_get s 0 hs, q0]
  have r0 := bt_lt s.data.toList 0; rw [q0] at r0
  have y1 : ((s[1]'(by omega)).toNat : Int) = x1 := by rw [bt_get s 1 (by omega), q1]
  have r1 := bt_lt s.data.toList 1; rw [q1] at r1
  have hlI1 : (1 : Int) < (s.size : Int) := by omega
  have hd1 : decide ((s.size : Int) ≤ 1) = false := by simp; omega
  have y2 : ((s[2]'(by omega)).toNat : Int) = x2 := by rw [bt_get s 2 (by omega), q2]
  have r2 := bt_lt s.data.toList 2; rw [q2] at r2
  have hlI2 : (2 : Int) < (s.size : Int) := by omega
  have hd2 : decide ((s.size : Int) ≤ 2) = false := by simp; omega
  have hl : s.data.toList.length = s.size := rfl
  have hb0 : szOf x0 = 3 ∧ 224 ≤ x0 ∧ x0 ≤ 239 := by have := szOf_cases x0; omega
  replace hb0 := hb0.2
  have hse := sec_of _ _ _ q0 q1 (by rw [hl]; omega) hsec
  have hcon2 : ¬ con s.data.toList 2 := by unfold con; rw [q2, hl]; omega
  have hf : nx s.data.toList = (65533, 2) := by unfold nx; rw [q0, h2]; simp [hse, hcon2]
  have hc1 := inB_low _ _ hsec
  have em := i64_and15 x0 (by omega) (by omega)
  have ea1 := i64_and63 x1 (by omega) (by omega)
  have eo1 := i64_or6 ((x0 % 16) * 64) (x1 % 64) (by omega) (by omega) (by omega) (by omega) (by omega)
  have ez1 : 0 ≤ x0 % 16 * 64 + x1 % 64 ∧ x0 % 16 * 64 + x1 % 64 ≤ 16777215 := by omega
  have t1l : decide (x1 < 128) = false := by simp; omega
  have t1h : decide (191 < x1) = false := by simp; omega
  have tl : decide (x2 < 128) = false := by simp; omega
  have th : decide (191 < x2) = true := by simp; omega
  have HF := Lib.hid hf; have H2 := Lib.hid h2; clear hf h2 q0 q1 q2 q3 hl hse hcon2
  go_enter Try.func23, Try.ntmps23
  go_wp2_with fail
  refine (size_any _ _ (by omega) (by omega)).mono ?_
  rintro e w1 ⟨rfl, rfl⟩
  rw [H2.out]
  go_wp2_with fail
  refine wp_loop_rounds 5 ?_; rw [rounds_succ]
  go_wp2_with fail
  go_quiet ((go_at_call 31; exact Calls.quiet_of_same (second_q _ _ true hsec _ (by omega) (by omega))))
  go_wp2_with fail
  rw [rounds_succ]
  go_wp2_with fail
  go_quiet (fail)
  go_wp2_with fail
  go_ret2
  exact ⟨ret_two (by rw [HF.out]) (by rw [HF.out]; rfl), by repeat (first | exact Below.refl _ _ | refine below_drewN ?_ _)⟩

set_option maxHeartbeats 1000000 in
theorem next_3_ok (s : ByteArray) (w : World) (hs : 0 < s.size) (hm : s.size ≤ 9223372036854775807) (x0 x1 x2 x3 : Int) (q0 : bt s.data.toList 0 = x0) (q1 : bt s.data.toList 1 = x1) (q2 : bt s.data.toList 2 = x2) (q3 : bt s.data.toList 3 = x3) (h2 : szOf x0 = 3) (hz : 2 < s.size) (hsec : inB (loOf x0) (hiOf x0) x1 = true) (hc2 : 128 ≤ x2 ∧ x2 ≤ 191) :
    Calls Try.prog 23 #[.string s] w fun e w' => e = .returned (.tuple #[.int .i64 (nx s.data.toList).1, .int .i64 (nx s.data.toList).2]) ∧ Below w.heap.size w w' := by
  have y0 : ((s[0]'hs).toNat : Int) = x0 := by rw [bt_get s 0 hs, q0]
  have r0 := bt_lt s.data.toList 0; rw [q0] at r0
  have y1 : ((s[1]'(by omega)).toNat : Int) = x1 := by rw [bt_get s 1 (by omega), q1]
  have r1 := bt_lt s.data.toList 1; rw [q1] at r1
  have hlI1 : (1 : Int) < (s.size : Int) := by omega
  have hd1 : decide ((s.size : Int) ≤ 1) = false := by simp; omega
  have y2 : ((s[2]'(by omega)).toNat : Int) = x2 := by rw [bt_get s 2 (by omega), q2]
  have r2 := bt_lt s.data.toList 2; rw [q2] at r2
  have hlI2 : (2 : Int) < (s.size : Int) := by omega
  have hd2 : decide ((s.size : Int) ≤ 2) = false := by simp; omega
  have hl : s.data.toList.length = s.size := rfl
  have hb0 : szOf x0 = 3 ∧ 224 ≤ x0 ∧ x0 ≤ 239 := by have := szOf_cases x0; omega
  replace hb0 := hb0.2
  have hse := sec_of _ _ _ q0 q1 (by rw [hl]; omega) hsec
  have hcon2 : con s.data.toList 2 := by unfold con; rw [q2, hl]; exact ⟨by omega, hc2⟩
  have hf : nx s.data.toList = ((x0 % 16 * 64 + x1 % 64) * 64 + x2 % 64, 3) := by unfold nx; rw [q0, q1, q2, h2]; simp [hse, hcon2]
  have hc1 := inB_low _ _ hsec
  have em := i64_and15 x0 (by omega) (by omega)
  have ea1 := i64_and63 x1 (by omega) (by omega)
  have eo1 := i64_or6 ((x0 % 16) * 64) (x1 % 64) (by omega) (by omega) (by omega) (by omega) (by omega)
  have ez1 : 0 ≤ x0 % 16 * 64 + x1 % 64 ∧ x0 % 16 * 64 + x1 % 64 ≤ 16777215 := by omega
  have ea2 := i64_and63 x2 (by omega) (by omega)
  have eo2 := i64_or6 ((x0 % 16 * 64 + x1 % 64) * 64) (x2 % 64) (by omega) (by omega) (by omega) (by omega) (by omega)
  have ez2 : 0 ≤ (x0 % 16 * 64 + x1 % 64) * 64 + x2 % 64 ∧ (x0 % 16 * 64 + x1 % 64) * 64 + x2 % 64 ≤ 16777215 := by omega
  have t1l : decide (x1 < 128) = false := by simp; omega
  have t1h : decide (191 < x1) = false := by simp; omega
  have t2l : decide (x2 < 128) = false := by simp; omega
  have t2h : decide (191 < x2) = false := by simp; omega
  have HF := Lib.hid hf; have H2 := Lib.hid h2; clear hf h2 q0 q1 q2 q3 hl hse hcon2
  go_enter Try.func23, Try.ntmps23
  go_wp2_with fail
  refine (size_any _ _ (by omega) (by omega)).mono ?_
  rintro e w1 ⟨rfl, rfl⟩
  rw [H2.out]
  go_wp2_with fail
  refine wp_loop_rounds 5 ?_; rw [rounds_succ]
  go_wp2_with fail
  go_quiet ((go_at_call 31; exact Calls.quiet_of_same (second_q _ _ true hsec _ (by omega) (by omega))))
  go_wp2_with fail
  rw [rounds_succ]
  go_wp2_with fail
  go_quiet (fail)
  go_wp2_with fail
  rw [rounds_succ]
  go_wp2_with fail
  go_ret2
  exact ⟨ret_two (by rw [HF.out]) (by rw [HF.out]; rfl), by repeat (first | exact Below.refl _ _ | refine below_drewN ?_ _)⟩

set_option maxHeartbeats 1000000 in
theorem next_4_1a (s : ByteArray) (w : World) (hs : 0 < s.size) (hm : s.size ≤ 9223372036854775807) (x0 x1 x2 x3 : Int) (q0 : bt s.data.toList 0 = x0) (q1 : bt s.data.toList 1 = x1) (q2 : bt s.data.toList 2 = x2) (q3 : bt s.data.toList 3 = x3) (h2 : szOf x0 = 4) (hz : s.size ≤ 1) :
    Calls Try.prog 23 #[.string s] w fun e w' => e = .returned (.tuple #[.int .i64 (nx s.data.toList).1, .int .i64 (nx s.data.toList).2]) ∧ Below w.heap.size w w' := by
  have y0 : ((s[0]'hs).toNat : Int) = x0 := by rw [bt_get s 0 hs, q0]
  have r0 := bt_lt s.data.toList 0; rw [q0] at r0
  have hl : s.data.toList.length = s.size := rfl
  have hb0 : szOf x0 = 4 ∧ 240 ≤ x0 ∧ x0 ≤ 244 := by have := szOf_cases x0; omega
  replace hb0 := hb0.2
  have hse := not_sec_of _ _ _ q0 q1 (.inl (by rw [hl]; exact hz))
  have hf : nx s.data.toList = (65533, 1) := by unfold nx; rw [q0, h2]; simp [hse]
  have hda : decide ((s.size : Int) ≤ 1) = true := by simp; omega
  have em := i64_and7 x0 (by omega) (by omega)
  have HF := Lib.hid hf; have H2 := Lib.hid h2; clear hf h2 q0 q1 q2 q3 hl hse
  go_enter Try.func23, Try.ntmps23
  go_wp2_with fail
  refine (size_any _ _ (by omega) (by omega)).mono ?_
  rintro e w1 ⟨rfl, rfl⟩
  rw [H2.out]
  go_wp2_with fail
  refine wp_loop_rounds 5 ?_; rw [rounds_succ]
  go_wp2_with fail
  go_quiet (fail)
  go_wp2_with fail
  go_ret2
  exact ⟨ret_two (by rw [HF.out]) (by rw [HF.out]; rfl), by repeat (first | exact Below.refl _ _ | refine below_drewN ?_ _)⟩

set_option maxHeartbeats 1000000 in
theorem next_4_1b (s : ByteArray) (w : World) (hs : 0 < s.size) (hm : s.size ≤ 9223372036854775807) (x0 x1 x2 x3 : Int) (q0 : bt s.data.toList 0 = x0) (q1 : bt s.data.toList 1 = x1) (q2 : bt s.data.toList 2 = x2) (q3 : bt s.data.toList 3 = x3) (h2 : szOf x0 = 4) (hz : 1 < s.size) (hsec : inB (loOf x0) (hiOf x0) x1 = false) :
    Calls Try.prog 23 #[.string s] w fun e w' => e = .returned (.tuple #[.int .i64 (nx s.data.toList).1, .int .i64 (nx s.data.toList).2]) ∧ Below w.heap.size w w' := by
  have y0 : ((s[0]'hs).toNat : Int) = x0 := by rw [bt_get s 0 hs, q0]
  have r0 := bt_lt s.data.toList 0; rw [q0] at r0
  have y1 : ((s[1]'(by omega)).toNat : Int) = x1 := by rw [bt_get s 1 (by omega), q1]
  have r1 := bt_lt s.data.toList 1; rw [q1] at r1
  have hlI1 : (1 : Int) < (s.size : Int) := by omega
  have hd1 : decide ((s.size : Int) ≤ 1) = false := by simp; omega
  have hl : s.data.toList.length = s.size := rfl
  have hb0 : szOf x0 = 4 ∧ 240 ≤ x0 ∧ x0 ≤ 244 := by have := szOf_cases x0; omega
  replace hb0 := hb0.2
  have hse := not_sec_of _ _ _ q0 q1 (.inr hsec)
  have hf : nx s.data.toList = (65533, 1) := by unfold nx; rw [q0, h2]; simp [hse]
  have em := i64_and7 x0 (by omega) (by omega)
  have HF := Lib.hid hf; have H2 := Lib.hid h2; clear hf h2 q0 q1 q2 q3 hl hse
  go_enter Try.func23, Try.ntmps23
  go_wp2_with fail
  refine (size_any _ _ (by omega) (by omega)).mono ?_
  rintro e w1 ⟨rfl, rfl⟩
  rw [H2.out]
  go_wp2_with fail
  refine wp_loop_rounds 5 ?_; rw [rounds_succ]
  go_wp2_with fail
  go_quiet ((go_at_call 31; exact Calls.quiet_of_same (second_q _ _ false hsec _ (by omega) (by omega))))
  go_wp2_with fail
  go_ret2
  exact ⟨ret_two (by rw [HF.out]) (by rw [HF.out]; rfl), by repeat (first | exact Below.refl _ _ | refine below_drewN ?_ _)⟩

set_option maxHeartbeats 1000000 in
theorem next_4_2a (s : ByteArray) (w : World) (hs : 0 < s.size) (hm : s.size ≤ 9223372036854775807) (x0 x1 x2 x3 : Int) (q0 : bt s.data.toList 0 = x0) (q1 : bt s.data.toList 1 = x1) (q2 : bt s.data.toList 2 = x2) (q3 : bt s.data.toList 3 = x3) (h2 : szOf x0 = 4) (hz : 1 < s.size) (hsec : inB (loOf x0) (hiOf x0) x1 = true) (hz2 : s.size ≤ 2) :
    Calls Try.prog 23 #[.string s] w fun e w' => e = .returned (.tuple #[.int .i64 (nx s.data.toList).1, .int .i64 (nx s.data.toList).2]) ∧ Below w.heap.size w w' := by
  have y0 : ((s[0]'hs).toNat : Int) = x0 := by rw [bt_get s 0 hs, q0]
  have r0 := bt_lt s.data.toList 0; rw [q0] at r0
  have y1 : ((s[1]'(by omega)).toNat : Int) = x1 := by rw [bt_get s 1 (by omega), q1]
  have r1 := bt_lt s.data.toList 1; rw [q1] at r1
  have hlI1 : (1 : Int) < (s.size : Int) := by omega
  have hd1 : decide ((s.size : Int) ≤ 1) = false := by simp; omega
  have hl : s.data.toList.length = s.size := rfl
  have hb0 : szOf x0 = 4 ∧ 240 ≤ x0 ∧ x0 ≤ 244 := by have := szOf_cases x0; omega
  replace hb0 := hb0.2
  have hse := sec_of _ _ _ q0 q1 (by rw [hl]; omega) hsec
  have hcon2 : ¬ con s.data.toList 2 := by unfold con; rw [q2, hl]; omega
  have hf : nx s.data.toList = (65533, 2) := by unfold nx; rw [q0, h2]; simp [hse, hcon2]
  have hda : decide ((s.size : Int) ≤ 2) = true := by simp; omega
  have hc1 := inB_low _ _ hsec
  have em := i64_and7 x0 (by omega) (by omega)
  have ea1 := i64_and63 x1 (by omega) (by omega)
  have eo1 := i64_or6 ((x0 % 8) * 64) (x1 % 64) (by omega) (by omega) (by omega) (by omega) (by omega)
  have ez1 : 0 ≤ x0 % 8 * 64 + x1 % 64 ∧ x0 % 8 * 64 + x1 % 64 ≤ 16777215 := by omega
  have t1l : decide (x1 < 128) = false := by simp; omega
  have t1h : decide (191 < x1) = false := by simp; omega
  have HF := Lib.hid hf; have H2 := Lib.hid h2; clear hf h2 q0 q1 q2 q3 hl hse hcon2
  go_enter Try.func23, Try.ntmps23
  go_wp2_with fail
  refine (size_any _ _ (by omega) (by omega)).mono ?_
  rintro e w1 ⟨rfl, rfl⟩
  rw [H2.out]
  go_wp2_with fail
  refine wp_loop_rounds 5 ?_; rw [rounds_succ]
  go_wp2_with fail
  go_quiet ((go_at_call 31; exact Calls.quiet_of_same (second_q _ _ true hsec _ (by omega) (by omega))))
  go_wp2_with fail
  rw [rounds_succ]
  go_wp2_with fail
  go_quiet (fail)
  go_wp2_with fail
  go_ret2
  exact ⟨ret_two (by rw [HF.out]) (by rw [HF.out]; rfl), by repeat (first | exact Below.refl _ _ | refine below_drewN ?_ _)⟩

set_option maxHeartbeats 1000000 in
theorem next_4_2d (s : ByteArray) (w : World) (hs : 0 < s.size) (hm : s.size ≤ 9223372036854775807) (x0 x1 x2 x3 : Int) (q0 : bt s.data.toList 0 = x0) (q1 : bt s.data.toList 1 = x1) (q2 : bt s.data.toList 2 = x2) (q3 : bt s.data.toList 3 = x3) (h2 : szOf x0 = 4) (hz : 2 < s.size) (hsec : inB (loOf x0) (hiOf x0) x1 = true) (hd : x2 < 128) :
    Calls Try.prog 23 #[.string s] w fun e w' => e = .returned (.tuple #[.int .i64 (nx s.data.toList).1, .int .i64 (nx s.data.toList).2]) ∧ Below w.heap.size w w' := by
  have y0 : ((s[0]'hs).toNat : Int) = x0 := by rw [bt_get s 0 hs, q0]
  have r0 := bt_lt s.data.toList 0; rw [q0] at r0
  have y1 : ((s[1]'(by omega)).toNat : Int) = x1 := by rw [bt_get s 1 (by omega), q1]
  have r1 := bt_lt s.data.toList 1; rw [q1] at r1
  have hlI1 : (1 : Int) < (s.size : Int) := by omega
  have hd1 : decide ((s.size : Int) ≤ 1) = false := by simp; omega
  have y2 : ((s[2]'(by omega)).toNat : Int) = x2 := by rw [bt_get s 2 (by omega), q2]
  have r2 := bt_lt s.data.toList 2; rw [q2] at r2
  have hlI2 : (2 : Int) < (s.size : Int) := by omega
  have hd2 : decide ((s.size : Int) ≤ 2) = false := by simp; omega
  have hl : s.data.toList.length = s.size := rfl
  have hb0 : szOf x0 = 4 ∧ 240 ≤ x0 ∧ x0 ≤ 244 := by have := szOf_cases x0; omega
  replace hb0 := hb0.2
  have hse := sec_of _ _ _ q0 q1 (by rw [hl]; omega) hsec
  have hcon2 : ¬ con s.data.toList 2 := by unfold con; rw [q2, hl]; omega
  have hf : nx s.data.toList = (65533, 2) := by unfold nx; rw [q0, h2]; simp [hse, hcon2]
  have hc1 := inB_low _ _ hsec
  have em := i64_and7 x0 (by omega) (by omega)
  have ea1 := i64_and63 x1 (by omega) (by omega)
  have eo1 := i64_or6 ((x0 % 8) * 64) (x1 % 64) (by omega) (by omega) (by omega) (by omega) (by omega)
  have ez1 : 0 ≤ x0 % 8 * 64 + x1 % 64 ∧ x0 % 8 * 64 + x1 % 64 ≤ 16777215 := by omega
  have t1l : decide (x1 < 128) = false := by simp; omega
  have t1h : decide (191 < x1) = false := by simp; omega
  have tl : decide (x2 < 128) = true := by simp; omega
  have HF := Lib.hid hf; have H2 := Lib.hid h2; clear hf h2 q0 q1 q2 q3 hl hse hcon2
  go_enter Try.func23, Try.ntmps23
  go_wp2_with fail
  refine (size_any _ _ (by omega) (by omega)).mono ?_
  rintro e w1 ⟨rfl, rfl⟩
  rw [H2.out]
  go_wp2_with fail
  refine wp_loop_rounds 5 ?_; rw [rounds_succ]
  go_wp2_with fail
  go_quiet ((go_at_call 31; exact Calls.quiet_of_same (second_q _ _ true hsec _ (by omega) (by omega))))
  go_wp2_with fail
  rw [rounds_succ]
  go_wp2_with fail
  go_quiet (fail)
  go_wp2_with fail
  go_ret2
  exact ⟨ret_two (by rw [HF.out]) (by rw [HF.out]; rfl), by repeat (first | exact Below.refl _ _ | refine below_drewN ?_ _)⟩

set_option maxHeartbeats 1000000 in
theorem next_4_2e (s : ByteArray) (w : World) (hs : 0 < s.size) (hm : s.size ≤ 9223372036854775807) (x0 x1 x2 x3 : Int) (q0 : bt s.data.toList 0 = x0) (q1 : bt s.data.toList 1 = x1) (q2 : bt s.data.toList 2 = x2) (q3 : bt s.data.toList 3 = x3) (h2 : szOf x0 = 4) (hz : 2 < s.size) (hsec : inB (loOf x0) (hiOf x0) x1 = true) (hd : 191 < x2) :
    Calls Try.prog 23 #[.string s] w fun e w' => e = .returned (.tuple #[.int .i64 (nx s.data.toList).1, .int .i64 (nx s.data.toList).2]) ∧ Below w.heap.size w w' := by
  have y0 : ((s[0]'hs).toNat : Int) = x0 := by rw [bt_get s 0 hs, q0]
  have r0 := bt_lt s.data.toList 0; rw [q0] at r0
  have y1 : ((s[1]'(by omega)).toNat : Int) = x1 := by rw [bt_get s 1 (by omega), q1]
  have r1 := bt_lt s.data.toList 1; rw [q1] at r1
  have hlI1 : (1 : Int) < (s.size : Int) := by omega
  have hd1 : decide ((s.size : Int) ≤ 1) = false := by simp; omega
  have y2 : ((s[2]'(by omega)).toNat : Int) = x2 := by rw [bt_get s 2 (by omega), q2]
  have r2 := bt_lt s.data.toList 2; rw [q2] at r2
  have hlI2 : (2 : Int) < (s.size : Int) := by omega
  have hd2 : decide ((s.size : Int) ≤ 2) = false := by simp; omega
  have hl : s.data.toList.length = s.size := rfl
  have hb0 : szOf x0 = 4 ∧ 240 ≤ x0 ∧ x0 ≤ 244 := by have := szOf_cases x0; omega
  replace hb0 := hb0.2
  have hse := sec_of _ _ _ q0 q1 (by rw [hl]; omega) hsec
  have hcon2 : ¬ con s.data.toList 2 := by unfold con; rw [q2, hl]; omega
  have hf : nx s.data.toList = (65533, 2) := by unfold nx; rw [q0, h2]; simp [hse, hcon2]
  have hc1 := inB_low _ _ hsec
  have em := i64_and7 x0 (by omega) (by omega)
  have ea1 := i64_and63 x1 (by omega) (by omega)
  have eo1 := i64_or6 ((x0 % 8) * 64) (x1 % 64) (by omega) (by omega) (by omega) (by omega) (by omega)
  have ez1 : 0 ≤ x0 % 8 * 64 + x1 % 64 ∧ x0 % 8 * 64 + x1 % 64 ≤ 16777215 := by omega
  have t1l : decide (x1 < 128) = false := by simp; omega
  have t1h : decide (191 < x1) = false := by simp; omega
  have tl : decide (x2 < 128) = false := by simp; omega
  have th : decide (191 < x2) = true := by simp; omega
  have HF := Lib.hid hf; have H2 := Lib.hid h2; clear hf h2 q0 q1 q2 q3 hl hse hcon2
  go_enter Try.func23, Try.ntmps23
  go_wp2_with fail
  refine (size_any _ _ (by omega) (by omega)).mono ?_
  rintro e w1 ⟨rfl, rfl⟩
  rw [H2.out]
  go_wp2_with fail
  refine wp_loop_rounds 5 ?_; rw [rounds_succ]
  go_wp2_with fail
  go_quiet ((go_at_call 31; exact Calls.quiet_of_same (second_q _ _ true hsec _ (by omega) (by omega))))
  go_wp2_with fail
  rw [rounds_succ]
  go_wp2_with fail
  go_quiet (fail)
  go_wp2_with fail
  go_ret2
  exact ⟨ret_two (by rw [HF.out]) (by rw [HF.out]; rfl), by repeat (first | exact Below.refl _ _ | refine below_drewN ?_ _)⟩

set_option maxHeartbeats 1000000 in
theorem next_4_3a (s : ByteArray) (w : World) (hs : 0 < s.size) (hm : s.size ≤ 9223372036854775807) (x0 x1 x2 x3 : Int) (q0 : bt s.data.toList 0 = x0) (q1 : bt s.data.toList 1 = x1) (q2 : bt s.data.toList 2 = x2) (q3 : bt s.data.toList 3 = x3) (h2 : szOf x0 = 4) (hz : 2 < s.size) (hsec : inB (loOf x0) (hiOf x0) x1 = true) (hc2 : 128 ≤ x2 ∧ x2 ≤ 191) (hz2 : s.size ≤ 3) :
    Calls Try.prog 23 #[.string s] w fun e w' => e = .returned (.tuple #[.int .i64 (nx s.data.toList).1, .int .i64 (nx s.data.toList).2]) ∧ Below w.heap.size w w' := by
  have y0 : ((s[0]'hs).toNat : Int) = x0 := by rw [bt_get s 0 hs, q0]
  have r0 := bt_lt s.data.toList 0; rw [q0] at r0
  have y1 : ((s[1]'(by omega)).toNat : Int) = x1 := by rw [bt_get s 1 (by omega), q1]
  have r1 := bt_lt s.data.toList 1; rw [q1] at r1
  have hlI1 : (1 : Int) < (s.size : Int) := by omega
  have hd1 : decide ((s.size : Int) ≤ 1) = false := by simp; omega
  have y2 : ((s[2]'(by omega)).toNat : Int) = x2 := by rw [bt_get s 2 (by omega), q2]
  have r2 := bt_lt s.data.toList 2; rw [q2] at r2
  have hlI2 : (2 : Int) < (s.size : Int) := by omega
  have hd2 : decide ((s.size : Int) ≤ 2) = false := by simp; omega
  have hl : s.data.toList.length = s.size := rfl
  have hb0 : szOf x0 = 4 ∧ 240 ≤ x0 ∧ x0 ≤ 244 := by have := szOf_cases x0; omega
  replace hb0 := hb0.2
  have hse := sec_of _ _ _ q0 q1 (by rw [hl]; omega) hsec
  have hcon2 : con s.data.toList 2 := by unfold con; rw [q2, hl]; exact ⟨by omega, hc2⟩
  have hcon3 : ¬ con s.data.toList 3 := by unfold con; rw [q3, hl]; omega
  have hf : nx s.data.toList = (65533, 3) := by unfold nx; rw [q0, h2]; simp [hse, hcon2, hcon3]
  have hda : decide ((s.size : Int) ≤ 3) = true := by simp; omega
  have hc1 := inB_low _ _ hsec
  have em := i64_and7 x0 (by omega) (by omega)
  have ea1 := i64_and63 x1 (by omega) (by omega)
  have eo1 := i64_or6 ((x0 % 8) * 64) (x1 % 64) (by omega) (by omega) (by omega) (by omega) (by omega)
  have ez1 : 0 ≤ x0 % 8 * 64 + x1 % 64 ∧ x0 % 8 * 64 + x1 % 64 ≤ 16777215 := by omega
  have ea2 := i64_and63 x2 (by omega) (by omega)
  have eo2 := i64_or6 ((x0 % 8 * 64 + x1 % 64) * 64) (x2 % 64) (by omega) (by omega) (by omega) (by omega) (by omega)
  have ez2 : 0 ≤ (x0 % 8 * 64 + x1 % 64) * 64 + x2 % 64 ∧ (x0 % 8 * 64 + x1 % 64) * 64 + x2 % 64 ≤ 16777215 := by omega
  have t1l : decide (x1 < 128) = false := by simp; omega
  have t1h : decide (191 < x1) = false := by simp; omega
  have t2l : decide (x2 < 128) = false := by simp; omega
  have t2h : decide (191 < x2) = false := by simp; omega
  have HF := Lib.hid hf; have H2 := Lib.hid h2; clear hf h2 q0 q1 q2 q3 hl hse hcon2 hcon3
  go_enter Try.func23, Try.ntmps23
  go_wp2_with fail
  refine (size_any _ _ (by omega) (by omega)).mono ?_
  rintro e w1 ⟨rfl, rfl⟩
  rw [H2.out]
  go_wp2_with fail
  refine wp_loop_rounds 5 ?_; rw [rounds_succ]
  go_wp2_with fail
  go_quiet ((go_at_call 31; exact Calls.quiet_of_same (second_q _ _ true hsec _ (by omega) (by omega))))
  go_wp2_with fail
  rw [rounds_succ]
  go_wp2_with fail
  go_quiet (fail)
  go_wp2_with fail
  rw [rounds_succ]
  go_wp2_with fail
  go_quiet (fail)
  go_wp2_with fail
  go_ret2
  exact ⟨ret_two (by rw [HF.out]) (by rw [HF.out]; rfl), by repeat (first | exact Below.refl _ _ | refine below_drewN ?_ _)⟩

set_option maxHeartbeats 1000000 in
theorem next_4_3d (s : ByteArray) (w : World) (hs : 0 < s.size) (hm : s.size ≤ 9223372036854775807) (x0 x1 x2 x3 : Int) (q0 : bt s.data.toList 0 = x0) (q1 : bt s.data.toList 1 = x1) (q2 : bt s.data.toList 2 = x2) (q3 : bt s.data.toList 3 = x3) (h2 : szOf x0 = 4) (hz : 3 < s.size) (hsec : inB (loOf x0) (hiOf x0) x1 = true) (hc2 : 128 ≤ x2 ∧ x2 ≤ 191) (hd : x3 < 128) :
    Calls Try.prog 23 #[.string s] w fun e w' => e = .returned (.tuple #[.int .i64 (nx s.data.toList).1, .int .i64 (nx s.data.toList).2]) ∧ Below w.heap.size w w' := by
  have y0 : ((s[0]'hs).toNat : Int) = x0 := by rw [bt_get s 0 hs, q0]
  have r0 := bt_lt s.data.toList 0; rw [q0] at r0
  have y1 : ((s[1]'(by omega)).toNat : Int) = x1 := by rw [bt_get s 1 (by omega), q1]
  have r1 := bt_lt s.data.toList 1; rw [q1] at r1
  have hlI1 : (1 : Int) < (s.size : Int) := by omega
  have hd1 : decide ((s.size : Int) ≤ 1) = false := by simp; omega
  have y2 : ((s[2]'(by omega)).toNat : Int) = x2 := by rw [bt_get s 2 (by omega), q2]
  have r2 := bt_lt s.data.toList 2; rw [q2] at r2
  have hlI2 : (2 : Int) < (s.size : Int) := by omega
  have hd2 : decide ((s.size : Int) ≤ 2) = false := by simp; omega
  have y3 : ((s[3]'(by omega)).toNat : Int) = x3 := by rw [bt_get s 3 (by omega), q3]
  have r3 := bt_lt s.data.toList 3; rw [q3] at r3
  have hlI3 : (3 : Int) < (s.size : Int) := by omega
  have hd3 : decide ((s.size : Int) ≤ 3) = false := by simp; omega
  have hl : s.data.toList.length = s.size := rfl
  have hb0 : szOf x0 = 4 ∧ 240 ≤ x0 ∧ x0 ≤ 244 := by have := szOf_cases x0; omega
  replace hb0 := hb0.2
  have hse := sec_of _ _ _ q0 q1 (by rw [hl]; omega) hsec
  have hcon2 : con s.data.toList 2 := by unfold con; rw [q2, hl]; exact ⟨by omega, hc2⟩
  have hcon3 : ¬ con s.data.toList 3 := by unfold con; rw [q3, hl]; omega
  have hf : nx s.data.toList = (65533, 3) := by unfold nx; rw [q0, h2]; simp [hse, hcon2, hcon3]
  have hc1 := inB_low _ _ hsec
  have em := i64_and7 x0 (by omega) (by omega)
  have ea1 := i64_and63 x1 (by omega) (by omega)
  have eo1 := i64_or6 ((x0 % 8) * 64) (x1 % 64) (by omega) (by omega) (by omega) (by omega) (by omega)
  have ez1 : 0 ≤ x0 % 8 * 64 + x1 % 64 ∧ x0 % 8 * 64 + x1 % 64 ≤ 16777215 := by omega
  have ea2 := i64_and63 x2 (by omega) (by omega)
  have eo2 := i64_or6 ((x0 % 8 * 64 + x1 % 64) * 64) (x2 % 64) (by omega) (by omega) (by omega) (by omega) (by omega)
  have ez2 : 0 ≤ (x0 % 8 * 64 + x1 % 64) * 64 + x2 % 64 ∧ (x0 % 8 * 64 + x1 % 64) * 64 + x2 % 64 ≤ 16777215 := by omega
  have t1l : decide (x1 < 128) = false := by simp; omega
  have t1h : decide (191 < x1) = false := by simp; omega
  have t2l : decide (x2 < 128) = false := by simp; omega
  have t2h : decide (191 < x2) = false := by simp; omega
  have tl : decide (x3 < 128) = true := by simp; omega
  have HF := Lib.hid hf; have H2 := Lib.hid h2; clear hf h2 q0 q1 q2 q3 hl hse hcon2 hcon3
  go_enter Try.func23, Try.ntmps23
  go_wp2_with fail
  refine (size_any _ _ (by omega) (by omega)).mono ?_
  rintro e w1 ⟨rfl, rfl⟩
  rw [H2.out]
  go_wp2_with fail
  refine wp_loop_rounds 5 ?_; rw [rounds_succ]
  go_wp2_with fail
  go_quiet ((go_at_call 31; exact Calls.quiet_of_same (second_q _ _ true hsec _ (by omega) (by omega))))
  go_wp2_with fail
  rw [rounds_succ]
  go_wp2_with fail
  go_quiet (fail)
  go_wp2_with fail
  rw [rounds_succ]
  go_wp2_with fail
  go_quiet (fail)
  go_wp2_with fail
  go_ret2
  exact ⟨ret_two (by rw [HF.out]) (by rw [HF.out]; rfl), by repeat (first | exact Below.refl _ _ | refine below_drewN ?_ _)⟩

set_option maxHeartbeats 1000000 in
theorem next_4_3e (s : ByteArray) (w : World) (hs : 0 < s.size) (hm : s.size ≤ 9223372036854775807) (x0 x1 x2 x3 : Int) (q0 : bt s.data.toList 0 = x0) (q1 : bt s.data.toList 1 = x1) (q2 : bt s.data.toList 2 = x2) (q3 : bt s.data.toList 3 = x3) (h2 : szOf x0 = 4) (hz : 3 < s.size) (hsec : inB (loOf x0) (hiOf x0) x1 = true) (hc2 : 128 ≤ x2 ∧ x2 ≤ 191) (hd : 191 < x3) :
    Calls Try.prog 23 #[.string s] w fun e w' => e = .returned (.tuple #[.int .i64 (nx s.data.toList).1, .int .i64 (nx s.data.toList).2]) ∧ Below w.heap.size w w' := by
  have y0 : ((s[0]'hs).toNat : Int) = x0 := by rw [bt_get s 0 hs, q0]
  have r0 := bt_lt s.data.toList 0; rw [q0] at r0
  have y1 : ((s[1]'(by omega)).toNat : Int) = x1 := by rw [bt_get s 1 (by omega), q1]
  have r1 := bt_lt s.data.toList 1; rw [q1] at r1
  have hlI1 : (1 : Int) < (s.size : Int) := by omega
  have hd1 : decide ((s.size : Int) ≤ 1) = false := by simp; omega
  have y2 : ((s[2]'(by omega)).toNat : Int) = x2 := by rw [bt_get s 2 (by omega), q2]
  have r2 := bt_lt s.data.toList 2; rw [q2] at r2
  have hlI2 : (2 : Int) < (s.size : Int) := by omega
  have hd2 : decide ((s.size : Int) ≤ 2) = false := by simp; omega
  have y3 : ((s[3]'(by omega)).toNat : Int) = x3 := by rw [bt_get s 3 (by omega), q3]
  have r3 := bt_lt s.data.toList 3; rw [q3] at r3
  have hlI3 : (3 : Int) < (s.size : Int) := by omega
  have hd3 : decide ((s.size : Int) ≤ 3) = false := by simp; omega
  have hl : s.data.toList.length = s.size := rfl
  have hb0 : szOf x0 = 4 ∧ 240 ≤ x0 ∧ x0 ≤ 244 := by have := szOf_cases x0; omega
  replace hb0 := hb0.2
  have hse := sec_of _ _ _ q0 q1 (by rw [hl]; omega) hsec
  have hcon2 : con s.data.toList 2 := by unfold con; rw [q2, hl]; exact ⟨by omega, hc2⟩
  have hcon3 : ¬ con s.data.toList 3 := by unfold con; rw [q3, hl]; omega
  have hf : nx s.data.toList = (65533, 3) := by unfold nx; rw [q0, h2]; simp [hse, hcon2, hcon3]
  have hc1 := inB_low _ _ hsec
  have em := i64_and7 x0 (by omega) (by omega)
  have ea1 := i64_and63 x1 (by omega) (by omega)
  have eo1 := i64_or6 ((x0 % 8) * 64) (x1 % 64) (by omega) (by omega) (by omega) (by omega) (by omega)
  have ez1 : 0 ≤ x0 % 8 * 64 + x1 % 64 ∧ x0 % 8 * 64 + x1 % 64 ≤ 16777215 := by omega
  have ea2 := i64_and63 x2 (by omega) (by omega)
  have eo2 := i64_or6 ((x0 % 8 * 64 + x1 % 64) * 64) (x2 % 64) (by omega) (by omega) (by omega) (by omega) (by omega)
  have ez2 : 0 ≤ (x0 % 8 * 64 + x1 % 64) * 64 + x2 % 64 ∧ (x0 % 8 * 64 + x1 % 64) * 64 + x2 % 64 ≤ 16777215 := by omega
  have t1l : decide (x1 < 128) = false := by simp; omega
  have t1h : decide (191 < x1) = false := by simp; omega
  have t2l : decide (x2 < 128) = false := by simp; omega
  have t2h : decide (191 < x2) = false := by simp; omega
  have tl : decide (x3 < 128) = false := by simp; omega
  have th : decide (191 < x3) = true := by simp; omega
  have HF := Lib.hid hf; have H2 := Lib.hid h2; clear hf h2 q0 q1 q2 q3 hl hse hcon2 hcon3
  go_enter Try.func23, Try.ntmps23
  go_wp2_with fail
  refine (size_any _ _ (by omega) (by omega)).mono ?_
  rintro e w1 ⟨rfl, rfl⟩
  rw [H2.out]
  go_wp2_with fail
  refine wp_loop_rounds 5 ?_; rw [rounds_succ]
  go_wp2_with fail
  go_quiet ((go_at_call 31; exact Calls.quiet_of_same (second_q _ _ true hsec _ (by omega) (by omega))))
  go_wp2_with fail
  rw [rounds_succ]
  go_wp2_with fail
  go_quiet (fail)
  go_wp2_with fail
  rw [rounds_succ]
  go_wp2_with fail
  go_quiet (fail)
  go_wp2_with fail
  go_ret2
  exact ⟨ret_two (by rw [HF.out]) (by rw [HF.out]; rfl), by repeat (first | exact Below.refl _ _ | refine below_drewN ?_ _)⟩

set_option maxHeartbeats 1000000 in
theorem next_4_ok (s : ByteArray) (w : World) (hs : 0 < s.size) (hm : s.size ≤ 9223372036854775807) (x0 x1 x2 x3 : Int) (q0 : bt s.data.toList 0 = x0) (q1 : bt s.data.toList 1 = x1) (q2 : bt s.data.toList 2 = x2) (q3 : bt s.data.toList 3 = x3) (h2 : szOf x0 = 4) (hz : 3 < s.size) (hsec : inB (loOf x0) (hiOf x0) x1 = true) (hc2 : 128 ≤ x2 ∧ x2 ≤ 191) (hc3 : 128 ≤ x3 ∧ x3 ≤ 191) :
    Calls Try.prog 23 #[.string s] w fun e w' => e = .returned (.tuple #[.int .i64 (nx s.data.toList).1, .int .i64 (nx s.data.toList).2]) ∧ Below w.heap.size w w' := by
  have y0 : ((s[0]'hs).toNat : Int) = x0 := by rw [bt_get s 0 hs, q0]
  have r0 := bt_lt s.data.toList 0; rw [q0] at r0
  have y1 : ((s[1]'(by omega)).toNat : Int) = x1 := by rw [bt_get s 1 (by omega), q1]
  have r1 := bt_lt s.data.toList 1; rw [q1] at r1
  have hlI1 : (1 : Int) < (s.size : Int) := by omega
  have hd1 : decide ((s.size : Int) ≤ 1) = false := by simp; omega
  have y2 : ((s[2]'(by omega)).toNat : Int) = x2 := by rw [bt_get s 2 (by omega), q2]
  have r2 := bt_lt s.data.toList 2; rw [q2] at r2
  have hlI2 : (2 : Int) < (s.size : Int) := by omega
  have hd2 : decide ((s.size : Int) ≤ 2) = false := by simp; omega
  have y3 : ((s[3]'(by omega)).toNat : Int) = x3 := by rw [bt_get s 3 (by omega), q3]
  have r3 := bt_lt s.data.toList 3; rw [q3] at r3
  have hlI3 : (3 : Int) < (s.size : Int) := by omega
  have hd3 : decide ((s.size : Int) ≤ 3) = false := by simp; omega
  have hl : s.data.toList.length = s.size := rfl
  have hb0 : szOf x0 = 4 ∧ 240 ≤ x0 ∧ x0 ≤ 244 := by have := szOf_cases x0; omega
  replace hb0 := hb0.2
  have hse := sec_of _ _ _ q0 q1 (by rw [hl]; omega) hsec
  have hcon2 : con s.data.toList 2 := by unfold con; rw [q2, hl]; exact ⟨by omega, hc2⟩
  have hcon3 : con s.data.toList 3 := by unfold con; rw [q3, hl]; exact ⟨by omega, hc3⟩
  have hf : nx s.data.toList = (((x0 % 8 * 64 + x1 % 64) * 64 + x2 % 64) * 64 + x3 % 64, 4) := by unfold nx; rw [q0, q1, q2, q3, h2]; simp [hse, hcon2, hcon3]
  have hc1 := inB_low _ _ hsec
  have em := i64_and7 x0 (by omega) (by omega)
  have ea1 := i64_and63 x1 (by omega) (by omega)
  have eo1 := i64_or6 ((x0 % 8) * 64) (x1 % 64) (by omega) (by omega) (by omega) (by omega) (by omega)
  have ez1 : 0 ≤ x0 % 8 * 64 + x1 % 64 ∧ x0 % 8 * 64 + x1 % 64 ≤ 16777215 := by omega
  have ea2 := i64_and63 x2 (by omega) (by omega)
  have eo2 := i64_or6 ((x0 % 8 * 64 + x1 % 64) * 64) (x2 % 64) (by omega) (by omega) (by omega) (by omega) (by omega)
  have ez2 : 0 ≤ (x0 % 8 * 64 + x1 % 64) * 64 + x2 % 64 ∧ (x0 % 8 * 64 + x1 % 64) * 64 + x2 % 64 ≤ 16777215 := by omega
  have ea3 := i64_and63 x3 (by omega) (by omega)
  have eo3 := i64_or6 (((x0 % 8 * 64 + x1 % 64) * 64 + x2 % 64) * 64) (x3 % 64) (by omega) (by omega) (by omega) (by omega) (by omega)
  have ez3 : 0 ≤ ((x0 % 8 * 64 + x1 % 64) * 64 + x2 % 64) * 64 + x3 % 64 ∧ ((x0 % 8 * 64 + x1 % 64) * 64 + x2 % 64) * 64 + x3 % 64 ≤ 16777215 := by omega
  have t1l : decide (x1 < 128) = false := by simp; omega
  have t1h : decide (191 < x1) = false := by simp; omega
  have t2l : decide (x2 < 128) = false := by simp; omega
  have t2h : decide (191 < x2) = false := by simp; omega
  have t3l : decide (x3 < 128) = false := by simp; omega
  have t3h : decide (191 < x3) = false := by simp; omega
  have HF := Lib.hid hf; have H2 := Lib.hid h2; clear hf h2 q0 q1 q2 q3 hl hse hcon2 hcon3
  go_enter Try.func23, Try.ntmps23
  go_wp2_with fail
  refine (size_any _ _ (by omega) (by omega)).mono ?_
  rintro e w1 ⟨rfl, rfl⟩
  rw [H2.out]
  go_wp2_with fail
  refine wp_loop_rounds 5 ?_; rw [rounds_succ]
  go_wp2_with fail
  go_quiet ((go_at_call 31; exact Calls.quiet_of_same (second_q _ _ true hsec _ (by omega) (by omega))))
  go_wp2_with fail
  rw [rounds_succ]
  go_wp2_with fail
  go_quiet (fail)
  go_wp2_with fail
  rw [rounds_succ]
  go_wp2_with fail
  go_quiet (fail)
  go_wp2_with fail
  rw [rounds_succ]
  go_wp2_with fail
  go_ret2
  exact ⟨ret_two (by rw [HF.out]) (by rw [HF.out]; rfl), by repeat (first | exact Below.refl _ _ | refine below_drewN ?_ _)⟩

theorem next_any (s : ByteArray) (w : World) (hs : 0 < s.size) (hm : s.size ≤ 9223372036854775807) :
    Calls Try.prog 23 #[.string s] w fun e w' => e = .returned (.tuple #[.int .i64 (nx s.data.toList).1, .int .i64 (nx s.data.toList).2]) ∧ Below w.heap.size w w' := by
  have r2 := bt_lt s.data.toList 2; have r3 := bt_lt s.data.toList 3
  have H := szOf_cases (bt s.data.toList 0)
  have hn : szOf (bt s.data.toList 0) = 0 ∨ szOf (bt s.data.toList 0) = 1 ∨ szOf (bt s.data.toList 0) = 2 ∨ szOf (bt s.data.toList 0) = 3 ∨ szOf (bt s.data.toList 0) = 4 := by omega
  clear H
  rcases hn with h | h | h | h | h
  · exact next_0 s w hs hm _ _ _ _ rfl rfl rfl rfl h
  · exact next_1 s w hs hm _ _ _ _ rfl rfl rfl rfl h
  · by_cases z1 : 1 < s.size
    · cases hsec : inB (loOf (bt s.data.toList 0)) (hiOf (bt s.data.toList 0)) (bt s.data.toList 1)
      · exact next_2_1b s w hs hm _ _ _ _ rfl rfl rfl rfl h z1 hsec
      · exact next_2_ok s w hs hm _ _ _ _ rfl rfl rfl rfl h z1 hsec
    · exact next_2_1a s w hs hm _ _ _ _ rfl rfl rfl rfl h (by omega)
  · by_cases z1 : 1 < s.size
    · cases hsec : inB (loOf (bt s.data.toList 0)) (hiOf (bt s.data.toList 0)) (bt s.data.toList 1)
      · exact next_3_1b s w hs hm _ _ _ _ rfl rfl rfl rfl h z1 hsec
      · by_cases z2 : 2 < s.size
        · by_cases l2 : bt s.data.toList 2 < 128
          · exact next_3_2d s w hs hm _ _ _ _ rfl rfl rfl rfl h z2 hsec l2
          · by_cases h2 : 191 < bt s.data.toList 2
            · exact next_3_2e s w hs hm _ _ _ _ rfl rfl rfl rfl h z2 hsec h2
            · exact next_3_ok s w hs hm _ _ _ _ rfl rfl rfl rfl h z2 hsec ⟨by omega, by omega⟩
        · exact next_3_2a s w hs hm _ _ _ _ rfl rfl rfl rfl h z1 hsec (by omega)
    · exact next_3_1a s w hs hm _ _ _ _ rfl rfl rfl rfl h (by omega)
  · by_cases z1 : 1 < s.size
    · cases hsec : inB (loOf (bt s.data.toList 0)) (hiOf (bt s.data.toList 0)) (bt s.data.toList 1)
      · exact next_4_1b s w hs hm _ _ _ _ rfl rfl rfl rfl h z1 hsec
      · by_cases z2 : 2 < s.size
        · by_cases l2 : bt s.data.toList 2 < 128
          · exact next_4_2d s w hs hm _ _ _ _ rfl rfl rfl rfl h z2 hsec l2
          · by_cases h2 : 191 < bt s.data.toList 2
            · exact next_4_2e s w hs hm _ _ _ _ rfl rfl rfl rfl h z2 hsec h2
            · by_cases z3 : 3 < s.size
              · by_cases l3 : bt s.data.toList 3 < 128
                · exact next_4_3d s w hs hm _ _ _ _ rfl rfl rfl rfl h z3 hsec ⟨by omega, by omega⟩ l3
                · by_cases h3 : 191 < bt s.data.toList 3
                  · exact next_4_3e s w hs hm _ _ _ _ rfl rfl rfl rfl h z3 hsec ⟨by omega, by omega⟩ h3
                  · exact next_4_ok s w hs hm _ _ _ _ rfl rfl rfl rfl h z3 hsec ⟨by omega, by omega⟩ ⟨by omega, by omega⟩
              · exact next_4_3a s w hs hm _ _ _ _ rfl rfl rfl rfl h z2 hsec ⟨by omega, by omega⟩ (by omega)
        · exact next_4_2a s w hs hm _ _ _ _ rfl rfl rfl rfl h z1 hsec (by omega)
    · exact next_4_1a s w hs hm _ _ _ _ rfl rfl rfl rfl h (by omega)

end Go.Proofs.Ytcdenblejfmkaaa
