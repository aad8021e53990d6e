/- Bits of an int: masks and joins. Contract of the document's own next: the scalar that begins a row, and how many bytes it has. Plain mathematics of whole rows of bytes, of no program: cut into scalars and offsets; what was encoded is decoded as it was; rows one behind the other. Contract of the document's own Decode. Contract of utf.Decode: it tells what the document says, whatever the bytes. Contract of utf.Decode: the walk. -/
import Derived.Test.YtacgakkcpmhgmaaProg
import Derived.Laws.BitsLemmas
import Derived.Test.YtacgakkcpmhgmaaVUtfP
import Derived.Test.YtacgakkcpmhgmaaVApart
import Derived.Lib.OthersKept
set_option linter.unusedVariables false
set_option linter.unusedSimpArgs false
set_option maxHeartbeats 2000000
namespace Go.Proofs.Ytacgakkcpmhgmaa
open Go
theorem wraps_i64 (n : Int) (h₀ : 0 <= n) (h₁ : n < 2 ^ 63) : IntKind.i64.wrap n = n := by rw [IntKind.wrap_i64]; omega
section
variable (x y : Int)
theorem i64_and63 (h₀ : 0 <= x) (h₁ : x < 9223372036854775808) : bits .and .i64 x 63 = x % 64 := bits_mask .i64 63 (by decide) wraps_i64 6 (by decide) x h₀ h₁
theorem i64_and31 (h₀ : 0 <= x) (h₁ : x < 9223372036854775808) : bits .and .i64 x 31 = x % 32 := bits_mask .i64 63 (by decide) wraps_i64 5 (by decide) x h₀ h₁
theorem i64_and15 (h₀ : 0 <= x) (h₁ : x < 9223372036854775808) : bits .and .i64 x 15 = x % 16 := bits_mask .i64 63 (by decide) wraps_i64 4 (by decide) x h₀ h₁
theorem i64_and7 (h₀ : 0 <= x) (h₁ : x < 9223372036854775808) : bits .and .i64 x 7 = x % 8 := bits_mask .i64 63 (by decide) wraps_i64 3 (by decide) x h₀ h₁
theorem i64_or6 (hx₀ : 0 <= x) (hx : x % 64 = 0) (hx₁ : x < 9223372036854775808) (h₀ : 0 <= y) (h₁ : y < 64) : bits .or .i64 x y = x + y :=
 bits_join .i64 63 (by decide) wraps_i64 6 x y hx₀ hx hx₁ h₀ h₁ (by omega)
theorem i64_or128 (h₀ : 0 <= y) (h₁ : y < 64) : bits .or .i64 128 y = 128 + y :=
 bits_join .i64 63 (by decide) wraps_i64 6 128 y (by decide) (by decide) (by decide) h₀ h₁ (by omega)
theorem i64_or192 (h₀ : 0 <= y) (h₁ : y < 32) : bits .or .i64 192 y = 192 + y :=
 bits_join .i64 63 (by decide) wraps_i64 5 192 y (by decide) (by decide) (by decide) h₀ h₁ (by omega)
theorem i64_or224 (h₀ : 0 <= y) (h₁ : y < 16) : bits .or .i64 224 y = 224 + y :=
 bits_join .i64 63 (by decide) wraps_i64 4 224 y (by decide) (by decide) (by decide) h₀ h₁ (by omega)
theorem i64_or240 (h₀ : 0 <= y) (h₁ : y < 8) : bits .or .i64 240 y = 240 + y :=
 bits_join .i64 63 (by decide) wraps_i64 3 240 y (by decide) (by decide) (by decide) h₀ h₁ (by omega)
end
end Go.Proofs.Ytacgakkcpmhgmaa
namespace Go.Proofs.Ytacgakkcpmhgmaa
open Go.RowKit
theorem second_q (f c : Int) (B : Bool) (hB : uinB (loOf f) (hiOf f) c = B) (w : World) (h0 : 0 <= c) (h1 : c < 256) :
  Calls Try.prog 68 #[.int .u8 f, .int .u8 c] w fun e w' => e = .returned (.bool B) /\ w' = w :=
  (second_any f c w h0 h1).mono fun _ _ ⟨h, k⟩ => ⟨by rw [h, hB], k.symm⟩
theorem inB_low (f c : Int) (h : uinB (loOf f) (hiOf f) c = true) : 128 <= c /\ c <= 191 := by
 rw [uinB_iff] at h
 have := loOf_cases f
 omega
theorem ret_two {a b c d : Int} (h1 : a = c) (h2 : b = d) : Ending.returned (.tuple #[.int .i64 a, .int .i64 b]) = .returned (.tuple #[.int .i64 c, .int .i64 d]) := by rw [h1, h2]
theorem sec_of (l : List UInt8) (x0 x1 : Int) (h0 : bt l 0 = x0) (h1 : bt l 1 = x1) (hl : 1 < l.length) (h : uinB (loOf x0) (hiOf x0) x1 = true) : sec l := by
 rw [uinB_iff] at h; unfold sec; rw [h0, h1]; exact ⟨hl, h⟩
theorem not_sec_of (l : List UInt8) (x0 x1 : Int) (h0 : bt l 0 = x0) (h1 : bt l 1 = x1) (h : l.length <= 1 \/ uinB (loOf x0) (hiOf x0) x1 = false) : ¬ sec l := by
 unfold sec; rw [h0, h1]
 rcases h with h | h
 ·omega
 ·intro hh
  have := (uinB_iff (loOf x0) (hiOf x0) x1).2 hh.2
  rw [h] at this; cases this
theorem next_0 (s : ByteArray) (w : World) (hs : 0 < s.size) (hm : s.size <= 9223372036854775807) (x0 x1 x2 x3 : Int) (q0 : bt s.data.toList 0 = x0) (q1 : bt s.data.toList 1 = x1) (q2 : bt s.data.toList 2 = x2) (q3 : bt s.data.toList 3 = x3) (h2 : szOf x0 = 0) :
  Calls Try.prog 50 #[.string s] w fun e w' => e = .returned (.tuple #[.int .i64 (nx s.data.toList).1, .int .i64 (nx s.data.toList).2]) /\ Below w.heap.size w w' := by
  have y0 : ((s[0]'hs).toNat : Int) = x0 := by rw [bt_get s 0 hs, q0]
  have r0 := bt_lt s.data.toList 0; rw [q0] at r0
  have hf : nx s.data.toList = (65533, 1) := by unfold nx; rw [q0, h2]; simp
  have HF := Lib.hid hf; have H2 := Lib.hid h2; clear hf h2 q0 q1 q2 q3
  go_enter Try.func50, Try.ntmps50
  go_wp2_with fail
  refine (size_any _ _ (by omega) (by omega)).mono ?_
  rintro e w1 ⟨rfl, rfl⟩
  rw [H2.out]
  go_wp2_with fail
  go_ret2
  exact ⟨ret_two (by rw [HF.out]) (by rw [HF.out]; rfl), by repeat (first | exact Below.refl _ _ | refine ubelow_drewN ?_ _)⟩
theorem next_1 (s : ByteArray) (w : World) (hs : 0 < s.size) (hm : s.size <= 9223372036854775807) (x0 x1 x2 x3 : Int) (q0 : bt s.data.toList 0 = x0) (q1 : bt s.data.toList 1 = x1) (q2 : bt s.data.toList 2 = x2) (q3 : bt s.data.toList 3 = x3) (h2 : szOf x0 = 1) :
  Calls Try.prog 50 #[.string s] w fun e w' => e = .returned (.tuple #[.int .i64 (nx s.data.toList).1, .int .i64 (nx s.data.toList).2]) /\ Below w.heap.size w w' := by
  have y0 : ((s[0]'hs).toNat : Int) = x0 := by rw [bt_get s 0 hs, q0]
  have r0 := bt_lt s.data.toList 0; rw [q0] at r0
  have hf : nx s.data.toList = (x0, 1) := by unfold nx; rw [q0, h2]; simp
  have HF := Lib.hid hf; have H2 := Lib.hid h2; clear hf h2 q0 q1 q2 q3
  go_enter Try.func50, Try.ntmps50
  go_wp2_with fail
  refine (size_any _ _ (by omega) (by omega)).mono ?_
  rintro e w1 ⟨rfl, rfl⟩
  rw [H2.out]
  go_wp2_with fail
  go_ret2
  exact ⟨ret_two (by rw [HF.out]) (by rw [HF.out]; rfl), by repeat (first | exact Below.refl _ _ | refine ubelow_drewN ?_ _)⟩
theorem next_2_1a (s : ByteArray) (w : World) (hs : 0 < s.size) (hm : s.size <= 9223372036854775807) (x0 x1 x2 x3 : Int) (q0 : bt s.data.toList 0 = x0) (q1 : bt s.data.toList 1 = x1) (q2 : bt s.data.toList 2 = x2) (q3 : bt s.data.toList 3 = x3) (h2 : szOf x0 = 2) (hz : s.size <= 1) :
  Calls Try.prog 50 #[.string s] w fun e w' => e = .returned (.tuple #[.int .i64 (nx s.data.toList).1, .int .i64 (nx s.data.toList).2]) /\ Below w.heap.size w w' := by
  have y0 : ((s[0]'hs).toNat : Int) = x0 := by rw [bt_get s 0 hs, q0]
  have r0 := bt_lt s.data.toList 0; rw [q0] at r0
  have hl : s.data.toList.length = s.size := rfl
  have hb0 : szOf x0 = 2 /\ 194 <= x0 /\ x0 <= 223 := by have := szOf_cases x0; omega
  replace hb0 := hb0.2
  have hse := not_sec_of _ _ _ q0 q1 (.inl (by rw [hl]; exact hz))
  have hf : nx s.data.toList = (65533, 1) := by unfold nx; rw [q0, h2]; simp [hse]
  have hda : decide ((s.size : Int) <= 1) = true := by simp; omega
  have em := i64_and31 x0 (by omega) (by omega)
  have HF := Lib.hid hf; have H2 := Lib.hid h2; clear hf h2 q0 q1 q2 q3 hl hse
  go_enter Try.func50, Try.ntmps50
  go_wp2_with fail
  refine (size_any _ _ (by omega) (by omega)).mono ?_
  rintro e w1 ⟨rfl, rfl⟩
  rw [H2.out]
  go_wp2_with fail
  refine wp_loop_rounds 5 ?_; rw [rounds_succ]
  go_wp2_with fail
  go_quiet (fail)
  go_wp2_with fail
  go_ret2
  exact ⟨ret_two (by rw [HF.out]) (by rw [HF.out]; rfl), by repeat (first | exact Below.refl _ _ | refine ubelow_drewN ?_ _)⟩
theorem next_2_1b (s : ByteArray) (w : World) (hs : 0 < s.size) (hm : s.size <= 9223372036854775807) (x0 x1 x2 x3 : Int) (q0 : bt s.data.toList 0 = x0) (q1 : bt s.data.toList 1 = x1) (q2 : bt s.data.toList 2 = x2) (q3 : bt s.data.toList 3 = x3) (h2 : szOf x0 = 2) (hz : 1 < s.size) (hsec : uinB (loOf x0) (hiOf x0) x1 = false) :
  Calls Try.prog 50 #[.string s] w fun e w' => e = .returned (.tuple #[.int .i64 (nx s.data.toList).1, .int .i64 (nx s.data.toList).2]) /\ Below w.heap.size w w' := by
  have y0 : ((s[0]'hs).toNat : Int) = x0 := by rw [bt_get s 0 hs, q0]
  have r0 := bt_lt s.data.toList 0; rw [q0] at r0
  have y1 : ((s[1]'(by omega)).toNat : Int) = x1 := by rw [bt_get s 1 (by omega), q1]
  have r1 := bt_lt s.data.toList 1; rw [q1] at r1
  have hlI1 : (1 : Int) < (s.size : Int) := by omega
  have hd1 : decide ((s.size : Int) <= 1) = false := by simp; omega
  have hl : s.data.toList.length = s.size := rfl
  have hb0 : szOf x0 = 2 /\ 194 <= x0 /\ x0 <= 223 := by have := szOf_cases x0; omega
  replace hb0 := hb0.2
  have hse := not_sec_of _ _ _ q0 q1 (.inr hsec)
  have hf : nx s.data.toList = (65533, 1) := by unfold nx; rw [q0, h2]; simp [hse]
  have em := i64_and31 x0 (by omega) (by omega)
  have HF := Lib.hid hf; have H2 := Lib.hid h2; clear hf h2 q0 q1 q2 q3 hl hse
  go_enter Try.func50, Try.ntmps50
  go_wp2_with fail
  refine (size_any _ _ (by omega) (by omega)).mono ?_
  rintro e w1 ⟨rfl, rfl⟩
  rw [H2.out]
  go_wp2_with fail
  refine wp_loop_rounds 5 ?_; rw [rounds_succ]
  go_wp2_with fail
  go_quiet ((go_at_call 68; exact Calls.quiet_of_same (second_q _ _ false hsec _ (by omega) (by omega))))
  go_wp2_with fail
  go_ret2
  exact ⟨ret_two (by rw [HF.out]) (by rw [HF.out]; rfl), by repeat (first | exact Below.refl _ _ | refine ubelow_drewN ?_ _)⟩
theorem next_2_ok (s : ByteArray) (w : World) (hs : 0 < s.size) (hm : s.size <= 9223372036854775807) (x0 x1 x2 x3 : Int) (q0 : bt s.data.toList 0 = x0) (q1 : bt s.data.toList 1 = x1) (q2 : bt s.data.toList 2 = x2) (q3 : bt s.data.toList 3 = x3) (h2 : szOf x0 = 2) (hz : 1 < s.size) (hsec : uinB (loOf x0) (hiOf x0) x1 = true) :
  Calls Try.prog 50 #[.string s] w fun e w' => e = .returned (.tuple #[.int .i64 (nx s.data.toList).1, .int .i64 (nx s.data.toList).2]) /\ Below w.heap.size w w' := by
  have y0 : ((s[0]'hs).toNat : Int) = x0 := by rw [bt_get s 0 hs, q0]
  have r0 := bt_lt s.data.toList 0; rw [q0] at r0
  have y1 : ((s[1]'(by omega)).toNat : Int) = x1 := by rw [bt_get s 1 (by omega), q1]
  have r1 := bt_lt s.data.toList 1; rw [q1] at r1
  have hlI1 : (1 : Int) < (s.size : Int) := by omega
  have hd1 : decide ((s.size : Int) <= 1) = false := by simp; omega
  have hl : s.data.toList.length = s.size := rfl
  have hb0 : szOf x0 = 2 /\ 194 <= x0 /\ x0 <= 223 := by have := szOf_cases x0; omega
  replace hb0 := hb0.2
  have hse := sec_of _ _ _ q0 q1 (by rw [hl]; omega) hsec
  have hf : nx s.data.toList = (x0 % 32 * 64 + x1 % 64, 2) := by unfold nx; rw [q0, q1, h2]; simp [hse]
  have hc1 := inB_low _ _ hsec
  have em := i64_and31 x0 (by omega) (by omega)
  have ea1 := i64_and63 x1 (by omega) (by omega)
  have eo1 := i64_or6 ((x0 % 32) * 64) (x1 % 64) (by omega) (by omega) (by omega) (by omega) (by omega)
  have ez1 : 0 <= x0 % 32 * 64 + x1 % 64 /\ x0 % 32 * 64 + x1 % 64 <= 16777215 := by omega
  have t1l : decide (x1 < 128) = false := by simp; omega
  have t1h : decide (191 < x1) = false := by simp; omega
  have HF := Lib.hid hf; have H2 := Lib.hid h2; clear hf h2 q0 q1 q2 q3 hl hse
  go_enter Try.func50, Try.ntmps50
  go_wp2_with fail
  refine (size_any _ _ (by omega) (by omega)).mono ?_
  rintro e w1 ⟨rfl, rfl⟩
  rw [H2.out]
  go_wp2_with fail
  refine wp_loop_rounds 5 ?_; rw [rounds_succ]
  go_wp2_with fail
  go_quiet ((go_at_call 68; exact Calls.quiet_of_same (second_q _ _ true hsec _ (by omega) (by omega))))
  go_wp2_with fail
  rw [rounds_succ]
  go_wp2_with fail
  go_ret2
  exact ⟨ret_two (by rw [HF.out]) (by rw [HF.out]; rfl), by repeat (first | exact Below.refl _ _ | refine ubelow_drewN ?_ _)⟩
theorem next_3_1a (s : ByteArray) (w : World) (hs : 0 < s.size) (hm : s.size <= 9223372036854775807) (x0 x1 x2 x3 : Int) (q0 : bt s.data.toList 0 = x0) (q1 : bt s.data.toList 1 = x1) (q2 : bt s.data.toList 2 = x2) (q3 : bt s.data.toList 3 = x3) (h2 : szOf x0 = 3) (hz : s.size <= 1) :
  Calls Try.prog 50 #[.string s] w fun e w' => e = .returned (.tuple #[.int .i64 (nx s.data.toList).1, .int .i64 (nx s.data.toList).2]) /\ Below w.heap.size w w' := by
  have y0 : ((s[0]'hs).toNat : Int) = x0 := by rw [bt_get s 0 hs, q0]
  have r0 := bt_lt s.data.toList 0; rw [q0] at r0
  have hl : s.data.toList.length = s.size := rfl
  have hb0 : szOf x0 = 3 /\ 224 <= x0 /\ x0 <= 239 := by have := szOf_cases x0; omega
  replace hb0 := hb0.2
  have hse := not_sec_of _ _ _ q0 q1 (.inl (by rw [hl]; exact hz))
  have hf : nx s.data.toList = (65533, 1) := by unfold nx; rw [q0, h2]; simp [hse]
  have hda : decide ((s.size : Int) <= 1) = true := by simp; omega
  have em := i64_and15 x0 (by omega) (by omega)
  have HF := Lib.hid hf; have H2 := Lib.hid h2; clear hf h2 q0 q1 q2 q3 hl hse
  go_enter Try.func50, Try.ntmps50
  go_wp2_with fail
  refine (size_any _ _ (by omega) (by omega)).mono ?_
  rintro e w1 ⟨rfl, rfl⟩
  rw [H2.out]
  go_wp2_with fail
  refine wp_loop_rounds 5 ?_; rw [rounds_succ]
  go_wp2_with fail
  go_quiet (fail)
  go_wp2_with fail
  go_ret2
  exact ⟨ret_two (by rw [HF.out]) (by rw [HF.out]; rfl), by repeat (first | exact Below.refl _ _ | refine ubelow_drewN ?_ _)⟩
theorem next_3_1b (s : ByteArray) (w : World) (hs : 0 < s.size) (hm : s.size <= 9223372036854775807) (x0 x1 x2 x3 : Int) (q0 : bt s.data.toList 0 = x0) (q1 : bt s.data.toList 1 = x1) (q2 : bt s.data.toList 2 = x2) (q3 : bt s.data.toList 3 = x3) (h2 : szOf x0 = 3) (hz : 1 < s.size) (hsec : uinB (loOf x0) (hiOf x0) x1 = false) :
  Calls Try.prog 50 #[.string s] w fun e w' => e = .returned (.tuple #[.int .i64 (nx s.data.toList).1, .int .i64 (nx s.data.toList).2]) /\ Below w.heap.size w w' := by
  have y0 : ((s[0]'hs).toNat : Int) = x0 := by rw [bt_get s 0 hs, q0]
  have r0 := bt_lt s.data.toList 0; rw [q0] at r0
  have y1 : ((s[1]'(by omega)).toNat : Int) = x1 := by rw [bt_get s 1 (by omega), q1]
  have r1 := bt_lt s.data.toList 1; rw [q1] at r1
  have hlI1 : (1 : Int) < (s.size : Int) := by omega
  have hd1 : decide ((s.size : Int) <= 1) = false := by simp; omega
  have hl : s.data.toList.length = s.size := rfl
  have hb0 : szOf x0 = 3 /\ 224 <= x0 /\ x0 <= 239 := by have := szOf_cases x0; omega
  replace hb0 := hb0.2
  have hse := not_sec_of _ _ _ q0 q1 (.inr hsec)
  have hf : nx s.data.toList = (65533, 1) := by unfold nx; rw [q0, h2]; simp [hse]
  have em := i64_and15 x0 (by omega) (by omega)
  have HF := Lib.hid hf; have H2 := Lib.hid h2; clear hf h2 q0 q1 q2 q3 hl hse
  go_enter Try.func50, Try.ntmps50
  go_wp2_with fail
  refine (size_any _ _ (by omega) (by omega)).mono ?_
  rintro e w1 ⟨rfl, rfl⟩
  rw [H2.out]
  go_wp2_with fail
  refine wp_loop_rounds 5 ?_; rw [rounds_succ]
  go_wp2_with fail
  go_quiet ((go_at_call 68; exact Calls.quiet_of_same (second_q _ _ false hsec _ (by omega) (by omega))))
  go_wp2_with fail
  go_ret2
  exact ⟨ret_two (by rw [HF.out]) (by rw [HF.out]; rfl), by repeat (first | exact Below.refl _ _ | refine ubelow_drewN ?_ _)⟩
theorem next_3_2a (s : ByteArray) (w : World) (hs : 0 < s.size) (hm : s.size <= 9223372036854775807) (x0 x1 x2 x3 : Int) (q0 : bt s.data.toList 0 = x0) (q1 : bt s.data.toList 1 = x1) (q2 : bt s.data.toList 2 = x2) (q3 : bt s.data.toList 3 = x3) (h2 : szOf x0 = 3) (hz : 1 < s.size) (hsec : uinB (loOf x0) (hiOf x0) x1 = true) (hz2 : s.size <= 2) :
  Calls Try.prog 50 #[.string s] w fun e w' => e = .returned (.tuple #[.int .i64 (nx s.data.toList).1, .int .i64 (nx s.data.toList).2]) /\ Below w.heap.size w w' := by
  have y0 : ((s[0]'hs).toNat : Int) = x0 := by rw [bt_get s 0 hs, q0]
  have r0 := bt_lt s.data.toList 0; rw [q0] at r0
  have y1 : ((s[1]'(by omega)).toNat : Int) = x1 := by rw [bt_get s 1 (by omega), q1]
  have r1 := bt_lt s.data.toList 1; rw [q1] at r1
  have hlI1 : (1 : Int) < (s.size : Int) := by omega
  have hd1 : decide ((s.size : Int) <= 1) = false := by simp; omega
  have hl : s.data.toList.length = s.size := rfl
  have hb0 : szOf x0 = 3 /\ 224 <= x0 /\ x0 <= 239 := by have := szOf_cases x0; omega
  replace hb0 := hb0.2
  have hse := sec_of _ _ _ q0 q1 (by rw [hl]; omega) hsec
  have hcon2 : ¬ con s.data.toList 2 := by unfold con; rw [q2, hl]; omega
  have hf : nx s.data.toList = (65533, 2) := by unfold nx; rw [q0, h2]; simp [hse, hcon2]
  have hda : decide ((s.size : Int) <= 2) = true := by simp; omega
  have hc1 := inB_low _ _ hsec
  have em := i64_and15 x0 (by omega) (by omega)
  have ea1 := i64_and63 x1 (by omega) (by omega)
  have eo1 := i64_or6 ((x0 % 16) * 64) (x1 % 64) (by omega) (by omega) (by omega) (by omega) (by omega)
  have ez1 : 0 <= x0 % 16 * 64 + x1 % 64 /\ x0 % 16 * 64 + x1 % 64 <= 16777215 := by omega
  have t1l : decide (x1 < 128) = false := by simp; omega
  have t1h : decide (191 < x1) = false := by simp; omega
  have HF := Lib.hid hf; have H2 := Lib.hid h2; clear hf h2 q0 q1 q2 q3 hl hse hcon2
  go_enter Try.func50, Try.ntmps50
  go_wp2_with fail
  refine (size_any _ _ (by omega) (by omega)).mono ?_
  rintro e w1 ⟨rfl, rfl⟩
  rw [H2.out]
  go_wp2_with fail
  refine wp_loop_rounds 5 ?_; rw [rounds_succ]
  go_wp2_with fail
  go_quiet ((go_at_call 68; exact Calls.quiet_of_same (second_q _ _ true hsec _ (by omega) (by omega))))
  go_wp2_with fail
  rw [rounds_succ]
  go_wp2_with fail
  go_quiet (fail)
  go_wp2_with fail
  go_ret2
  exact ⟨ret_two (by rw [HF.out]) (by rw [HF.out]; rfl), by repeat (first | exact Below.refl _ _ | refine ubelow_drewN ?_ _)⟩
theorem next_3_2d (s : ByteArray) (w : World) (hs : 0 < s.size) (hm : s.size <= 9223372036854775807) (x0 x1 x2 x3 : Int) (q0 : bt s.data.toList 0 = x0) (q1 : bt s.data.toList 1 = x1) (q2 : bt s.data.toList 2 = x2) (q3 : bt s.data.toList 3 = x3) (h2 : szOf x0 = 3) (hz : 2 < s.size) (hsec : uinB (loOf x0) (hiOf x0) x1 = true) (hd : x2 < 128) :
  Calls Try.prog 50 #[.string s] w fun e w' => e = .returned (.tuple #[.int .i64 (nx s.data.toList).1, .int .i64 (nx s.data.toList).2]) /\ Below w.heap.size w w' := by
  have y0 : ((s[0]'hs).toNat : Int) = x0 := by rw [bt_get s 0 hs, q0]
  have r0 := bt_lt s.data.toList 0; rw [q0] at r0
  have y1 : ((s[1]'(by omega)).toNat : Int) = x1 := by rw [bt_get s 1 (by omega), q1]
  have r1 := bt_lt s.data.toList 1; rw [q1] at r1
  have hlI1 : (1 : Int) < (s.size : Int) := by omega
  have hd1 : decide ((s.size : Int) <= 1) = false := by simp; omega
  have y2 : ((s[2]'(by omega)).toNat : Int) = x2 := by rw [bt_get s 2 (by omega), q2]
  have r2 := bt_lt s.data.toList 2; rw [q2] at r2
  have hlI2 : (2 : Int) < (s.size : Int) := by omega
  have hd2 : decide ((s.size : Int) <= 2) = false := by simp; omega
  have hl : s.data.toList.length = s.size := rfl
  have hb0 : szOf x0 = 3 /\ 224 <= x0 /\ x0 <= 239 := by have := szOf_cases x0; omega
  replace hb0 := hb0.2
  have hse := sec_of _ _ _ q0 q1 (by rw [hl]; omega) hsec
  have hcon2 : ¬ con s.data.toList 2 := by unfold con; rw [q2, hl]; omega
  have hf : nx s.data.toList = (65533, 2) := by unfold nx; rw [q0, h2]; simp [hse, hcon2]
  have hc1 := inB_low _ _ hsec
  have em := i64_and15 x0 (by omega) (by omega)
  have ea1 := i64_and63 x1 (by omega) (by omega)
  have eo1 := i64_or6 ((x0 % 16) * 64) (x1 % 64) (by omega) (by omega) (by omega) (by omega) (by omega)
  have ez1 : 0 <= x0 % 16 * 64 + x1 % 64 /\ x0 % 16 * 64 + x1 % 64 <= 16777215 := by omega
  have t1l : decide (x1 < 128) = false := by simp; omega
  have t1h : decide (191 < x1) = false := by simp; omega
  have tl : decide (x2 < 128) = true := by simp; omega
  have HF := Lib.hid hf; have H2 := Lib.hid h2; clear hf h2 q0 q1 q2 q3 hl hse hcon2
  go_enter Try.func50, Try.ntmps50
  go_wp2_with fail
  refine (size_any _ _ (by omega) (by omega)).mono ?_
  rintro e w1 ⟨rfl, rfl⟩
  rw [H2.out]
  go_wp2_with fail
  refine wp_loop_rounds 5 ?_; rw [rounds_succ]
  go_wp2_with fail
  go_quiet ((go_at_call 68; exact Calls.quiet_of_same (second_q _ _ true hsec _ (by omega) (by omega))))
  go_wp2_with fail
  rw [rounds_succ]
  go_wp2_with fail
  go_quiet (fail)
  go_wp2_with fail
  go_ret2
  exact ⟨ret_two (by rw [HF.out]) (by rw [HF.out]; rfl), by repeat (first | exact Below.refl _ _ | refine ubelow_drewN ?_ _)⟩
theorem next_3_2e (s : ByteArray) (w : World) (hs : 0 < s.size) (hm : s.size <= 9223372036854775807) (x0 x1 x2 x3 : Int) (q0 : bt s.data.toList 0 = x0) (q1 : bt s.data.toList 1 = x1) (q2 : bt s.data.toList 2 = x2) (q3 : bt s.data.toList 3 = x3) (h2 : szOf x0 = 3) (hz : 2 < s.size) (hsec : uinB (loOf x0) (hiOf x0) x1 = true) (hd : 191 < x2) :
  Calls Try.prog 50 #[.string s] w fun e w' => e = .returned (.tuple #[.int .i64 (nx s.data.toList).1, .int .i64 (nx s.data.toList).2]) /\ Below w.heap.size w w' := by
  have y0 : ((s[0]'hs).toNat : Int) = x0 := by rw [bt_get s 0 hs, q0]
  have r0 := bt_lt s.data.toList 0; rw [q0] at r0
  have y1 : ((s[1]'(by omega)).toNat : Int) = x1 := by rw [bt_get s 1 (by omega), q1]
  have r1 := bt_lt s.data.toList 1; rw [q1] at r1
  have hlI1 : (1 : Int) < (s.size : Int) := by omega
  have hd1 : decide ((s.size : Int) <= 1) = false := by simp; omega
  have y2 : ((s[2]'(by omega)).toNat : Int) = x2 := by rw [bt_get s 2 (by omega), q2]
  have r2 := bt_lt s.data.toList 2; rw [q2] at r2
  have hlI2 : (2 : Int) < (s.size : Int) := by omega
  have hd2 : decide ((s.size : Int) <= 2) = false := by simp; omega
  have hl : s.data.toList.length = s.size := rfl
  have hb0 : szOf x0 = 3 /\ 224 <= x0 /\ x0 <= 239 := by have := szOf_cases x0; omega
  replace hb0 := hb0.2
  have hse := sec_of _ _ _ q0 q1 (by rw [hl]; omega) hsec
  have hcon2 : ¬ con s.data.toList 2 := by unfold con; rw [q2, hl]; omega
  have hf : nx s.data.toList = (65533, 2) := by unfold nx; rw [q0, h2]; simp [hse, hcon2]
  have hc1 := inB_low _ _ hsec
  have em := i64_and15 x0 (by omega) (by omega)
  have ea1 := i64_and63 x1 (by omega) (by omega)
  have eo1 := i64_or6 ((x0 % 16) * 64) (x1 % 64) (by omega) (by omega) (by omega) (by omega) (by omega)
  have ez1 : 0 <= x0 % 16 * 64 + x1 % 64 /\ x0 % 16 * 64 + x1 % 64 <= 16777215 := by omega
  have t1l : decide (x1 < 128) = false := by simp; omega
  have t1h : decide (191 < x1) = false := by simp; omega
  have tl : decide (x2 < 128) = false := by simp; omega
  have th : decide (191 < x2) = true := by simp; omega
  have HF := Lib.hid hf; have H2 := Lib.hid h2; clear hf h2 q0 q1 q2 q3 hl hse hcon2
  go_enter Try.func50, Try.ntmps50
  go_wp2_with fail
  refine (size_any _ _ (by omega) (by omega)).mono ?_
  rintro e w1 ⟨rfl, rfl⟩
  rw [H2.out]
  go_wp2_with fail
  refine wp_loop_rounds 5 ?_; rw [rounds_succ]
  go_wp2_with fail
  go_quiet ((go_at_call 68; exact Calls.quiet_of_same (second_q _ _ true hsec _ (by omega) (by omega))))
  go_wp2_with fail
  rw [rounds_succ]
  go_wp2_with fail
  go_quiet (fail)
  go_wp2_with fail
  go_ret2
  exact ⟨ret_two (by rw [HF.out]) (by rw [HF.out]; rfl), by repeat (first | exact Below.refl _ _ | refine ubelow_drewN ?_ _)⟩
theorem next_3_ok (s : ByteArray) (w : World) (hs : 0 < s.size) (hm : s.size <= 9223372036854775807) (x0 x1 x2 x3 : Int) (q0 : bt s.data.toList 0 = x0) (q1 : bt s.data.toList 1 = x1) (q2 : bt s.data.toList 2 = x2) (q3 : bt s.data.toList 3 = x3) (h2 : szOf x0 = 3) (hz : 2 < s.size) (hsec : uinB (loOf x0) (hiOf x0) x1 = true) (hc2 : 128 <= x2 /\ x2 <= 191) :
  Calls Try.prog 50 #[.string s] w fun e w' => e = .returned (.tuple #[.int .i64 (nx s.data.toList).1, .int .i64 (nx s.data.toList).2]) /\ Below w.heap.size w w' := by
  have y0 : ((s[0]'hs).toNat : Int) = x0 := by rw [bt_get s 0 hs, q0]
  have r0 := bt_lt s.data.toList 0; rw [q0] at r0
  have y1 : ((s[1]'(by omega)).toNat : Int) = x1 := by rw [bt_get s 1 (by omega), q1]
  have r1 := bt_lt s.data.toList 1; rw [q1] at r1
  have hlI1 : (1 : Int) < (s.size : Int) := by omega
  have hd1 : decide ((s.size : Int) <= 1) = false := by simp; omega
  have y2 : ((s[2]'(by omega)).toNat : Int) = x2 := by rw [bt_get s 2 (by omega), q2]
  have r2 := bt_lt s.data.toList 2; rw [q2] at r2
  have hlI2 : (2 : Int) < (s.size : Int) := by omega
  have hd2 : decide ((s.size : Int) <= 2) = false := by simp; omega
  have hl : s.data.toList.length = s.size := rfl
  have hb0 : szOf x0 = 3 /\ 224 <= x0 /\ x0 <= 239 := by have := szOf_cases x0; omega
  replace hb0 := hb0.2
  have hse := sec_of _ _ _ q0 q1 (by rw [hl]; omega) hsec
  have hcon2 : con s.data.toList 2 := by unfold con; rw [q2, hl]; exact ⟨by omega, hc2⟩
  have hf : nx s.data.toList = ((x0 % 16 * 64 + x1 % 64) * 64 + x2 % 64, 3) := by unfold nx; rw [q0, q1, q2, h2]; simp [hse, hcon2]
  have hc1 := inB_low _ _ hsec
  have em := i64_and15 x0 (by omega) (by omega)
  have ea1 := i64_and63 x1 (by omega) (by omega)
  have eo1 := i64_or6 ((x0 % 16) * 64) (x1 % 64) (by omega) (by omega) (by omega) (by omega) (by omega)
  have ez1 : 0 <= x0 % 16 * 64 + x1 % 64 /\ x0 % 16 * 64 + x1 % 64 <= 16777215 := by omega
  have ea2 := i64_and63 x2 (by omega) (by omega)
  have eo2 := i64_or6 ((x0 % 16 * 64 + x1 % 64) * 64) (x2 % 64) (by omega) (by omega) (by omega) (by omega) (by omega)
  have ez2 : 0 <= (x0 % 16 * 64 + x1 % 64) * 64 + x2 % 64 /\ (x0 % 16 * 64 + x1 % 64) * 64 + x2 % 64 <= 16777215 := by omega
  have t1l : decide (x1 < 128) = false := by simp; omega
  have t1h : decide (191 < x1) = false := by simp; omega
  have t2l : decide (x2 < 128) = false := by simp; omega
  have t2h : decide (191 < x2) = false := by simp; omega
  have HF := Lib.hid hf; have H2 := Lib.hid h2; clear hf h2 q0 q1 q2 q3 hl hse hcon2
  go_enter Try.func50, Try.ntmps50
  go_wp2_with fail
  refine (size_any _ _ (by omega) (by omega)).mono ?_
  rintro e w1 ⟨rfl, rfl⟩
  rw [H2.out]
  go_wp2_with fail
  refine wp_loop_rounds 5 ?_; rw [rounds_succ]
  go_wp2_with fail
  go_quiet ((go_at_call 68; exact Calls.quiet_of_same (second_q _ _ true hsec _ (by omega) (by omega))))
  go_wp2_with fail
  rw [rounds_succ]
  go_wp2_with fail
  go_quiet (fail)
  go_wp2_with fail
  rw [rounds_succ]
  go_wp2_with fail
  go_ret2
  exact ⟨ret_two (by rw [HF.out]) (by rw [HF.out]; rfl), by repeat (first | exact Below.refl _ _ | refine ubelow_drewN ?_ _)⟩
theorem next_4_1a (s : ByteArray) (w : World) (hs : 0 < s.size) (hm : s.size <= 9223372036854775807) (x0 x1 x2 x3 : Int) (q0 : bt s.data.toList 0 = x0) (q1 : bt s.data.toList 1 = x1) (q2 : bt s.data.toList 2 = x2) (q3 : bt s.data.toList 3 = x3) (h2 : szOf x0 = 4) (hz : s.size <= 1) :
  Calls Try.prog 50 #[.string s] w fun e w' => e = .returned (.tuple #[.int .i64 (nx s.data.toList).1, .int .i64 (nx s.data.toList).2]) /\ Below w.heap.size w w' := by
  have y0 : ((s[0]'hs).toNat : Int) = x0 := by rw [bt_get s 0 hs, q0]
  have r0 := bt_lt s.data.toList 0; rw [q0] at r0
  have hl : s.data.toList.length = s.size := rfl
  have hb0 : szOf x0 = 4 /\ 240 <= x0 /\ x0 <= 244 := by have := szOf_cases x0; omega
  replace hb0 := hb0.2
  have hse := not_sec_of _ _ _ q0 q1 (.inl (by rw [hl]; exact hz))
  have hf : nx s.data.toList = (65533, 1) := by unfold nx; rw [q0, h2]; simp [hse]
  have hda : decide ((s.size : Int) <= 1) = true := by simp; omega
  have em := i64_and7 x0 (by omega) (by omega)
  have HF := Lib.hid hf; have H2 := Lib.hid h2; clear hf h2 q0 q1 q2 q3 hl hse
  go_enter Try.func50, Try.ntmps50
  go_wp2_with fail
  refine (size_any _ _ (by omega) (by omega)).mono ?_
  rintro e w1 ⟨rfl, rfl⟩
  rw [H2.out]
  go_wp2_with fail
  refine wp_loop_rounds 5 ?_; rw [rounds_succ]
  go_wp2_with fail
  go_quiet (fail)
  go_wp2_with fail
  go_ret2
  exact ⟨ret_two (by rw [HF.out]) (by rw [HF.out]; rfl), by repeat (first | exact Below.refl _ _ | refine ubelow_drewN ?_ _)⟩
theorem next_4_1b (s : ByteArray) (w : World) (hs : 0 < s.size) (hm : s.size <= 9223372036854775807) (x0 x1 x2 x3 : Int) (q0 : bt s.data.toList 0 = x0) (q1 : bt s.data.toList 1 = x1) (q2 : bt s.data.toList 2 = x2) (q3 : bt s.data.toList 3 = x3) (h2 : szOf x0 = 4) (hz : 1 < s.size) (hsec : uinB (loOf x0) (hiOf x0) x1 = false) :
  Calls Try.prog 50 #[.string s] w fun e w' => e = .returned (.tuple #[.int .i64 (nx s.data.toList).1, .int .i64 (nx s.data.toList).2]) /\ Below w.heap.size w w' := by
  have y0 : ((s[0]'hs).toNat : Int) = x0 := by rw [bt_get s 0 hs, q0]
  have r0 := bt_lt s.data.toList 0; rw [q0] at r0
  have y1 : ((s[1]'(by omega)).toNat : Int) = x1 := by rw [bt_get s 1 (by omega), q1]
  have r1 := bt_lt s.data.toList 1; rw [q1] at r1
  have hlI1 : (1 : Int) < (s.size : Int) := by omega
  have hd1 : decide ((s.size : Int) <= 1) = false := by simp; omega
  have hl : s.data.toList.length = s.size := rfl
  have hb0 : szOf x0 = 4 /\ 240 <= x0 /\ x0 <= 244 := by have := szOf_cases x0; omega
  replace hb0 := hb0.2
  have hse := not_sec_of _ _ _ q0 q1 (.inr hsec)
  have hf : nx s.data.toList = (65533, 1) := by unfold nx; rw [q0, h2]; simp [hse]
  have em := i64_and7 x0 (by omega) (by omega)
  have HF := Lib.hid hf; have H2 := Lib.hid h2; clear hf h2 q0 q1 q2 q3 hl hse
  go_enter Try.func50, Try.ntmps50
  go_wp2_with fail
  refine (size_any _ _ (by omega) (by omega)).mono ?_
  rintro e w1 ⟨rfl, rfl⟩
  rw [H2.out]
  go_wp2_with fail
  refine wp_loop_rounds 5 ?_; rw [rounds_succ]
  go_wp2_with fail
  go_quiet ((go_at_call 68; exact Calls.quiet_of_same (second_q _ _ false hsec _ (by omega) (by omega))))
  go_wp2_with fail
  go_ret2
  exact ⟨ret_two (by rw [HF.out]) (by rw [HF.out]; rfl), by repeat (first | exact Below.refl _ _ | refine ubelow_drewN ?_ _)⟩
theorem next_4_2a (s : ByteArray) (w : World) (hs : 0 < s.size) (hm : s.size <= 9223372036854775807) (x0 x1 x2 x3 : Int) (q0 : bt s.data.toList 0 = x0) (q1 : bt s.data.toList 1 = x1) (q2 : bt s.data.toList 2 = x2) (q3 : bt s.data.toList 3 = x3) (h2 : szOf x0 = 4) (hz : 1 < s.size) (hsec : uinB (loOf x0) (hiOf x0) x1 = true) (hz2 : s.size <= 2) :
  Calls Try.prog 50 #[.string s] w fun e w' => e = .returned (.tuple #[.int .i64 (nx s.data.toList).1, .int .i64 (nx s.data.toList).2]) /\ Below w.heap.size w w' := by
  have y0 : ((s[0]'hs).toNat : Int) = x0 := by rw [bt_get s 0 hs, q0]
  have r0 := bt_lt s.data.toList 0; rw [q0] at r0
  have y1 : ((s[1]'(by omega)).toNat : Int) = x1 := by rw [bt_get s 1 (by omega), q1]
  have r1 := bt_lt s.data.toList 1; rw [q1] at r1
  have hlI1 : (1 : Int) < (s.size : Int) := by omega
  have hd1 : decide ((s.size : Int) <= 1) = false := by simp; omega
  have hl : s.data.toList.length = s.size := rfl
  have hb0 : szOf x0 = 4 /\ 240 <= x0 /\ x0 <= 244 := by have := szOf_cases x0; omega
  replace hb0 := hb0.2
  have hse := sec_of _ _ _ q0 q1 (by rw [hl]; omega) hsec
  have hcon2 : ¬ con s.data.toList 2 := by unfold con; rw [q2, hl]; omega
  have hf : nx s.data.toList = (65533, 2) := by unfold nx; rw [q0, h2]; simp [hse, hcon2]
  have hda : decide ((s.size : Int) <= 2) = true := by simp; omega
  have hc1 := inB_low _ _ hsec
  have em := i64_and7 x0 (by omega) (by omega)
  have ea1 := i64_and63 x1 (by omega) (by omega)
  have eo1 := i64_or6 ((x0 % 8) * 64) (x1 % 64) (by omega) (by omega) (by omega) (by omega) (by omega)
  have ez1 : 0 <= x0 % 8 * 64 + x1 % 64 /\ x0 % 8 * 64 + x1 % 64 <= 16777215 := by omega
  have t1l : decide (x1 < 128) = false := by simp; omega
  have t1h : decide (191 < x1) = false := by simp; omega
  have HF := Lib.hid hf; have H2 := Lib.hid h2; clear hf h2 q0 q1 q2 q3 hl hse hcon2
  go_enter Try.func50, Try.ntmps50
  go_wp2_with fail
  refine (size_any _ _ (by omega) (by omega)).mono ?_
  rintro e w1 ⟨rfl, rfl⟩
  rw [H2.out]
  go_wp2_with fail
  refine wp_loop_rounds 5 ?_; rw [rounds_succ]
  go_wp2_with fail
  go_quiet ((go_at_call 68; exact Calls.quiet_of_same (second_q _ _ true hsec _ (by omega) (by omega))))
  go_wp2_with fail
  rw [rounds_succ]
  go_wp2_with fail
  go_quiet (fail)
  go_wp2_with fail
  go_ret2
  exact ⟨ret_two (by rw [HF.out]) (by rw [HF.out]; rfl), by repeat (first | exact Below.refl _ _ | refine ubelow_drewN ?_ _)⟩
theorem next_4_2d (s : ByteArray) (w : World) (hs : 0 < s.size) (hm : s.size <= 9223372036854775807) (x0 x1 x2 x3 : Int) (q0 : bt s.data.toList 0 = x0) (q1 : bt s.data.toList 1 = x1) (q2 : bt s.data.toList 2 = x2) (q3 : bt s.data.toList 3 = x3) (h2 : szOf x0 = 4) (hz : 2 < s.size) (hsec : uinB (loOf x0) (hiOf x0) x1 = true) (hd : x2 < 128) :
  Calls Try.prog 50 #[.string s] w fun e w' => e = .returned (.tuple #[.int .i64 (nx s.data.toList).1, .int .i64 (nx s.data.toList).2]) /\ Below w.heap.size w w' := by
  have y0 : ((s[0]'hs).toNat : Int) = x0 := by rw [bt_get s 0 hs, q0]
  have r0 := bt_lt s.data.toList 0; rw [q0] at r0
  have y1 : ((s[1]'(by omega)).toNat : Int) = x1 := by rw [bt_get s 1 (by omega), q1]
  have r1 := bt_lt s.data.toList 1; rw [q1] at r1
  have hlI1 : (1 : Int) < (s.size : Int) := by omega
  have hd1 : decide ((s.size : Int) <= 1) = false := by simp; omega
  have y2 : ((s[2]'(by omega)).toNat : Int) = x2 := by rw [bt_get s 2 (by omega), q2]
  have r2 := bt_lt s.data.toList 2; rw [q2] at r2
  have hlI2 : (2 : Int) < (s.size : Int) := by omega
  have hd2 : decide ((s.size : Int) <= 2) = false := by simp; omega
  have hl : s.data.toList.length = s.size := rfl
  have hb0 : szOf x0 = 4 /\ 240 <= x0 /\ x0 <= 244 := by have := szOf_cases x0; omega
  replace hb0 := hb0.2
  have hse := sec_of _ _ _ q0 q1 (by rw [hl]; omega) hsec
  have hcon2 : ¬ con s.data.toList 2 := by unfold con; rw [q2, hl]; omega
  have hf : nx s.data.toList = (65533, 2) := by unfold nx; rw [q0, h2]; simp [hse, hcon2]
  have hc1 := inB_low _ _ hsec
  have em := i64_and7 x0 (by omega) (by omega)
  have ea1 := i64_and63 x1 (by omega) (by omega)
  have eo1 := i64_or6 ((x0 % 8) * 64) (x1 % 64) (by omega) (by omega) (by omega) (by omega) (by omega)
  have ez1 : 0 <= x0 % 8 * 64 + x1 % 64 /\ x0 % 8 * 64 + x1 % 64 <= 16777215 := by omega
  have t1l : decide (x1 < 128) = false := by simp; omega
  have t1h : decide (191 < x1) = false := by simp; omega
  have tl : decide (x2 < 128) = true := by simp; omega
  have HF := Lib.hid hf; have H2 := Lib.hid h2; clear hf h2 q0 q1 q2 q3 hl hse hcon2
  go_enter Try.func50, Try.ntmps50
  go_wp2_with fail
  refine (size_any _ _ (by omega) (by omega)).mono ?_
  rintro e w1 ⟨rfl, rfl⟩
  rw [H2.out]
  go_wp2_with fail
  refine wp_loop_rounds 5 ?_; rw [rounds_succ]
  go_wp2_with fail
  go_quiet ((go_at_call 68; exact Calls.quiet_of_same (second_q _ _ true hsec _ (by omega) (by omega))))
  go_wp2_with fail
  rw [rounds_succ]
  go_wp2_with fail
  go_quiet (fail)
  go_wp2_with fail
  go_ret2
  exact ⟨ret_two (by rw [HF.out]) (by rw [HF.out]; rfl), by repeat (first | exact Below.refl _ _ | refine ubelow_drewN ?_ _)⟩
theorem next_4_2e (s : ByteArray) (w : World) (hs : 0 < s.size) (hm : s.size <= 9223372036854775807) (x0 x1 x2 x3 : Int) (q0 : bt s.data.toList 0 = x0) (q1 : bt s.data.toList 1 = x1) (q2 : bt s.data.toList 2 = x2) (q3 : bt s.data.toList 3 = x3) (h2 : szOf x0 = 4) (hz : 2 < s.size) (hsec : uinB (loOf x0) (hiOf x0) x1 = true) (hd : 191 < x2) :
  Calls Try.prog 50 #[.string s] w fun e w' => e = .returned (.tuple #[.int .i64 (nx s.data.toList).1, .int .i64 (nx s.data.toList).2]) /\ Below w.heap.size w w' := by
  have y0 : ((s[0]'hs).toNat : Int) = x0 := by rw [bt_get s 0 hs, q0]
  have r0 := bt_lt s.data.toList 0; rw [q0] at r0
  have y1 : ((s[1]'(by omega)).toNat : Int) = x1 := by rw [bt_get s 1 (by omega), q1]
  have r1 := bt_lt s.data.toList 1; rw [q1] at r1
  have hlI1 : (1 : Int) < (s.size : Int) := by omega
  have hd1 : decide ((s.size : Int) <= 1) = false := by simp; omega
  have y2 : ((s[2]'(by omega)).toNat : Int) = x2 := by rw [bt_get s 2 (by omega), q2]
  have r2 := bt_lt s.data.toList 2; rw [q2] at r2
  have hlI2 : (2 : Int) < (s.size : Int) := by omega
  have hd2 : decide ((s.size : Int) <= 2) = false := by simp; omega
  have hl : s.data.toList.length = s.size := rfl
  have hb0 : szOf x0 = 4 /\ 240 <= x0 /\ x0 <= 244 := by have := szOf_cases x0; omega
  replace hb0 := hb0.2
  have hse := sec_of _ _ _ q0 q1 (by rw [hl]; omega) hsec
  have hcon2 : ¬ con s.data.toList 2 := by unfold con; rw [q2, hl]; omega
  have hf : nx s.data.toList = (65533, 2) := by unfold nx; rw [q0, h2]; simp [hse, hcon2]
  have hc1 := inB_low _ _ hsec
  have em := i64_and7 x0 (by omega) (by omega)
  have ea1 := i64_and63 x1 (by omega) (by omega)
  have eo1 := i64_or6 ((x0 % 8) * 64) (x1 % 64) (by omega) (by omega) (by omega) (by omega) (by omega)
  have ez1 : 0 <= x0 % 8 * 64 + x1 % 64 /\ x0 % 8 * 64 + x1 % 64 <= 16777215 := by omega
  have t1l : decide (x1 < 128) = false := by simp; omega
  have t1h : decide (191 < x1) = false := by simp; omega
  have tl : decide (x2 < 128) = false := by simp; omega
  have th : decide (191 < x2) = true := by simp; omega
  have HF := Lib.hid hf; have H2 := Lib.hid h2; clear hf h2 q0 q1 q2 q3 hl hse hcon2
  go_enter Try.func50, Try.ntmps50
  go_wp2_with fail
  refine (size_any _ _ (by omega) (by omega)).mono ?_
  rintro e w1 ⟨rfl, rfl⟩
  rw [H2.out]
  go_wp2_with fail
  refine wp_loop_rounds 5 ?_; rw [rounds_succ]
  go_wp2_with fail
  go_quiet ((go_at_call 68; exact Calls.quiet_of_same (second_q _ _ true hsec _ (by omega) (by omega))))
  go_wp2_with fail
  rw [rounds_succ]
  go_wp2_with fail
  go_quiet (fail)
  go_wp2_with fail
  go_ret2
  exact ⟨ret_two (by rw [HF.out]) (by rw [HF.out]; rfl), by repeat (first | exact Below.refl _ _ | refine ubelow_drewN ?_ _)⟩
theorem next_4_3a (s : ByteArray) (w : World) (hs : 0 < s.size) (hm : s.size <= 9223372036854775807) (x0 x1 x2 x3 : Int) (q0 : bt s.data.toList 0 = x0) (q1 : bt s.data.toList 1 = x1) (q2 : bt s.data.toList 2 = x2) (q3 : bt s.data.toList 3 = x3) (h2 : szOf x0 = 4) (hz : 2 < s.size) (hsec : uinB (loOf x0) (hiOf x0) x1 = true) (hc2 : 128 <= x2 /\ x2 <= 191) (hz2 : s.size <= 3) :
  Calls Try.prog 50 #[.string s] w fun e w' => e = .returned (.tuple #[.int .i64 (nx s.data.toList).1, .int .i64 (nx s.data.toList).2]) /\ Below w.heap.size w w' := by
  have y0 : ((s[0]'hs).toNat : Int) = x0 := by rw [bt_get s 0 hs, q0]
  have r0 := bt_lt s.data.toList 0; rw [q0] at r0
  have y1 : ((s[1]'(by omega)).toNat : Int) = x1 := by rw [bt_get s 1 (by omega), q1]
  have r1 := bt_lt s.data.toList 1; rw [q1] at r1
  have hlI1 : (1 : Int) < (s.size : Int) := by omega
  have hd1 : decide ((s.size : Int) <= 1) = false := by simp; omega
  have y2 : ((s[2]'(by omega)).toNat : Int) = x2 := by rw [bt_get s 2 (by omega), q2]
  have r2 := bt_lt s.data.toList 2; rw [q2] at r2
  have hlI2 : (2 : Int) < (s.size : Int) := by omega
  have hd2 : decide ((s.size : Int) <= 2) = false := by simp; omega
  have hl : s.data.toList.length = s.size := rfl
  have hb0 : szOf x0 = 4 /\ 240 <= x0 /\ x0 <= 244 := by have := szOf_cases x0; omega
  replace hb0 := hb0.2
  have hse := sec_of _ _ _ q0 q1 (by rw [hl]; omega) hsec
  have hcon2 : con s.data.toList 2 := by unfold con; rw [q2, hl]; exact ⟨by omega, hc2⟩
  have hcon3 : ¬ con s.data.toList 3 := by unfold con; rw [q3, hl]; omega
  have hf : nx s.data.toList = (65533, 3) := by unfold nx; rw [q0, h2]; simp [hse, hcon2, hcon3]
  have hda : decide ((s.size : Int) <= 3) = true := by simp; omega
  have hc1 := inB_low _ _ hsec
  have em := i64_and7 x0 (by omega) (by omega)
  have ea1 := i64_and63 x1 (by omega) (by omega)
  have eo1 := i64_or6 ((x0 % 8) * 64) (x1 % 64) (by omega) (by omega) (by omega) (by omega) (by omega)
  have ez1 : 0 <= x0 % 8 * 64 + x1 % 64 /\ x0 % 8 * 64 + x1 % 64 <= 16777215 := by omega
  have ea2 := i64_and63 x2 (by omega) (by omega)
  have eo2 := i64_or6 ((x0 % 8 * 64 + x1 % 64) * 64) (x2 % 64) (by omega) (by omega) (by omega) (by omega) (by omega)
  have ez2 : 0 <= (x0 % 8 * 64 + x1 % 64) * 64 + x2 % 64 /\ (x0 % 8 * 64 + x1 % 64) * 64 + x2 % 64 <= 16777215 := by omega
  have t1l : decide (x1 < 128) = false := by simp; omega
  have t1h : decide (191 < x1) = false := by simp; omega
  have t2l : decide (x2 < 128) = false := by simp; omega
  have t2h : decide (191 < x2) = false := by simp; omega
  have HF := Lib.hid hf; have H2 := Lib.hid h2; clear hf h2 q0 q1 q2 q3 hl hse hcon2 hcon3
  go_enter Try.func50, Try.ntmps50
  go_wp2_with fail
  refine (size_any _ _ (by omega) (by omega)).mono ?_
  rintro e w1 ⟨rfl, rfl⟩
  rw [H2.out]
  go_wp2_with fail
  refine wp_loop_rounds 5 ?_; rw [rounds_succ]
  go_wp2_with fail
  go_quiet ((go_at_call 68; exact Calls.quiet_of_same (second_q _ _ true hsec _ (by omega) (by omega))))
  go_wp2_with fail
  rw [rounds_succ]
  go_wp2_with fail
  go_quiet (fail)
  go_wp2_with fail
  rw [rounds_succ]
  go_wp2_with fail
  go_quiet (fail)
  go_wp2_with fail
  go_ret2
  exact ⟨ret_two (by rw [HF.out]) (by rw [HF.out]; rfl), by repeat (first | exact Below.refl _ _ | refine ubelow_drewN ?_ _)⟩
theorem next_4_3d (s : ByteArray) (w : World) (hs : 0 < s.size) (hm : s.size <= 9223372036854775807) (x0 x1 x2 x3 : Int) (q0 : bt s.data.toList 0 = x0) (q1 : bt s.data.toList 1 = x1) (q2 : bt s.data.toList 2 = x2) (q3 : bt s.data.toList 3 = x3) (h2 : szOf x0 = 4) (hz : 3 < s.size) (hsec : uinB (loOf x0) (hiOf x0) x1 = true) (hc2 : 128 <= x2 /\ x2 <= 191) (hd : x3 < 128) :
  Calls Try.prog 50 #[.string s] w fun e w' => e = .returned (.tuple #[.int .i64 (nx s.data.toList).1, .int .i64 (nx s.data.toList).2]) /\ Below w.heap.size w w' := by
  have y0 : ((s[0]'hs).toNat : Int) = x0 := by rw [bt_get s 0 hs, q0]
  have r0 := bt_lt s.data.toList 0; rw [q0] at r0
  have y1 : ((s[1]'(by omega)).toNat : Int) = x1 := by rw [bt_get s 1 (by omega), q1]
  have r1 := bt_lt s.data.toList 1; rw [q1] at r1
  have hlI1 : (1 : Int) < (s.size : Int) := by omega
  have hd1 : decide ((s.size : Int) <= 1) = false := by simp; omega
  have y2 : ((s[2]'(by omega)).toNat : Int) = x2 := by rw [bt_get s 2 (by omega), q2]
  have r2 := bt_lt s.data.toList 2; rw [q2] at r2
  have hlI2 : (2 : Int) < (s.size : Int) := by omega
  have hd2 : decide ((s.size : Int) <= 2) = false := by simp; omega
  have y3 : ((s[3]'(by omega)).toNat : Int) = x3 := by rw [bt_get s 3 (by omega), q3]
  have r3 := bt_lt s.data.toList 3; rw [q3] at r3
  have hlI3 : (3 : Int) < (s.size : Int) := by omega
  have hd3 : decide ((s.size : Int) <= 3) = false := by simp; omega
  have hl : s.data.toList.length = s.size := rfl
  have hb0 : szOf x0 = 4 /\ 240 <= x0 /\ x0 <= 244 := by have := szOf_cases x0; omega
  replace hb0 := hb0.2
  have hse := sec_of _ _ _ q0 q1 (by rw [hl]; omega) hsec
  have hcon2 : con s.data.toList 2 := by unfold con; rw [q2, hl]; exact ⟨by omega, hc2⟩
  have hcon3 : ¬ con s.data.toList 3 := by unfold con; rw [q3, hl]; omega
  have hf : nx s.data.toList = (65533, 3) := by unfold nx; rw [q0, h2]; simp [hse, hcon2, hcon3]
  have hc1 := inB_low _ _ hsec
  have em := i64_and7 x0 (by omega) (by omega)
  have ea1 := i64_and63 x1 (by omega) (by omega)
  have eo1 := i64_or6 ((x0 % 8) * 64) (x1 % 64) (by omega) (by omega) (by omega) (by omega) (by omega)
  have ez1 : 0 <= x0 % 8 * 64 + x1 % 64 /\ x0 % 8 * 64 + x1 % 64 <= 16777215 := by omega
  have ea2 := i64_and63 x2 (by omega) (by omega)
  have eo2 := i64_or6 ((x0 % 8 * 64 + x1 % 64) * 64) (x2 % 64) (by omega) (by omega) (by omega) (by omega) (by omega)
  have ez2 : 0 <= (x0 % 8 * 64 + x1 % 64) * 64 + x2 % 64 /\ (x0 % 8 * 64 + x1 % 64) * 64 + x2 % 64 <= 16777215 := by omega
  have t1l : decide (x1 < 128) = false := by simp; omega
  have t1h : decide (191 < x1) = false := by simp; omega
  have t2l : decide (x2 < 128) = false := by simp; omega
  have t2h : decide (191 < x2) = false := by simp; omega
  have tl : decide (x3 < 128) = true := by simp; omega
  have HF := Lib.hid hf; have H2 := Lib.hid h2; clear hf h2 q0 q1 q2 q3 hl hse hcon2 hcon3
  go_enter Try.func50, Try.ntmps50
  go_wp2_with fail
  refine (size_any _ _ (by omega) (by omega)).mono ?_
  rintro e w1 ⟨rfl, rfl⟩
  rw [H2.out]
  go_wp2_with fail
  refine wp_loop_rounds 5 ?_; rw [rounds_succ]
  go_wp2_with fail
  go_quiet ((go_at_call 68; exact Calls.quiet_of_same (second_q _ _ true hsec _ (by omega) (by omega))))
  go_wp2_with fail
  rw [rounds_succ]
  go_wp2_with fail
  go_quiet (fail)
  go_wp2_with fail
  rw [rounds_succ]
  go_wp2_with fail
  go_quiet (fail)
  go_wp2_with fail
  go_ret2
  exact ⟨ret_two (by rw [HF.out]) (by rw [HF.out]; rfl), by repeat (first | exact Below.refl _ _ | refine ubelow_drewN ?_ _)⟩
theorem next_4_3e (s : ByteArray) (w : World) (hs : 0 < s.size) (hm : s.size <= 9223372036854775807) (x0 x1 x2 x3 : Int) (q0 : bt s.data.toList 0 = x0) (q1 : bt s.data.toList 1 = x1) (q2 : bt s.data.toList 2 = x2) (q3 : bt s.data.toList 3 = x3) (h2 : szOf x0 = 4) (hz : 3 < s.size) (hsec : uinB (loOf x0) (hiOf x0) x1 = true) (hc2 : 128 <= x2 /\ x2 <= 191) (hd : 191 < x3) :
  Calls Try.prog 50 #[.string s] w fun e w' => e = .returned (.tuple #[.int .i64 (nx s.data.toList).1, .int .i64 (nx s.data.toList).2]) /\ Below w.heap.size w w' := by
  have y0 : ((s[0]'hs).toNat : Int) = x0 := by rw [bt_get s 0 hs, q0]
  have r0 := bt_lt s.data.toList 0; rw [q0] at r0
  have y1 : ((s[1]'(by omega)).toNat : Int) = x1 := by rw [bt_get s 1 (by omega), q1]
  have r1 := bt_lt s.data.toList 1; rw [q1] at r1
  have hlI1 : (1 : Int) < (s.size : Int) := by omega
  have hd1 : decide ((s.size : Int) <= 1) = false := by simp; omega
  have y2 : ((s[2]'(by omega)).toNat : Int) = x2 := by rw [bt_get s 2 (by omega), q2]
  have r2 := bt_lt s.data.toList 2; rw [q2] at r2
  have hlI2 : (2 : Int) < (s.size : Int) := by omega
  have hd2 : decide ((s.size : Int) <= 2) = false := by simp; omega
  have y3 : ((s[3]'(by omega)).toNat : Int) = x3 := by rw [bt_get s 3 (by omega), q3]
  have r3 := bt_lt s.data.toList 3; rw [q3] at r3
  have hlI3 : (3 : Int) < (s.size : Int) := by omega
  have hd3 : decide ((s.size : Int) <= 3) = false := by simp; omega
  have hl : s.data.toList.length = s.size := rfl
  have hb0 : szOf x0 = 4 /\ 240 <= x0 /\ x0 <= 244 := by have := szOf_cases x0; omega
  replace hb0 := hb0.2
  have hse := sec_of _ _ _ q0 q1 (by rw [hl]; omega) hsec
  have hcon2 : con s.data.toList 2 := by unfold con; rw [q2, hl]; exact ⟨by omega, hc2⟩
  have hcon3 : ¬ con s.data.toList 3 := by unfold con; rw [q3, hl]; omega
  have hf : nx s.data.toList = (65533, 3) := by unfold nx; rw [q0, h2]; simp [hse, hcon2, hcon3]
  have hc1 := inB_low _ _ hsec
  have em := i64_and7 x0 (by omega) (by omega)
  have ea1 := i64_and63 x1 (by omega) (by omega)
  have eo1 := i64_or6 ((x0 % 8) * 64) (x1 % 64) (by omega) (by omega) (by omega) (by omega) (by omega)
  have ez1 : 0 <= x0 % 8 * 64 + x1 % 64 /\ x0 % 8 * 64 + x1 % 64 <= 16777215 := by omega
  have ea2 := i64_and63 x2 (by omega) (by omega)
  have eo2 := i64_or6 ((x0 % 8 * 64 + x1 % 64) * 64) (x2 % 64) (by omega) (by omega) (by omega) (by omega) (by omega)
  have ez2 : 0 <= (x0 % 8 * 64 + x1 % 64) * 64 + x2 % 64 /\ (x0 % 8 * 64 + x1 % 64) * 64 + x2 % 64 <= 16777215 := by omega
  have t1l : decide (x1 < 128) = false := by simp; omega
  have t1h : decide (191 < x1) = false := by simp; omega
  have t2l : decide (x2 < 128) = false := by simp; omega
  have t2h : decide (191 < x2) = false := by simp; omega
  have tl : decide (x3 < 128) = false := by simp; omega
  have th : decide (191 < x3) = true := by simp; omega
  have HF := Lib.hid hf; have H2 := Lib.hid h2; clear hf h2 q0 q1 q2 q3 hl hse hcon2 hcon3
  go_enter Try.func50, Try.ntmps50
  go_wp2_with fail
  refine (size_any _ _ (by omega) (by omega)).mono ?_
  rintro e w1 ⟨rfl, rfl⟩
  rw [H2.out]
  go_wp2_with fail
  refine wp_loop_rounds 5 ?_; rw [rounds_succ]
  go_wp2_with fail
  go_quiet ((go_at_call 68; exact Calls.quiet_of_same (second_q _ _ true hsec _ (by omega) (by omega))))
  go_wp2_with fail
  rw [rounds_succ]
  go_wp2_with fail
  go_quiet (fail)
  go_wp2_with fail
  rw [rounds_succ]
  go_wp2_with fail
  go_quiet (fail)
  go_wp2_with fail
  go_ret2
  exact ⟨ret_two (by rw [HF.out]) (by rw [HF.out]; rfl), by repeat (first | exact Below.refl _ _ | refine ubelow_drewN ?_ _)⟩
theorem next_4_ok (s : ByteArray) (w : World) (hs : 0 < s.size) (hm : s.size <= 9223372036854775807) (x0 x1 x2 x3 : Int) (q0 : bt s.data.toList 0 = x0) (q1 : bt s.data.toList 1 = x1) (q2 : bt s.data.toList 2 = x2) (q3 : bt s.data.toList 3 = x3) (h2 : szOf x0 = 4) (hz : 3 < s.size) (hsec : uinB (loOf x0) (hiOf x0) x1 = true) (hc2 : 128 <= x2 /\ x2 <= 191) (hc3 : 128 <= x3 /\ x3 <= 191) :
  Calls Try.prog 50 #[.string s] w fun e w' => e = .returned (.tuple #[.int .i64 (nx s.data.toList).1, .int .i64 (nx s.data.toList).2]) /\ Below w.heap.size w w' := by
  have y0 : ((s[0]'hs).toNat : Int) = x0 := by rw [bt_get s 0 hs, q0]
  have r0 := bt_lt s.data.toList 0; rw [q0] at r0
  have y1 : ((s[1]'(by omega)).toNat : Int) = x1 := by rw [bt_get s 1 (by omega), q1]
  have r1 := bt_lt s.data.toList 1; rw [q1] at r1
  have hlI1 : (1 : Int) < (s.size : Int) := by omega
  have hd1 : decide ((s.size : Int) <= 1) = false := by simp; omega
  have y2 : ((s[2]'(by omega)).toNat : Int) = x2 := by rw [bt_get s 2 (by omega), q2]
  have r2 := bt_lt s.data.toList 2; rw [q2] at r2
  have hlI2 : (2 : Int) < (s.size : Int) := by omega
  have hd2 : decide ((s.size : Int) <= 2) = false := by simp; omega
  have y3 : ((s[3]'(by omega)).toNat : Int) = x3 := by rw [bt_get s 3 (by omega), q3]
  have r3 := bt_lt s.data.toList 3; rw [q3] at r3
  have hlI3 : (3 : Int) < (s.size : Int) := by omega
  have hd3 : decide ((s.size : Int) <= 3) = false := by simp; omega
  have hl : s.data.toList.length = s.size := rfl
  have hb0 : szOf x0 = 4 /\ 240 <= x0 /\ x0 <= 244 := by have := szOf_cases x0; omega
  replace hb0 := hb0.2
  have hse := sec_of _ _ _ q0 q1 (by rw [hl]; omega) hsec
  have hcon2 : con s.data.toList 2 := by unfold con; rw [q2, hl]; exact ⟨by omega, hc2⟩
  have hcon3 : con s.data.toList 3 := by unfold con; rw [q3, hl]; exact ⟨by omega, hc3⟩
  have hf : nx s.data.toList = (((x0 % 8 * 64 + x1 % 64) * 64 + x2 % 64) * 64 + x3 % 64, 4) := by unfold nx; rw [q0, q1, q2, q3, h2]; simp [hse, hcon2, hcon3]
  have hc1 := inB_low _ _ hsec
  have em := i64_and7 x0 (by omega) (by omega)
  have ea1 := i64_and63 x1 (by omega) (by omega)
  have eo1 := i64_or6 ((x0 % 8) * 64) (x1 % 64) (by omega) (by omega) (by omega) (by omega) (by omega)
  have ez1 : 0 <= x0 % 8 * 64 + x1 % 64 /\ x0 % 8 * 64 + x1 % 64 <= 16777215 := by omega
  have ea2 := i64_and63 x2 (by omega) (by omega)
  have eo2 := i64_or6 ((x0 % 8 * 64 + x1 % 64) * 64) (x2 % 64) (by omega) (by omega) (by omega) (by omega) (by omega)
  have ez2 : 0 <= (x0 % 8 * 64 + x1 % 64) * 64 + x2 % 64 /\ (x0 % 8 * 64 + x1 % 64) * 64 + x2 % 64 <= 16777215 := by omega
  have ea3 := i64_and63 x3 (by omega) (by omega)
  have eo3 := i64_or6 (((x0 % 8 * 64 + x1 % 64) * 64 + x2 % 64) * 64) (x3 % 64) (by omega) (by omega) (by omega) (by omega) (by omega)
  have ez3 : 0 <= ((x0 % 8 * 64 + x1 % 64) * 64 + x2 % 64) * 64 + x3 % 64 /\ ((x0 % 8 * 64 + x1 % 64) * 64 + x2 % 64) * 64 + x3 % 64 <= 16777215 := by omega
  have t1l : decide (x1 < 128) = false := by simp; omega
  have t1h : decide (191 < x1) = false := by simp; omega
  have t2l : decide (x2 < 128) = false := by simp; omega
  have t2h : decide (191 < x2) = false := by simp; omega
  have t3l : decide (x3 < 128) = false := by simp; omega
  have t3h : decide (191 < x3) = false := by simp; omega
  have HF := Lib.hid hf; have H2 := Lib.hid h2; clear hf h2 q0 q1 q2 q3 hl hse hcon2 hcon3
  go_enter Try.func50, Try.ntmps50
  go_wp2_with fail
  refine (size_any _ _ (by omega) (by omega)).mono ?_
  rintro e w1 ⟨rfl, rfl⟩
  rw [H2.out]
  go_wp2_with fail
  refine wp_loop_rounds 5 ?_; rw [rounds_succ]
  go_wp2_with fail
  go_quiet ((go_at_call 68; exact Calls.quiet_of_same (second_q _ _ true hsec _ (by omega) (by omega))))
  go_wp2_with fail
  rw [rounds_succ]
  go_wp2_with fail
  go_quiet (fail)
  go_wp2_with fail
  rw [rounds_succ]
  go_wp2_with fail
  go_quiet (fail)
  go_wp2_with fail
  rw [rounds_succ]
  go_wp2_with fail
  go_ret2
  exact ⟨ret_two (by rw [HF.out]) (by rw [HF.out]; rfl), by repeat (first | exact Below.refl _ _ | refine ubelow_drewN ?_ _)⟩
theorem next_any (s : ByteArray) (w : World) (hs : 0 < s.size) (hm : s.size <= 9223372036854775807) :
  Calls Try.prog 50 #[.string s] w fun e w' => e = .returned (.tuple #[.int .i64 (nx s.data.toList).1, .int .i64 (nx s.data.toList).2]) /\ Below w.heap.size w w' := by
  have r2 := bt_lt s.data.toList 2; have r3 := bt_lt s.data.toList 3
  have H := szOf_cases (bt s.data.toList 0)
  have hn : szOf (bt s.data.toList 0) = 0 \/ szOf (bt s.data.toList 0) = 1 \/ szOf (bt s.data.toList 0) = 2 \/ szOf (bt s.data.toList 0) = 3 \/ szOf (bt s.data.toList 0) = 4 := by omega
  clear H
  rcases hn with h | h | h | h | h
  ·exact next_0 s w hs hm _ _ _ _ rfl rfl rfl rfl h
  ·exact next_1 s w hs hm _ _ _ _ rfl rfl rfl rfl h
  ·by_cases z1 : 1 < s.size
   ·cases hsec : uinB (loOf (bt s.data.toList 0)) (hiOf (bt s.data.toList 0)) (bt s.data.toList 1)
    ·exact next_2_1b s w hs hm _ _ _ _ rfl rfl rfl rfl h z1 hsec
    ·exact next_2_ok s w hs hm _ _ _ _ rfl rfl rfl rfl h z1 hsec
   ·exact next_2_1a s w hs hm _ _ _ _ rfl rfl rfl rfl h (by omega)
  ·by_cases z1 : 1 < s.size
   ·cases hsec : uinB (loOf (bt s.data.toList 0)) (hiOf (bt s.data.toList 0)) (bt s.data.toList 1)
    ·exact next_3_1b s w hs hm _ _ _ _ rfl rfl rfl rfl h z1 hsec
    ·by_cases z2 : 2 < s.size
     ·by_cases l2 : bt s.data.toList 2 < 128
      ·exact next_3_2d s w hs hm _ _ _ _ rfl rfl rfl rfl h z2 hsec l2
      ·by_cases h2 : 191 < bt s.data.toList 2
       ·exact next_3_2e s w hs hm _ _ _ _ rfl rfl rfl rfl h z2 hsec h2
       ·exact next_3_ok s w hs hm _ _ _ _ rfl rfl rfl rfl h z2 hsec ⟨by omega, by omega⟩
     ·exact next_3_2a s w hs hm _ _ _ _ rfl rfl rfl rfl h z1 hsec (by omega)
   ·exact next_3_1a s w hs hm _ _ _ _ rfl rfl rfl rfl h (by omega)
  ·by_cases z1 : 1 < s.size
   ·cases hsec : uinB (loOf (bt s.data.toList 0)) (hiOf (bt s.data.toList 0)) (bt s.data.toList 1)
    ·exact next_4_1b s w hs hm _ _ _ _ rfl rfl rfl rfl h z1 hsec
    ·by_cases z2 : 2 < s.size
     ·by_cases l2 : bt s.data.toList 2 < 128
      ·exact next_4_2d s w hs hm _ _ _ _ rfl rfl rfl rfl h z2 hsec l2
      ·by_cases h2 : 191 < bt s.data.toList 2
       ·exact next_4_2e s w hs hm _ _ _ _ rfl rfl rfl rfl h z2 hsec h2
       ·by_cases z3 : 3 < s.size
        ·by_cases l3 : bt s.data.toList 3 < 128
         ·exact next_4_3d s w hs hm _ _ _ _ rfl rfl rfl rfl h z3 hsec ⟨by omega, by omega⟩ l3
         ·by_cases h3 : 191 < bt s.data.toList 3
          ·exact next_4_3e s w hs hm _ _ _ _ rfl rfl rfl rfl h z3 hsec ⟨by omega, by omega⟩ h3
          ·exact next_4_ok s w hs hm _ _ _ _ rfl rfl rfl rfl h z3 hsec ⟨by omega, by omega⟩ ⟨by omega, by omega⟩
        ·exact next_4_3a s w hs hm _ _ _ _ rfl rfl rfl rfl h z2 hsec ⟨by omega, by omega⟩ (by omega)
     ·exact next_4_2a s w hs hm _ _ _ _ rfl rfl rfl rfl h z1 hsec (by omega)
   ·exact next_4_1a s w hs hm _ _ _ _ rfl rfl rfl rfl h (by omega)
end Go.Proofs.Ytacgakkcpmhgmaa
namespace Go.Proofs.Ytacgakkcpmhgmaa
def toks : Nat -> List UInt8 -> List (Int × Nat)
 | 0, _ => []
 | f + 1, l => if l = [] then [] else nx l :: toks f (l.drop (nx l).2)
def dc (l : List UInt8) : List (Int × Nat) := toks l.length l
theorem toks_more : ∀ (f g : Nat) (l : List UInt8), l.length <= f -> l.length <= g -> toks f l = toks g l := by
 intro f
 induction f with
 | zero =>
   intro g l h _
   have : l = [] := List.eq_nil_of_length_eq_zero (by omega)
   subst this
   cases g <;> simp [toks]
 | succ f ih =>
   intro g l h h'
   by_cases hl : l = []
   ·subst hl
    cases g <;> simp [toks]
   ·have hp := List.length_pos_iff.2 hl
    obtain ⟨g, rfl⟩ : ∃ g', g = g' + 1 := ⟨g - 1, by omega⟩
    have hn := nx_le l hl
    simp only [toks, hl, if_false]
    rw [ih g (l.drop (nx l).2) (by rw [List.length_drop]; omega) (by rw [List.length_drop]; omega)]
theorem dc_nil : dc [] = [] := rfl
theorem dc_cons (l : List UInt8) (hl : l ≠ []) : dc l = nx l :: dc (l.drop (nx l).2) := by
 have hp := List.length_pos_iff.2 hl
 have hn := nx_le l hl
 unfold dc
 obtain ⟨m, hm⟩ : ∃ m, l.length = m + 1 := ⟨l.length - 1, by omega⟩
 rw [hm]
 simp only [toks, hl, if_false]
 rw [toks_more m _ _ (by rw [List.length_drop]; omega) (Nat.le_refl _)]
def scs (l : List UInt8) : List Int := (dc l).map (·.1)
def offsOf : Nat -> List (Int × Nat) -> List Int
 | _, [] => []
 | k, t :: ts => (k : Int) :: offsOf (k + t.2) ts
def ofs (k : Nat) (l : List UInt8) : List Int := offsOf k (dc l)
theorem scs_nil : scs [] = [] := rfl
theorem ofs_nil (k : Nat) : ofs k [] = [] := rfl
theorem scs_cons (l : List UInt8) (hl : l ≠ []) : scs l = (nx l).1 :: scs (l.drop (nx l).2) := by unfold scs; rw [dc_cons l hl]; rfl
theorem ofs_cons (k : Nat) (l : List UInt8) (hl : l ≠ []) : ofs k l = (k : Int) :: ofs (k + (nx l).2) (l.drop (nx l).2) := by unfold ofs; rw [dc_cons l hl]; rfl
theorem offsOf_length (ts : List (Int × Nat)) : ∀ k, (offsOf k ts).length = ts.length := by
 induction ts with
 | nil => intro k; rfl
 | cons t ts ih => intro k; simp [offsOf, ih]
theorem ofs_length (k : Nat) (l : List UInt8) : (ofs k l).length = (scs l).length := by unfold ofs scs; rw [offsOf_length, List.length_map]
theorem scs_length_le (l : List UInt8) : (scs l).length <= l.length := by
 have key : ∀ (n : Nat) (l : List UInt8), l.length <= n -> (scs l).length <= l.length := by
  intro n
  induction n with
  | zero =>
    intro l h
    have : l = [] := List.eq_nil_of_length_eq_zero (by omega)
    subst this; simp [scs_nil]
  | succ n ih =>
    intro l h
    by_cases hl : l = []
    ·subst hl; simp [scs_nil]
    ·have hn := nx_le l hl
     have := ih (l.drop (nx l).2) (by rw [List.length_drop]; omega)
     rw [scs_cons l hl, List.length_cons]
     rw [List.length_drop] at this
     omega
 exact key l.length l (Nat.le_refl _)
theorem drop_ne (l : List UInt8) (p : Nat) (h : p < l.length) : l.drop p ≠ [] := by
 intro e
 have := congrArg List.length e
 rw [List.length_drop] at this
 simp at this; omega
theorem scs_at (l : List UInt8) (p : Nat) (h : p < l.length) : scs (l.drop p) = (nx (l.drop p)).1 :: scs (l.drop (p + (nx (l.drop p)).2)) := by
 rw [scs_cons _ (drop_ne l p h), List.drop_drop]
theorem ofs_at (l : List UInt8) (p : Nat) (h : p < l.length) : ofs p (l.drop p) = (p : Int) :: ofs (p + (nx (l.drop p)).2) (l.drop (p + (nx (l.drop p)).2)) := by
 rw [ofs_cons _ _ (drop_ne l p h), List.drop_drop]
theorem nx_at (l : List UInt8) (p : Nat) (h : p < l.length) : 1 <= (nx (l.drop p)).2 /\ (nx (l.drop p)).2 <= 4 /\ p + (nx (l.drop p)).2 <= l.length := by
 have := nx_le _ (drop_ne l p h)
 rw [List.length_drop] at this
 omega
end Go.Proofs.Ytacgakkcpmhgmaa
namespace Go.Proofs.Ytacgakkcpmhgmaa
open Go.RowKit Go.Proofs
theorem extract_list (s : ByteArray) (k : Nat) : (s.extract k s.size).data.toList = s.data.toList.drop k := by
 rw [ByteArray.data_extract, Array.toList_extract, List.extract_eq_drop_take']
 rw [List.take_of_length_le (show s.data.toList.length <= s.size from Nat.le_refl _)]
def DecTells (B : Nat) (w : World) (s : ByteArray) (e : Ending) (w' : World) : Prop :=
 ∃ v u, e = .returned (.tuple #[v, u]) /\ Own w' B v (scs s.data.toList).length (scs s.data.toList) /\ Own w' B u ((scs s.data.toList).length + 1) (ofs 0 s.data.toList ++ [(s.size : Int)]) /\ Apart v u /\ Below B w w'
theorem refdecode_any (s : ByteArray) (w : World) (hm : s.size <= 1000000) :
  Calls Try.prog 20 #[.string s] w (DecTells w.heap.size w s) := by
  have hl : s.data.toList.length = s.size := rfl
  have HL := Lib.hid hl; clear hl
  go_enter Try.func20, Try.ntmps20
  go_wp2_with fail
  go_loopw [4, 5, 6] (fun v u i wr => ∃ (k n : Nat) (O A : List Int), k <= s.size /\ n <= k /\ i = .int .i64 k /\ Own wr w.heap.size v n O /\ Own wr w.heap.size u n A /\ Apart v u /\ Below w.heap.size w wr /\ O ++ scs (s.data.toList.drop k) = scs s.data.toList /\ A ++ ofs k (s.data.toList.drop k) = ofs 0 s.data.toList) (fun _ _ i _ => s.size - (intOf i).toNat)
  case atStart => exact ⟨0, 0, [], [], Nat.zero_le _, Nat.le_refl _, rfl, Own.nil _ _, Own.nil _ _, Apart.nil, Below.refl _ _, by simp, by simp⟩
  case round =>
   obtain ⟨k, n, O, A, hk, hnk, rfl, hv, hu, hap, hbw, hO, hA⟩ := hrel
   by_cases hlt : k < s.size
   ·have k0 : (0 : Int) <= (k : Int) := Int.natCast_nonneg _
    have k1 : (k : Int) < (s.size : Int) := by omega
    have hs := scs_at s.data.toList k (by rw [HL.out]; exact hlt)
    have ho := ofs_at s.data.toList k (by rw [HL.out]; exact hlt)
    obtain ⟨hn1, hn2, hn3⟩ := nx_at s.data.toList k (by rw [HL.out]; exact hlt)
    rw [HL.out] at hn3
    rw [hs] at hO; rw [ho] at hA
    have hx := extract_list s k
    have HX := Lib.hid hx
    have HV := Lib.hid hv; have HU := Lib.hid hu; have HAP := Lib.hid hap; have HBW := Lib.hid hbw; have HO := Lib.hid hO; have HA := Lib.hid hA
    clear hs ho hx hv hu hap hbw hO hA
    go_wp2_with fail
    refine (next_any (s.extract k s.size) _ (by rw [ByteArray.size_extract]; omega) (by rw [ByteArray.size_extract]; omega)).mono ?_
    rintro e w1 ⟨rfl, hb1⟩
    rw [HX.out]
    have HV1 := Lib.hid (HV.out.below_top hb1); have HU1 := Lib.hid (HU.out.below_top hb1)
    have HBW1 := Lib.hid (HBW.out.trans (hb1.mono HBW.out.size)); have hz1 := HBW1.out.size
    clear hb1
    generalize (nx (s.data.toList.drop k)).1 = r at *
    generalize (nx (s.data.toList.drop k)).2 = m at *
    go_wp2_with (first
     | (at_builtin; refine wpList_push rfl (.tmp 20) (.tmp 22) rfl w.heap.size w1 u4 n O r (by rfl) HV1.out (by rfl) (by omega) hz1 ?_
        intro g1 c1 w2 hp1
        have HP1 := Lib.hid hp1
        have HU2 := Lib.hid (hp1.other HAP.out HU1.out)
        have HBW2 := Lib.hid (hp1.below HBW1.out (Nat.le_refl _) hz1); have hz2 := HBW2.out.size
        clear hp1)
     | (at_builtin; refine wpList_push rfl (.tmp 24) (.tmp 26) rfl w.heap.size w2 u5 n A k (by rfl) HU2.out.1 (by rfl) (by omega) hz2 ?_
        intro g2 c2 w3 hp2
        have HF := Lib.hid (hp2.other HU2.out.2.symm HP1.out.own)
        have HP2 := Lib.hid hp2.own
        have HBW3 := Lib.hid (hp2.below HBW2.out (Nat.le_refl _) hz2)
        clear hp2))
    exact ⟨⟨k + m, n + 1, O ++ [r], A ++ [(k : Int)], by omega, by omega, by go_num, HF.out.1, HP2.out, HF.out.2.symm, HBW3.out, by rw [<- HO.out]; simp, by rw [<- HA.out]; simp⟩, by simp [intOf]; omega⟩
   ·have hke : k = s.size := by omega
    have hd : s.data.toList.drop k = [] := List.drop_of_length_le (by rw [HL.out]; omega)
    rw [hd, scs_nil, List.append_nil] at hO
    rw [hd, ofs_nil, List.append_nil] at hA
    have hOn := hv.len
    have HON := Lib.hid hOn; have HKE := Lib.hid hke
    have HV := Lib.hid hv; have HU := Lib.hid hu; have HAP := Lib.hid hap; have HBW := Lib.hid hbw; have HO := Lib.hid hO; have HA := Lib.hid hA
    have hz := hbw.size
    clear hd hv hu hap hbw hO hA hOn hke
    go_wp2_with (at_builtin; refine wpList_push rfl (.tmp 32) (.tmp 35) rfl w.heap.size wr u5 n A s.size (by rfl) HU.out (by rfl) (by omega) hz ?_
                 intro g2 c2 w3 hp2
                 have HF := Lib.hid (hp2.other HAP.out.symm HV.out)
                 have HP2 := Lib.hid hp2.own
                 have HBW3 := Lib.hid (hp2.below HBW.out (Nat.le_refl _) hz)
                 clear hp2)
    go_ret2
    refine ⟨_, _, rfl, ?_, ?_, HF.out.2.symm, HBW3.out⟩
    ·rw [<- HO.out, HON.out]; exact HF.out.1
    ·rw [<- HO.out, HON.out, <- HA.out]; exact HP2.out
end Go.Proofs.Ytacgakkcpmhgmaa
namespace Go.Proofs.Ytacgakkcpmhgmaa
open Go.RowKit Go.Proofs
theorem Own.iterAt {w : World} {B n k p : Nat} {v : Value} {l : List Int} {s : ByteArray} (h : Own w B v n l) (hk : w.heap[k]? = some (.stringIter s p)) (p' : Nat) : Own (w.iterAt k s p') B v n l := by
 have hne := h.ne_iter hk
 obtain ⟨h1, h2⟩ := h
 refine ⟨h1, ?_⟩
 rcases h2 with h2 | ⟨g, cap, cur, rfl, hg, hh, r⟩
 ·exact .inl h2
 ·refine .inr ⟨g, cap, cur, rfl, hg, ?_, r⟩
  rw [Lib.iterAt_other w k g s p' (fun e => hne (by rw [e]; rfl))]
  exact hh
theorem fr_nx (l : List UInt8) (hl : l ≠ []) (h : (nx l).1 = 65533) : fr l = (nx l).2 := by
 have hp := List.length_pos_iff.2 hl
 have h0 := bt_lt l 0; have h1 := bt_lt l 1; have h2 := bt_lt l 2; have h3 := bt_lt l 3
 have hn := nx_cases l
 have hs : sec l ↔ 1 < l.length /\ uinB (loOf (bt l 0)) (hiOf (bt l 0)) (bt l 1) = true := by rw [uinB_iff]; rfl
 have e2 : con l 2 ↔ 2 < l.length /\ uinB 128 191 (bt l 2) = true := by rw [uinB_iff]; rfl
 have e3 : con l 3 ↔ 3 < l.length /\ uinB 128 191 (bt l 3) = true := by rw [uinB_iff]; rfl
 have hsl := sec_cases l
 have hb : 194 <= bt l 0 -> bt l 0 <= 244 -> spLo (bt l 0) = loOf (bt l 0) /\ spHi (bt l 0) = hiOf (bt l 0) := fun a b => by
  unfold spLo spHi
  rw [if_neg (by omega), if_neg (by omega)]
  exact ⟨rfl, rfl⟩
 have hls : lsOf (bt l 0) = if bt l 0 < 194 then 1 else if bt l 0 <= 223 then 2 else if bt l 0 <= 239 then 3 else if bt l 0 <= 244 then 4 else 1 := rfl
 have hl2 : 194 <= bt l 0 -> bt l 0 <= 244 -> ¬ lsOf (bt l 0) < 2 := fun a b => by rw [hls]; (repeat' split) <;> omega
 unfold fr
 rcases hn with ⟨g, e⟩ | ⟨g, e⟩ | ⟨g1, g2, hS, e⟩ | ⟨g1, g2, hS, e⟩ | ⟨g1, g2, hS, q2, e⟩ | ⟨g1, g2, hS, q2, e⟩ | ⟨g1, g2, hS, q2, q3, e⟩ | ⟨g1, g2, hS, q2, q3, e⟩ <;> rw [e] at h ⊢
 ·simp only at h; omega
 ·rw [if_pos (by rw [hls]; (repeat' split) <;> omega)]
 ·rw [(hb (by omega) (by omega)).1, (hb (by omega) (by omega)).2, if_neg (hl2 (by omega) (by omega)), if_pos (fun hh => hS (hs.2 hh))]
 ·simp only at h
  have := hsl.1 hS
  exfalso; omega
 ·rw [(hb (by omega) (by omega)).1, (hb (by omega) (by omega)).2, if_neg (hl2 (by omega) (by omega)), if_neg (fun hh => hh (hs.1 hS))]
  split
  ·rfl
  ·rw [if_pos (fun hh => q2 (e2.2 hh))]
 ·rw [(hb (by omega) (by omega)).1, (hb (by omega) (by omega)).2, if_neg (hl2 (by omega) (by omega)), if_neg (fun hh => hh (hs.1 hS)), if_neg (by rw [hls]; (repeat' split) <;> omega), if_neg (fun hh => hh (e2.1 q2)), if_pos (by rw [hls]; (repeat' split) <;> omega)]
 ·rw [(hb (by omega) (by omega)).1, (hb (by omega) (by omega)).2, if_neg (hl2 (by omega) (by omega)), if_neg (fun hh => hh (hs.1 hS)), if_neg (by rw [hls]; (repeat' split) <;> omega), if_neg (fun hh => hh (e2.1 q2)), if_neg (by rw [hls]; (repeat' split) <;> omega), if_pos (fun hh => q3 (e3.2 hh))]
 ·simp only at h
  have := hsl.1 hS
  have := (con_iff l 2).1 q2
  exfalso; omega
end Go.Proofs.Ytacgakkcpmhgmaa
namespace Go.Proofs.Ytacgakkcpmhgmaa
open Go.RowKit Go.Proofs
def Skips (s : ByteArray) (a e : Nat) : Prop := ∀ j, a <= j -> j < e -> Utf8.decode s j = (65533, 1)
theorem Skips.none {s : ByteArray} {a e : Nat} (h : e <= a) : Skips s a e := fun j h1 h2 => by omega
theorem Skips.next {s : ByteArray} {a e : Nat} (h : Skips s a e) : Skips s (a + 1) e := fun j h1 h2 => h j (by omega) h2
theorem Skips.front {s : ByteArray} {p n m : Nat} (hm : 1 <= m) (h : ∀ j, 1 <= j -> j < n -> con (s.data.toList.drop p) j) : Skips s (p + m) (p + n) := fun j h1 h2 => by
 have := decode_con s p (j - p) (h (j - p) (by omega) (by omega))
 rwa [show p + (j - p) = j by omega] at this
theorem decode_any (s : ByteArray) (w : World) (hm : s.size <= 1000000) :
  Calls Try.prog 78 #[.string s] w (DecTells w.heap.size w s) := by
  have hl : s.data.toList.length = s.size := rfl
  have HL := Lib.hid hl; clear hl
  go_enter Try.func78, Try.ntmps78
  go_wp2_with fail
  go_loopw [2, 3, 4] (fun v u x wr => ∃ (pos E n : Nat) (O A : List Int), pos <= s.size /\ E <= s.size /\ n <= max pos E /\ x = .int .i64 E /\ wr.heap[w.heap.size]? = some (.stringIter s pos) /\ Own wr w.heap.size v n O /\ Own wr w.heap.size u n A /\ Apart v u /\ Below w.heap.size w wr /\ Skips s pos E /\ O ++ scs (s.data.toList.drop (max pos E)) = scs s.data.toList /\ A ++ ofs (max pos E) (s.data.toList.drop (max pos E)) = ofs 0 s.data.toList) (fun _ _ _ wr => s.size - wr.iterPos w.heap.size)
  case atStart =>
   exact ⟨0, 0, 0, [], [], Nat.zero_le _, Nat.zero_le _, Nat.zero_le _, rfl, by simpa using World.iter_heap w s 0, Own.nil _ _, Own.nil _ _, Apart.nil, (Below.refl _ _).alloc (Nat.le_refl _) _, Skips.none (Nat.le_refl _), by simp, by simp⟩
  case round =>
   obtain ⟨pos, E, n, O, A, hpos, hE, hn, rfl, hit, hv, hu, hap, hbw, hsk, hO, hA⟩ := hrel
   have hsz : w.heap.size < wr.heap.size := (Array.getElem?_eq_some_iff.1 hit).1
   by_cases hp : pos < s.size
   ·have hnx : ∀ ty, (Instr.next (.pointer (some ⟨w.heap.size, 0, none⟩)) true ty).run Try.prog wr = _ := fun ty => Lib.run_next_any_at wr w.heap.size s pos ty hit hp
    have hwd := decode_le s pos
    by_cases hpe : pos < E
    ·have hdec := hsk pos (Nat.le_refl _) hpe
     rw [hdec] at hnx
     simp only at hnx
     have hsk2 := hsk.next
     have hit2 := Lib.iterAt_heap wr w.heap.size s pos (pos + 1) hit
     have hv2 := hv.iterAt hit (pos + 1); have hu2 := hu.iterAt hit (pos + 1)
     have hbw2 := Lib.below_iterAt hbw (k := w.heap.size) (Nat.le_refl _) s (pos + 1)
     have hmx : max (pos + 1) E = max pos E := by omega
     have HMX := Lib.hid hmx
     have HIT := Lib.hid hit; have HIT2 := Lib.hid hit2
     have HV := Lib.hid hv2; have HU := Lib.hid hu2; have HAP := Lib.hid hap; have HBW := Lib.hid hbw2; have HO := Lib.hid hO; have HA := Lib.hid hA; have HSK := Lib.hid hsk2
     clear hdec hsk hsk2 hit hit2 hv hu hv2 hu2 hap hbw hbw2 hmx hO hA
     go_wp2_with fail
     refine ⟨⟨pos + 1, E, n, O, A, by omega, hE, by omega, rfl, HIT2.out, HV.out, HU.out, HAP.out, HBW.out, HSK.out, by rw [HMX.out]; exact HO.out, by rw [HMX.out]; exact HA.out⟩, ?_⟩
     simp only [World.iterPos, HIT2.out, HIT.out]
     omega
    ·obtain ⟨r, wd, hrw⟩ : ∃ r wd, Utf8.decode s pos = (r, wd) := ⟨_, _, rfl⟩
     have hmx : max pos E = pos := by omega
     rw [hmx] at hO hA hn
     have hcut := decode_nx s pos hp
     rw [hrw] at hnx hwd hcut
     simp only at hnx hwd hcut
     have hs := scs_at s.data.toList pos (by rw [HL.out]; exact hp)
     have ho := ofs_at s.data.toList pos (by rw [HL.out]; exact hp)
     have hdn := drop_ne s.data.toList pos (by rw [HL.out]; exact hp)
     obtain ⟨hn1, hn2, hn3⟩ := nx_at s.data.toList pos (by rw [HL.out]; exact hp)
     rw [HL.out] at hn3
     rw [hs] at hO; rw [ho] at hA
     have hfr := fr_nx _ hdn
     have hx := extract_list s pos
     have HX := Lib.hid hx; clear hx hs ho hdn hsk hmx hrw
     have hcs : ((r : Int) ≠ 65533 /\ nx (s.data.toList.drop pos) = ((r : Int), wd)) \/ ((r : Int) = 65533 /\ (nx (s.data.toList.drop pos)).1 = 65533 /\ 1 <= wd /\ wd <= (nx (s.data.toList.drop pos)).2 /\ Skips s (pos + wd) (pos + (nx (s.data.toList.drop pos)).2)) := by
      by_cases h9 : (r : Int) = 65533
      ·right
       rcases hcut with hc | ⟨hc1, hc2, hc3⟩
       ·rw [<- hc] at hn1 hn2 hn3 ⊢
        exact ⟨h9, h9, hn1, Nat.le_refl _, Skips.none (Nat.le_refl _)⟩
       ·have hw1 : wd = 1 := (Prod.mk.inj hc1).2
        subst hw1
        exact ⟨h9, hc2, by omega, hn1, Skips.front (by omega) hc3⟩
      ·left
       rcases hcut with hc | ⟨hc1, hc2, hc3⟩
       ·exact ⟨h9, hc.symm⟩
       ·exact absurd (by have := (Prod.mk.inj hc1).1; omega) h9
     clear hcut
     have hr0 : (0 : Int) <= (r : Int) := Int.natCast_nonneg _
     have hr1 : (r : Int) <= 2147483647 := by omega
     have p0 : (0 : Int) <= (pos : Int) := Int.natCast_nonneg _
     have p1 : (pos : Int) < (s.size : Int) := by omega
     have hit2 := Lib.iterAt_heap wr w.heap.size s pos (pos + wd) hit
     have hv2 := hv.iterAt hit (pos + wd); have hu2 := hu.iterAt hit (pos + wd)
     have hbw2 := Lib.below_iterAt hbw (k := w.heap.size) (Nat.le_refl _) s (pos + wd)
     have hz2 := hbw2.size
     have HIT := Lib.hid hit; have HIT2 := Lib.hid hit2
     have HV := Lib.hid hv2; have HU := Lib.hid hu2; have HAP := Lib.hid hap; have HBW := Lib.hid hbw2
     clear hit hit2 hv hu hv2 hu2 hap hbw hbw2
     rcases hcs with ⟨h9, hc⟩ | ⟨h9, hc1, hw0, hw1, hsk⟩
     ·rw [hc] at hO hA hn1 hn2 hn3
      simp only at hO hA hn1 hn2 hn3
      have HO := Lib.hid hO; have HA := Lib.hid hA; have HFR := Lib.hid hfr
      have t9 : ((r : Int) == 65533) = false := by simpa using h9
      have hmx : max (pos + wd) E = pos + wd := by omega
      have HMX := Lib.hid hmx
      clear hO hA hfr hc hmx h9
      go_wp2_with (first
       | (at_builtin; refine wpList_push rfl (.tmp 16) (.tmp 19) rfl w.heap.size _ u2 n O r (by rfl) HV.out (by rfl) (by omega) hz2 ?_
          intro g1 c1 w2 hp1
          have HP1 := Lib.hid hp1
          have HU2 := Lib.hid (hp1.other HAP.out HU.out)
          have HI1 := Lib.hid (hp1.iter HV.out HIT2.out)
          have HBW2 := Lib.hid (hp1.below HBW.out (Nat.le_refl _) hz2); have hz3 := HBW2.out.size
          clear hp1)
       | (at_builtin; refine wpList_push rfl (.tmp 21) (.tmp 23) rfl w.heap.size w2 u3 n A pos (by rfl) HU2.out.1 (by rfl) (by omega) hz3 ?_
          intro g2 c2 w3 hp2
          have HF := Lib.hid (hp2.other HU2.out.2.symm HP1.out.own)
          have HP2 := Lib.hid hp2.own
          have HI2 := Lib.hid (hp2.iter HU2.out.1 HI1.out)
          have HBW3 := Lib.hid (hp2.below HBW2.out (Nat.le_refl _) hz3)
          clear hp2))
      refine ⟨⟨pos + wd, E, n + 1, O ++ [(r : Int)], A ++ [(pos : Int)], by omega, hE, by omega, rfl, HI2.out, HF.out.1, HP2.out, HF.out.2.symm, HBW3.out, Skips.none (by omega), by rw [HMX.out, <- HO.out]; simp, by rw [HMX.out, <- HA.out]; simp⟩, ?_⟩
      simp only [World.iterPos, HI2.out, HIT.out]
      omega
     ·have hfr2 := hfr hc1
      rw [hc1] at hO
      have HO := Lib.hid hO; have HA := Lib.hid hA; have HFR := Lib.hid hfr2; have HSK := Lib.hid hsk
      have t9 : ((r : Int) == 65533) = true := by simpa using h9
      have HR := Lib.hid h9
      generalize hmn : (nx (s.data.toList.drop pos)).2 = m at *
      have hmx : max (pos + wd) (pos + m) = pos + m := by omega
      have HMX := Lib.hid hmx
      clear hO hA hfr hfr2 hc1 hmn hsk hmx h9
      go_wp2_with (first
       | (at_builtin; refine wpList_push rfl (.tmp 16) (.tmp 19) rfl w.heap.size _ u2 n O r (by rfl) HV.out (by rfl) (by omega) hz2 ?_
          intro g1 c1 w2 hp1
          have HP1 := Lib.hid hp1
          have HU2 := Lib.hid (hp1.other HAP.out HU.out)
          have HI1 := Lib.hid (hp1.iter HV.out HIT2.out)
          have HBW2 := Lib.hid (hp1.below HBW.out (Nat.le_refl _) hz2); have hz3 := HBW2.out.size
          clear hp1)
       | (at_builtin; refine wpList_push rfl (.tmp 21) (.tmp 23) rfl w.heap.size w2 u3 n A pos (by rfl) HU2.out.1 (by rfl) (by omega) hz3 ?_
          intro g2 c2 w3 hp2
          have HF := Lib.hid (hp2.other HU2.out.2.symm HP1.out.own)
          have HP2 := Lib.hid hp2.own
          have HI2 := Lib.hid (hp2.iter HU2.out.1 HI1.out)
          have HBW3 := Lib.hid (hp2.below HBW2.out (Nat.le_refl _) hz3)
          clear hp2)
       | (go_at_call 85; (with_reducible refine (front_any (s.extract pos s.size) _ (by rw [ByteArray.size_extract]; omega) (by rw [ByteArray.size_extract]; omega)).mono ?_)
          rintro e w4 ⟨rfl, hb4⟩
          rw [HX.out, HFR.out]
          have HG1 := Lib.hid (HF.out.1.below_top hb4); have HG2 := Lib.hid (HP2.out.below_top hb4)
          have HI4 := Lib.hid ((hb4.block w.heap.size (Array.getElem?_eq_some_iff.1 HI2.out).1).trans HI2.out)
          have HBW4 := Lib.hid (HBW3.out.trans (hb4.mono HBW3.out.size))
          clear hb4))
      refine ⟨⟨pos + wd, pos + m, n + 1, O ++ [(65533 : Int)], A ++ [(pos : Int)], by omega, by omega, by omega, by go_num, HI4.out, by rw [<- HR.out]; exact HG1.out, HG2.out, HF.out.2.symm, HBW4.out, HSK.out, by rw [HMX.out, <- HO.out]; simp, by rw [HMX.out, <- HA.out]; simp⟩, ?_⟩
      simp only [World.iterPos, HI4.out, HIT.out]
      omega
   ·have hnx : ∀ ty, (Instr.next (.pointer (some ⟨w.heap.size, 0, none⟩)) true ty).run Try.prog wr = _ := fun ty => Lib.run_next_end_at wr w.heap.size s pos ty hit hp
    have hd : s.data.toList.drop (max pos E) = [] := List.drop_of_length_le (by rw [HL.out]; omega)
    rw [hd, scs_nil, List.append_nil] at hO
    rw [hd, ofs_nil, List.append_nil] at hA
    have hOn := hv.len
    have hn9 : n <= 1000000 := by omega
    have hzz := hbw.size
    have HON := Lib.hid hOn
    have HV := Lib.hid hv; have HU := Lib.hid hu; have HAP := Lib.hid hap; have HBW := Lib.hid hbw; have HO := Lib.hid hO; have HA := Lib.hid hA
    clear hd hv hu hap hbw hO hA hOn hsk
    go_wp2_with (at_builtin; refine wpList_push rfl (.tmp 34) (.tmp 37) rfl w.heap.size wr u3 n A s.size (by rfl) HU.out (by rfl) (by omega) hzz ?_
                 intro g2 c2 w3 hp2
                 have HF := Lib.hid (hp2.other HAP.out.symm HV.out)
                 have HP2 := Lib.hid hp2.own
                 have HBW3 := Lib.hid (hp2.below HBW.out (Nat.le_refl _) hzz)
                 clear hp2)
    go_ret2
    refine ⟨_, _, rfl, ?_, ?_, HF.out.2.symm, HBW3.out⟩
    ·rw [<- HO.out, HON.out]; exact HF.out.1
    ·rw [<- HO.out, HON.out, <- HA.out]; exact HP2.out
end Go.Proofs.Ytacgakkcpmhgmaa
