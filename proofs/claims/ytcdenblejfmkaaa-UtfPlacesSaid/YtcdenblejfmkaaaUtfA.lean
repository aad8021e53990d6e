/- Contracts of the small functions over single numbers and bytes: Scalar (the project's and the document's own), size, second, behind, has, within. -/
import Derived.Test.YtcdenblejfmkaaaRows
import Derived.Test.YtcdenblejfmkaaaUtfP
import Derived.WalkKit
import Derived.WalkSpells
import Derived.Lib.Hide
import Derived.LoopTactic
import Derived.OpenShut
import Derived.Deep.QuietTactic
import Derived.BigQuiet
namespace Go.Proofs.Ytcdenblejfmkaaa
open Go.RowKit

theorem ret_int {k : IntKind} {a b : Int} (h : a = b) : Ending.returned (.int k a) = .returned (.int k b) := by rw [h]
theorem ret_bool {a b : Bool} (h : a = b) : Ending.returned (.bool a) = .returned (.bool b) := by rw [h]

def scB (n : Int) : Bool := decide (isScalar n)
theorem scB_iff (n : Int) : scB n = true ↔ isScalar n := by unfold scB; simp
theorem scB_cases (n : Int) : (n < 0 ∧ scB n = false) ∨ (0 ≤ n ∧ n < 55296 ∧ scB n = true) ∨ (55296 ≤ n ∧ n ≤ 57343 ∧ scB n = false) ∨ (57343 < n ∧ n ≤ 1114111 ∧ scB n = true) ∨ (1114111 < n ∧ scB n = false) := by
  have h : scB n = true ↔ 0 ≤ n ∧ n ≤ 1114111 ∧ (n < 55296 ∨ 57343 < n) := scB_iff n
  cases e : scB n
  · have : ¬ (0 ≤ n ∧ n ≤ 1114111 ∧ (n < 55296 ∨ 57343 < n)) := fun hh => by rw [h.2 hh] at e; cases e
    simp only [Bool.false_eq_true, and_false, and_true, false_or]
    omega
  · have := h.1 e
    simp only [Bool.true_eq_false, and_false, and_true, or_false, false_or]
    omega

theorem scalar_any (n : Int) (w : World) :
    Calls Try.prog 20 #[.int .i64 n] w fun e w' => e = .returned (.bool (scB n)) ∧ w = w' := by
  rcases scB_cases n with ⟨h1, h⟩ | ⟨h1, h2, h⟩ | ⟨h1, h2, h⟩ | ⟨h1, h2, h⟩ | ⟨h1, h⟩ <;> (have H := Lib.hid h; clear h)
  all_goals
    go_enter Try.func20, Try.ntmps20
    go_wp2_with fail
    go_ret
    exact ⟨ret_bool (by rw [H.out] <;> first | rfl | exact decide_eq_false (by omega) | exact decide_eq_true (by omega) | (simp; done) | (simp; omega)), rfl⟩

theorem refscalar_any (n : Int) (w : World) :
    Calls Try.prog 21 #[.int .i64 n] w fun e w' => e = .returned (.bool (scB n)) ∧ w = w' := by
  rcases scB_cases n with ⟨h1, h⟩ | ⟨h1, h2, h⟩ | ⟨h1, h2, h⟩ | ⟨h1, h2, h⟩ | ⟨h1, h⟩ <;> (have H := Lib.hid h; clear h)
  all_goals
    go_enter Try.func21, Try.ntmps21
    go_wp2_with fail
    go_ret
    exact ⟨ret_bool (by rw [H.out] <;> first | rfl | exact decide_eq_false (by omega) | exact decide_eq_true (by omega) | (simp; done) | (simp; omega)), rfl⟩

theorem size_any (c : Int) (w : World) (h0 : 0 ≤ c) (h1 : c < 256) :
    Calls Try.prog 30 #[.int .u8 c] w fun e w' => e = .returned (.int .i64 (szOf c)) ∧ w = w' := by
  rcases szOf_cases c with ⟨h, g⟩ | ⟨h, g1, g2⟩ | ⟨h, g1, g2⟩ | ⟨h, g1, g2⟩ | ⟨h, ⟨g1, g2⟩ | g⟩ <;> (have H := Lib.hid h; clear h)
  all_goals
    go_enter Try.func30, Try.ntmps30
    go_wp2_with fail
    go_ret
    exact ⟨ret_int (by rw [H.out]; rfl), rfl⟩

def inB (lo hi c : Int) : Bool := decide (lo ≤ c ∧ c ≤ hi)
theorem inB_cases (lo hi c : Int) : (c < lo ∧ inB lo hi c = false) ∨ (lo ≤ c ∧ c ≤ hi ∧ inB lo hi c = true) ∨ (lo ≤ c ∧ hi < c ∧ inB lo hi c = false) := by
  unfold inB
  by_cases h1 : lo ≤ c <;> by_cases h2 : c ≤ hi <;> simp [h1, h2] <;> omega
theorem inB_iff (lo hi c : Int) : inB lo hi c = true ↔ lo ≤ c ∧ c ≤ hi := by unfold inB; simp

theorem loOf_cases (c : Int) : (c = 224 ∧ loOf c = 160 ∧ hiOf c = 191) ∨ (c = 237 ∧ loOf c = 128 ∧ hiOf c = 159) ∨ (c = 240 ∧ loOf c = 144 ∧ hiOf c = 191) ∨ (c = 244 ∧ loOf c = 128 ∧ hiOf c = 143) ∨ (c ≠ 224 ∧ c ≠ 237 ∧ c ≠ 240 ∧ c ≠ 244 ∧ loOf c = 128 ∧ hiOf c = 191) := by
  unfold loOf hiOf
  (repeat' split) <;> omega

theorem second_any (f c : Int) (w : World) (h0 : 0 ≤ c) (h1 : c < 256) :
    Calls Try.prog 31 #[.int .u8 f, .int .u8 c] w fun e w' => e = .returned (.bool (inB (loOf f) (hiOf f) c)) ∧ w = w' := by
  rcases loOf_cases f with ⟨rfl, h2, h3⟩ | ⟨rfl, h2, h3⟩ | ⟨rfl, h2, h3⟩ | ⟨rfl, h2, h3⟩ | ⟨n1, n2, n3, n4, h2, h3⟩ <;> rw [h2, h3] <;> clear h2 h3
  all_goals
    rcases inB_cases _ _ c with ⟨g1, h⟩ | ⟨g1, g2, h⟩ | ⟨g1, g2, h⟩
  all_goals
    have H := Lib.hid h; clear h
    go_enter Try.func31, Try.ntmps31
    go_wp2_with fail
    all_goals
      go_ret
      exact ⟨ret_bool (by rw [H.out] <;> first | rfl | exact decide_eq_false (by omega) | exact decide_eq_true (by omega) | (simp; done) | (simp; omega)), rfl⟩

/-- What the law texts' within gives: a number from 0 to n - 1. -/
theorem tmod_neg (a n : Int) (h0 : a < 0) (hn : 1 ≤ n) : (a % n = 0 ∧ a.tmod n = 0) ∨ (1 ≤ a % n ∧ a.tmod n = a % n - n) := by
  have h1 : 0 ≤ a % n := Int.emod_nonneg _ (by omega)
  have h2 : (n.natAbs : Int) = n := by omega
  rw [Int.tmod_eq_emod]
  by_cases h : a % n = 0
  · left
    have : n ∣ a := Int.dvd_iff_emod_eq_zero.2 h
    simp [h, this]
  · right
    have : ¬ n ∣ a := fun hd => h (Int.dvd_iff_emod_eq_zero.1 hd)
    have h3 : ¬ 0 ≤ a := by omega
    rw [if_neg (by simp only [this, h3, or_self, not_false_eq_true]), h2]
    omega

theorem within_any (a n : Int) (w : World) (wa : (Lit.int .i64 a).wf = true) (hn : 1 ≤ n) (hn' : n ≤ 1152921504606846976) :
    Calls Try.prog 17 #[.int .i64 a, .int .i64 n] w fun e w' => e = .returned (.int .i64 (a % n)) ∧ w = w' := by
  have hb := bounds_i64 wa
  have hlt : a % n < n := Int.emod_lt_of_pos _ (by omega)
  clear wa
  by_cases h0 : 0 ≤ a
  · have h1 : 0 ≤ a % n := Int.emod_nonneg _ (by omega)
    go_enter Try.func17, Try.ntmps17
    go_wp2
    go_ret
    exact ⟨rfl, rfl⟩
  · rcases tmod_neg a n (by omega) hn with ⟨h1, h2⟩ | ⟨h1, h2⟩
    · have h3 : 0 ≤ a.tmod n := by omega
      have H1 := Lib.hid h1; have H2 := Lib.hid h2; clear h1 h2
      go_enter Try.func17, Try.ntmps17
      go_wp2
      go_ret
      exact ⟨ret_int (by rw [H1.out, H2.out]), rfl⟩
    · have h3 : a.tmod n < 0 := by omega
      have h4 : -1152921504606846976 ≤ a.tmod n := by omega
      have H2 := Lib.hid h2; clear h2
      go_enter Try.func17, Try.ntmps17
      go_wp2
      go_ret
      exact ⟨ret_int (by rw [H2.out]; omega), rfl⟩

end Go.Proofs.Ytcdenblejfmkaaa
