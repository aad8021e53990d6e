/- Contracts of the small functions of chapter 1's law texts: within, Cost, Add, the document's own Add: what each returns, for every number that may be. -/
import Derived.Test.YtcdenblejfmkaaaDoorRows
import Derived.WalkKit
import Derived.WalkSpells
import Derived.Lib.Hide
import Derived.LoopTactic
import Derived.OpenShut
namespace Go.Proofs.YtcdenblejfmkaaaDoor
open Go.RowKit

theorem ret_int {k : IntKind} {a b : Int} (h : a = b) : Ending.returned (.int k a) = .returned (.int k b) := by rw [h]

/-- A cost: 0 to Inf. -/
def IsCost (x : Int) : Prop := 0 ≤ x ∧ x ≤ 1152921504606846976

theorem tmod_neg (a n : Int) (h0 : a < 0) (hn : 1 ≤ n) : (a % n = 0 ∧ a.tmod n = 0) ∨ (1 ≤ a % n ∧ a.tmod n = a % n - n) := by
  have h1 : 0 ≤ a % n := Int.emod_nonneg _ (by omega)
  have h2 : (n.natAbs : Int) = n := by omega
  rw [Int.tmod_eq_emod]
  by_cases h : a % n = 0
  · left
    have : n ∣ a := Int.dvd_iff_emod_eq_zero.2 h
    simp [h, this]
  · right
    have : ¬ n ∣ a := fun hd => h (Int.dvd_iff_emod_eq_zero.1 hd)
    have h3 : ¬ 0 ≤ a := by omega
    rw [if_neg (by simp only [this, h3, or_self, not_false_eq_true]), h2]
    omega

theorem within_any (a n : Int) (w : World) (wa : (Lit.int .i64 a).wf = true) (hn : 1 ≤ n) (hn' : n ≤ 1152921504606846976) :
    Calls Tryd.prog 13 #[.int .i64 a, .int .i64 n] w fun e w' => e = .returned (.int .i64 (a % n)) ∧ w = w' := by
  have hb := bounds_i64 wa
  have hlt : a % n < n := Int.emod_lt_of_pos _ (by omega)
  clear wa
  by_cases h0 : 0 ≤ a
  · have h1 : 0 ≤ a % n := Int.emod_nonneg _ (by omega)
    go_enter Tryd.func13, Tryd.ntmps13
    go_wp2
    go_ret
    exact ⟨rfl, rfl⟩
  · rcases tmod_neg a n (by omega) hn with ⟨h1, h2⟩ | ⟨h1, h2⟩
    · have h3 : 0 ≤ a.tmod n := by omega
      have H1 := Lib.hid h1; have H2 := Lib.hid h2; clear h1 h2
      go_enter Tryd.func13, Tryd.ntmps13
      go_wp2
      go_ret
      exact ⟨ret_int (by rw [H1.out, H2.out]), rfl⟩
    · have h3 : a.tmod n < 0 := by omega
      have h4 : -1152921504606846976 ≤ a.tmod n := by omega
      have H2 := Lib.hid h2; clear h2
      go_enter Tryd.func13, Tryd.ntmps13
      go_wp2
      go_ret
      exact ⟨ret_int (by rw [H2.out]; omega), rfl⟩

/-- What the law text's Cost makes of a number. -/
def cost (n : Int) : Int :=
  if n % 8 = 0 then 1152921504606846976 else if n % 8 = 1 then 1152921504606846975 - (n.tdiv 8) % 5 else if n % 8 = 2 then (n.tdiv 8) % 1152921504606846976 else (n.tdiv 8) % 2000

theorem cost_is (n : Int) : IsCost (cost n) := by
  unfold IsCost cost
  split
  · omega
  · split
    · omega
    · split <;> omega

theorem tdiv8 (n : Int) (w : (Lit.int .i64 n).wf = true) : (Lit.int .i64 (n.tdiv 8)).wf = true := by
  have hb := bounds_i64 w
  have : -9223372036854775808 ≤ n.tdiv 8 ∧ n.tdiv 8 ≤ 9223372036854775807 := by
    rw [Int.tdiv_eq_ediv]
    have e8 : (8 : Int).sign = 1 := rfl
    rw [e8]
    split <;> omega
  exact WalkArith.wf_i64 (by omega)

theorem cost_any (n : Int) (w : World) (wn : (Lit.int .i64 n).wf = true) :
    Calls Tryd.prog 6 #[.int .i64 n] w fun e w' => e = .returned (.int .i64 (cost n)) ∧ w = w' := by
  have hb := bounds_i64 wn
  have wt := tdiv8 n wn
  have h8 : 0 ≤ n % 8 := by omega
  have h8' : n % 8 < 8 := by omega
  have hr5 : 0 ≤ (n.tdiv 8) % 5 := by omega
  have hr5' : (n.tdiv 8) % 5 < 5 := by omega
  have WT := Lib.hid wt
  have WN := Lib.hid wn
  clear wt wn
  by_cases h0 : n % 8 = 0
  · have t0 : (n % 8 == 0) = true := by simpa using h0
    have hc : cost n = 1152921504606846976 := by unfold cost; rw [if_pos h0]
    have HC := Lib.hid hc
    clear hc h0
    go_enter Tryd.func6, Tryd.ntmps6
    go_wp2_with fail
    refine (within_any n 8 _ WN.out (by omega) (by omega)).mono ?_; rintro e w' ⟨rfl, rfl⟩
    go_wp2_with fail
    go_ret
    exact ⟨ret_int HC.out.symm, rfl⟩
  by_cases h1 : n % 8 = 1
  · have t0 : (n % 8 == 0) = false := by simpa using h0
    have t1 : (n % 8 == 1) = true := by simpa using h1
    have hc : cost n = 1152921504606846975 - (n.tdiv 8) % 5 := by unfold cost; rw [if_neg h0, if_pos h1]
    have HC := Lib.hid hc
    clear hc h0 h1
    go_enter Tryd.func6, Tryd.ntmps6
    go_wp2_with fail
    refine (within_any n 8 _ WN.out (by omega) (by omega)).mono ?_; rintro e w' ⟨rfl, rfl⟩
    go_wp2_with fail
    refine (within_any _ 5 _ WT.out (by omega) (by omega)).mono ?_; rintro e w' ⟨rfl, rfl⟩
    go_wp2_with fail
    go_ret
    exact ⟨ret_int HC.out.symm, rfl⟩
  by_cases h2 : n % 8 = 2
  · have t0 : (n % 8 == 0) = false := by simpa using h0
    have t1 : (n % 8 == 1) = false := by simpa using h1
    have t2 : (n % 8 == 2) = true := by simpa using h2
    have hc : cost n = (n.tdiv 8) % 1152921504606846976 := by unfold cost; rw [if_neg h0, if_neg h1, if_pos h2]
    have HC := Lib.hid hc
    clear hc h0 h1 h2
    go_enter Tryd.func6, Tryd.ntmps6
    go_wp2_with fail
    refine (within_any n 8 _ WN.out (by omega) (by omega)).mono ?_; rintro e w' ⟨rfl, rfl⟩
    go_wp2_with fail
    refine (within_any _ 1152921504606846976 _ WT.out (by omega) (by omega)).mono ?_; rintro e w' ⟨rfl, rfl⟩
    go_wp2_with fail
    go_ret
    exact ⟨ret_int HC.out.symm, rfl⟩
  · have t0 : (n % 8 == 0) = false := by simpa using h0
    have t1 : (n % 8 == 1) = false := by simpa using h1
    have t2 : (n % 8 == 2) = false := by simpa using h2
    have hc : cost n = (n.tdiv 8) % 2000 := by unfold cost; rw [if_neg h0, if_neg h1, if_neg h2]
    have HC := Lib.hid hc
    clear hc h0 h1 h2
    go_enter Tryd.func6, Tryd.ntmps6
    go_wp2_with fail
    refine (within_any n 8 _ WN.out (by omega) (by omega)).mono ?_; rintro e w' ⟨rfl, rfl⟩
    go_wp2_with fail
    refine (within_any _ 2000 _ WT.out (by omega) (by omega)).mono ?_; rintro e w' ⟨rfl, rfl⟩
    go_wp2_with fail
    go_ret
    exact ⟨ret_int HC.out.symm, rfl⟩

/-- The sum of two costs, Inf at most. -/
def plus (a b : Int) : Int := if 1152921504606846976 ≤ a + b then 1152921504606846976 else a + b

theorem plus_is (a b : Int) (ha : IsCost a) (hb : IsCost b) : IsCost (plus a b) := by
  unfold IsCost plus at *; split <;> omega

theorem add_any (a b : Int) (w : World) (ha : IsCost a) (hb : IsCost b) :
    Calls Tryd.prog 12 #[.int .i64 a, .int .i64 b] w fun e w' => e = .returned (.int .i64 (plus a b)) ∧ w = w' := by
  obtain ⟨h1, h2⟩ := ha; obtain ⟨h3, h4⟩ := hb
  by_cases h : 1152921504606846976 ≤ a + b
  · have hc : plus a b = 1152921504606846976 := if_pos h
    have HC := Lib.hid hc; clear hc
    go_enter Tryd.func12, Tryd.ntmps12
    go_wp2_with fail
    go_ret
    exact ⟨ret_int HC.out.symm, rfl⟩
  · have hc : plus a b = a + b := if_neg h
    have HC := Lib.hid hc; clear hc
    go_enter Tryd.func12, Tryd.ntmps12
    go_wp2_with fail
    go_ret
    exact ⟨ret_int HC.out.symm, rfl⟩

end Go.Proofs.YtcdenblejfmkaaaDoor
