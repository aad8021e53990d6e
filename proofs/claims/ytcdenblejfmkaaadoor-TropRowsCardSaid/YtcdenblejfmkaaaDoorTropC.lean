/- Contracts of trop.None, trop.Plus, trop.Both, the law text's Vec. -/
import Derived.Test.YtcdenblejfmkaaaDoorTropB
import Derived.Deep.QuietTactic
import Derived.BigQuiet
import Derived.Deep.RegionHeld3
namespace Go.Proofs.YtcdenblejfmkaaaDoor
open Go.RowKit

/-- Three costs, as the value that the program hands on. -/
def vec (a b c : Int) : Value := .agg #[.int .i64 a, .int .i64 b, .int .i64 c]

theorem none_any (w : World) :
    Calls Tryd.prog 5 #[] w fun e w' => e = .returned (.agg #[.int .i64 1152921504606846976, .int .i64 1152921504606846976, .int .i64 1152921504606846976]) ∧ Below w.heap.size w w' := by
  go_enter Tryd.func5, Tryd.ntmps5
  go_wp2_with fail
  refine bodyPost_ret (v := .agg #[.int .i64 1152921504606846976, .int .i64 1152921504606846976, .int .i64 1152921504606846976]) (by simp [results, Tryd.results5, go_sem]) rfl ⟨rfl, ?_⟩
  exact (Below.refl _ _).alloc (Nat.le_refl _) _

theorem vec_any (a b c : Int) (w : World) (wa : (Lit.int .i64 a).wf = true) (wb : (Lit.int .i64 b).wf = true) (wc : (Lit.int .i64 c).wf = true) :
    Calls Tryd.prog 8 #[.int .i64 a, .int .i64 b, .int .i64 c] w fun e w' => e = .returned (.agg #[.int .i64 (cost a), .int .i64 (cost b), .int .i64 (cost c)]) ∧ Below w.heap.size w w' := by
  have WA := Lib.hid wa; have WB := Lib.hid wb; have WC := Lib.hid wc; clear wa wb wc
  go_enter Tryd.func8, Tryd.ntmps8
  go_wp2_with fail
  refine (cost_any a _ WA.out).mono ?_; rintro e w' ⟨rfl, rfl⟩
  go_wp2_with fail
  refine (cost_any b _ WB.out).mono ?_; rintro e w' ⟨rfl, rfl⟩
  go_wp2_with fail
  refine (cost_any c _ WC.out).mono ?_; rintro e w' ⟨rfl, rfl⟩
  go_wp2_with fail
  refine bodyPost_ret (v := .agg #[.int .i64 (cost a), .int .i64 (cost b), .int .i64 (cost c)]) (by simp [results, Tryd.results8, go_sem]) rfl ⟨rfl, ?_⟩
  exact (Below.refl _ _).alloc (Nat.le_refl _) _

end Go.Proofs.YtcdenblejfmkaaaDoor
