/- The law TropSums returns true, whatever its three numbers. -/
import Derived.Test.YtemofnmfaimliaaDoorTropH
namespace Go.Proofs.YtemofnmfaimliaaDoor
open Go.RowKit

theorem plus_comm (a b : Int) : plus b a = plus a b := by unfold plus; rw [Int.add_comm]
theorem plus_zero (a : Int) (ha : IsCost a) : plus a 0 = a := by unfold plus IsCost at *; split <;> omega
theorem plus_assoc (a b c : Int) (ha : IsCost a) (hc : IsCost c) : plus a (plus b c) = plus (plus a b) c := by
  unfold plus IsCost at *; (repeat' split) <;> omega
theorem plus_ge (a b : Int) (ha : IsCost a) (hb : IsCost b) : a ≤ plus a b := by unfold plus IsCost at *; split <;> omega

set_option maxHeartbeats 800000 in
theorem sums_walk (a b c : Int) (w : World) (wa : (Lit.int .i64 a).wf = true) (wb : (Lit.int .i64 b).wf = true) (wc : (Lit.int .i64 c).wf = true) (ht : Tab w) :
    Calls Tryd.prog 3 #[.int .i64 a, .int .i64 b, .int .i64 c] w fun e w' => e = .returned (.bool true) ∧ Below w.heap.size w w' := by
  have HT := Lib.hid ht; have WA := Lib.hid wa; have WB := Lib.hid wb; have WC := Lib.hid wc; clear ht wa wb wc
  go_enter Tryd.func3, Tryd.ntmps3
  go_wp2_with fail
  refine (known_any _ HT.out).mono ?_
  rintro e w1 ⟨rfl, hb1⟩
  have HB1 := Lib.hid hb1; clear hb1
  go_wp2_with fail
  refine (cost_any a _ WA.out).mono ?_; rintro e w' ⟨rfl, rfl⟩
  go_wp2_with fail
  refine (cost_any b _ WB.out).mono ?_; rintro e w' ⟨rfl, rfl⟩
  go_wp2_with fail
  refine (cost_any c _ WC.out).mono ?_; rintro e w' ⟨rfl, rfl⟩
  have HX := Lib.hid (cost_is a); have HY := Lib.hid (cost_is b); have HZ := Lib.hid (cost_is c)
  generalize cost a = x at *
  generalize cost b = y at *
  generalize cost c = z at *
  clear WA WB WC
  go_wp2_with fail
  refine (add_any x y _ HX.out HY.out).mono ?_; rintro e w' ⟨rfl, rfl⟩
  have hs1 := (plus_is x y HX.out HY.out).2
  have hs2 := plus_ge x y HX.out HY.out
  have HS := Lib.hid (plus_is x y HX.out HY.out)
  have HC := Lib.hid (plus_comm x y)
  have HA := Lib.hid (plus_assoc x y z HX.out HZ.out)
  generalize hs : plus x y = s at *
  have HS2 := Lib.hid hs; clear hs
  go_wp2_with fail
  refine (refadd_any x y _ HX.out HY.out).mono ?_; rintro e w' ⟨rfl, rfl⟩
  rw [HS2.out]
  go_wp2_with fail
  refine (add_any y x _ HY.out HX.out).mono ?_; rintro e w' ⟨rfl, rfl⟩
  rw [HC.out]
  go_wp2_with fail
  refine (add_any s z _ HS.out HZ.out).mono ?_; rintro e w' ⟨rfl, rfl⟩
  go_wp2_with fail
  refine (add_any y z _ HY.out HZ.out).mono ?_; rintro e w' ⟨rfl, rfl⟩
  go_wp2_with fail
  refine (add_any x (plus y z) _ HX.out (plus_is y z HY.out HZ.out)).mono ?_; rintro e w' ⟨rfl, rfl⟩
  rw [HA.out]
  go_wp2_with fail
  refine (add_any 1152921504606846976 z _ (isCost_of (by omega) (by omega)) HZ.out).mono ?_; rintro e w' ⟨rfl, rfl⟩
  rw [plus_inf z HZ.out]
  go_wp2_with fail
  refine (add_any x 0 _ HX.out (isCost_of (by omega) (by omega))).mono ?_; rintro e w' ⟨rfl, rfl⟩
  rw [plus_zero x HX.out]
  go_wp2_with fail
  go_ret
  exact ⟨rfl, HB1.out⟩

end Go.Proofs.YtemofnmfaimliaaDoor
