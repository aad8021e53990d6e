/- Two rows of three numbers are compared number by number. -/
import Derived.Test.YtcdenblejfmkaaaDoorTropC
namespace Go.Proofs.YtcdenblejfmkaaaDoor
open Go.RowKit

theorem eq_vec (x y z a b c : Int) (w : World) :
    (Op.equalIn 10000 25 (.agg #[.int .i64 x, .int .i64 y, .int .i64 z]) (.agg #[.int .i64 a, .int .i64 b, .int .i64 c])).run Tryd.prog w = .ok (x == a && (y == b && z == c)) w := by
  have hi : ∀ (p q : Int) (w : World), (Op.equalIn 9999 3 (.int .i64 p) (.int .i64 q)).run Tryd.prog w = .ok (p == q) w := fun p q w => run_equalIn_int w 9998 3 .i64 .i64 p q Tryd.underlying3
  have hs : ∀ w : World, (sizeOf 3).run Tryd.prog w = .ok 1 w := fun w => by kernel_rfl
  have p0 : ∀ (v0 v1 v2 : Value) (w : World), (part 3 #[v0, v1, v2] 0).run Tryd.prog w = .ok v0 w := fun v0 v1 v2 w => by kernel_rfl
  have p1 : ∀ (v0 v1 v2 : Value) (w : World), (part 3 #[v0, v1, v2] 1).run Tryd.prog w = .ok v1 w := fun v0 v1 v2 w => by kernel_rfl
  have p2 : ∀ (v0 v1 v2 : Value) (w : World), (part 3 #[v0, v1, v2] 2).run Tryd.prog w = .ok v2 w := fun v0 v1 v2 w => by kernel_rfl
  show (Op.equalIn (9999 + 1) 25 _ _).run Tryd.prog w = _
  rw [Op.equalIn]
  simp [Sem.run_bind, run_underlying Tryd.underlying25, hs]
  have r3 : List.range' 0 3 = [0, 1, 2] := rfl
  rw [r3]
  simp only [List.forIn_cons, List.forIn_nil, Sem.run_bind, Sem.run_ite, Sem.run_pure, hi, p0, Result.andThen_ok]
  by_cases h1 : (x == a) = false
  · simp [h1]
  · have h1 : (x == a) = true := by simpa using h1
    simp only [h1, Bool.true_eq_false, if_false, Result.andThen_ok, Sem.run_bind, Sem.run_ite, Sem.run_pure, p1, hi]
    by_cases h2 : (y == b) = false
    · simp [h2]
    · have h2 : (y == b) = true := by simpa using h2
      simp only [h2, Bool.true_eq_false, if_false, Result.andThen_ok, Sem.run_bind, Sem.run_ite, Sem.run_pure, p2, hi]
      by_cases h3 : (z == c) = false
      · simp [h3]
      · have h3 : (z == c) = true := by simpa using h3
        simp [h3]

/-- Are two rows of three numbers the same? -/
def eqv (x y z a b c : Int) : Bool := x == a && (y == b && z == c)
theorem eqv_true {x y z a b c : Int} : eqv x y z a b c = true ↔ x = a ∧ y = b ∧ z = c := by simp [eqv]
theorem eqv_refl (x y z : Int) : eqv x y z x y z = true := by simp [eqv]
theorem eq_vec' (x y z a b c : Int) (w : World) :
    (Op.equalIn 10000 25 (.agg #[.int .i64 x, .int .i64 y, .int .i64 z]) (.agg #[.int .i64 a, .int .i64 b, .int .i64 c])).run Tryd.prog w = .ok (eqv x y z a b c) w := eq_vec x y z a b c w

end Go.Proofs.YtcdenblejfmkaaaDoor
