/- The law TropOwn returns true, whatever its numbers. -/
import Derived.Test.YtcdenblejfmkaaaDoorTropR
import Derived.Test.YtcdenblejfmkaaaDoorIsRow
namespace Go.Proofs.YtcdenblejfmkaaaDoor
open Go.RowKit


/-- The costs of the first k numbers. -/
def costs (z : List Int) (k : Nat) : List Int := (z.take k).map cost
theorem costs_succ (z : List Int) (k : Nat) (h : k < z.length) : costs z (k + 1) = costs z k ++ [cost (z.getD k 0)] := by
  unfold costs; rw [take_snoc z k h, List.map_append]; rfl
theorem ints_snoc (l : List Int) (x : Int) : (l ++ [x]).map (Value.int .i64) = l.map (Value.int .i64) ++ [.int .i64 x] := by simp

end Go.Proofs.YtcdenblejfmkaaaDoor
