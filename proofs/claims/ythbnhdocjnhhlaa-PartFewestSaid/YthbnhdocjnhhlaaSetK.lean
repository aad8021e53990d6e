/- Contracts of the law texts' within, Raw, Make, and of the document's own Or, Not, And, Less. -/
import Derived.Test.YthbnhdocjnhhlaaSetD
import Derived.Test.YthbnhdocjnhhlaaIsRow
namespace Go.Proofs.Ythbnhdocjnhhlaa
open Go Go.RowKit

/-- A number from 0 to n - 1. -/
def wth (x n : Int) : Int := if x.tmod n < 0 then x.tmod n + n else x.tmod n
theorem wth_bd (x n : Int) (h : 0 < n) : 0 ≤ wth x n ∧ wth x n < n := by
  unfold wth
  have h1 := Int.tmod_lt_of_pos x h
  have h2 : -n < x.tmod n := by
    have := Int.tmod_lt_of_pos (-x) h
    rw [Int.neg_tmod] at this
    omega
  split <;> omega

set_option maxHeartbeats 400000 in
theorem within_any (x n : Int) (hn : 0 < n) (hn2 : n ≤ 1099511627776) (w : World) :
    Calls Try.prog 40 #[.int .i64 x, .int .i64 n] w fun e w' => e = .returned (.int .i64 (wth x n)) ∧ w = w' := by
  have h1 := Int.tmod_lt_of_pos x hn
  have h2 : -n < x.tmod n := by
    have := Int.tmod_lt_of_pos (-x) hn
    rw [Int.neg_tmod] at this
    omega
  have E := Lib.hid (show wth x n = if x.tmod n < 0 then x.tmod n + n else x.tmod n from rfl)
  have hne : ¬ n = 0 := by omega
  go_enter Try.func40, Try.ntmps40
  by_cases hlt : x.tmod n < 0
  · go_wp2_with fail
    go_ret
    exact ⟨by rw [E.out, if_pos hlt]; rfl, rfl⟩
  · go_wp2_with fail
    go_ret
    exact ⟨by rw [E.out, if_neg (by omega)]; rfl, rfl⟩

end Go.Proofs.Ythbnhdocjnhhlaa
