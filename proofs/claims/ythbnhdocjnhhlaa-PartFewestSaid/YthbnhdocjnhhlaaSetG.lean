/- Contracts of set.Right at right rows and at any, and of set.Has. -/
import Derived.Test.YthbnhdocjnhhlaaSetD
namespace Go.Proofs.Ythbnhdocjnhhlaa
open Go Go.RowKit

/-- Right, as a Bool, from a least beginning on. -/
def rightB : Int → List (Int × Int) → Bool
  | _, [] => true
  | lo, r :: l => if r.1 < lo ∨ r.1 > r.2 ∨ r.2 > 1114111 then false else rightB (r.2 + 2) l
theorem rightB_iff (l : List (Int × Int)) : ∀ lo, rightB lo l = true ↔ RtFrom lo l := by
  induction l with
  | nil => intro lo; simp [rightB, RtFrom]
  | cons r l ih =>
    intro lo
    unfold rightB
    split
    · rename_i h
      simp only [Bool.false_eq_true, RtFrom, false_iff]
      omega
    · rename_i h
      rw [ih]
      simp only [RtFrom]
      constructor
      · intro g; exact ⟨by omega, by omega, by omega, g⟩
      · intro g; exact g.2.2.2
theorem rightB_cons (lo x y : Int) (l : List (Int × Int)) : rightB lo ((x, y) :: l) = if x < lo ∨ x > y ∨ y > 1114111 then false else rightB (y + 2) l := rfl
/-- It returns this; nothing that was there has turned. -/
def Says (w : World) (b : Bool) (e : Ending) (w' : World) : Prop := e = .returned (.bool b) ∧ Below w.heap.size w w'

end Go.Proofs.Ythbnhdocjnhhlaa
