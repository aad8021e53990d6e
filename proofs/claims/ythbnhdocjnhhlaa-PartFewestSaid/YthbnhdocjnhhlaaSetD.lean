/- Contract of set.Not. -/
import Derived.Test.YthbnhdocjnhhlaaSetA
namespace Go.Proofs.Ythbnhdocjnhhlaa
open Go Go.RowKit

theorem gaps_cons (f : Int) (r : Int × Int) (l : List (Int × Int)) : gaps f (r :: l) = if f < r.1 then (f, r.1 - 1) :: gaps (r.2 + 1) l else gaps (r.2 + 1) l := rfl
theorem drop_at (l : List (Int × Int)) (k : Nat) (hk : k < l.length) : l.drop k = l.getD k (0, 0) :: l.drop (k + 1) := by
  have e : l.getD k (0, 0) = l[k] := by simp [List.getD, List.getElem?_eq_getElem hk]
  rw [e, List.drop_eq_getElem_cons hk]
theorem Rt.atD {l : List (Int × Int)} (h : Rt l) (k : Nat) (hk : k < l.length) : 0 ≤ (l.getD k (0, 0)).1 ∧ (l.getD k (0, 0)).1 ≤ (l.getD k (0, 0)).2 ∧ (l.getD k (0, 0)).2 ≤ 1114111 := by
  have e : l.getD k (0, 0) = l[k] := by simp [List.getD, List.getElem?_eq_getElem hk]
  rw [e]; exact h.at k hk
theorem OwnP.cast {w : World} {B : Nat} {v : Value} {n n' : Nat} {l l' : List (Int × Int)} (h : OwnP w B v n l) (hn : n = n') (hl : l = l') : OwnP w B v n' l' := by subst hn; subst hl; exact h

end Go.Proofs.Ythbnhdocjnhhlaa
