/- Contracts of set.clip. -/
import Derived.Test.YthbnhdocjnhhlaaSetN
import Derived.Test.YthbnhdocjnhhlaaPair
import Derived.LoopTactic
import Derived.Outline
import Derived.Deep.QuietTactic
import Derived.BigQuiet
import Derived.IntWalk
namespace Go.Proofs.Ythbnhdocjnhhlaa
open Go Go.RowKit

/-- It returns a row of its own that holds R; nothing that was there has turned. -/
def Tells (w : World) (R : List (Int × Int)) (e : Ending) (w' : World) : Prop := ∃ v, e = .returned v ∧ OwnP w' w.heap.size v R.length R ∧ Below w.heap.size w w'

/-- What lies within 0 to the last number. -/
def clipL (l : List (Int × Int)) : List (Int × Int) := l.filterMap fun r => if max r.1 0 ≤ min r.2 1114111 then some (max r.1 0, min r.2 1114111) else none
theorem clipL_snoc (l : List (Int × Int)) (k : Nat) (hk : k < l.length) : clipL (l.take (k + 1)) = clipL (l.take k) ++ (if max (l.getD k (0, 0)).1 0 ≤ min (l.getD k (0, 0)).2 1114111 then [(max (l.getD k (0, 0)).1 0, min (l.getD k (0, 0)).2 1114111)] else []) := by
  unfold clipL
  rw [List.take_succ_eq_append_getElem hk, List.filterMap_append]
  have e : l.getD k (0, 0) = l[k] := by simp [List.getD, List.getElem?_eq_getElem hk]
  rw [e]
  congr 1
  simp only [List.filterMap_cons, List.filterMap_nil]
  split <;> simp_all
theorem clipL_len (l : List (Int × Int)) : (clipL l).length ≤ l.length := List.length_filterMap_le _ _

theorem maxI (x : Int) : max x 0 = if x < 0 then 0 else x := by split <;> omega
theorem minI (y : Int) : min y 1114111 = if 1114111 < y then 1114111 else y := by split <;> omega
/-- The cells of a struct of two that was just laid. -/
theorem new2 (w : World) (x y : Value) (t : TypeId) : (w.alloc (.cells #[x, y] t)).cell? ⟨w.heap.size, 0, none⟩ = some x ∧ (w.alloc (.cells #[x, y] t)).cell? ⟨w.heap.size, 1, none⟩ = some y := by
  constructor <;> (rw [World.cell?_alloc_at _ _ _ _ (by simp)]; rfl)
theorem OwnP.ne_top {w : World} {B n : Nat} {v : Value} {l : List (Int × Int)} (h : OwnP w B v n l) : some w.heap.size ≠ v.ownBlock := fun e => by have := (h.lt _ e.symm).2; omega
end Go.Proofs.Ythbnhdocjnhhlaa
