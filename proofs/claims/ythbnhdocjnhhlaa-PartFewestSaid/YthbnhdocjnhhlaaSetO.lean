/- Contracts of the library's slices.Grow at nil and slices.Concat, of set.Or, set.Less. -/
import Derived.Test.YthbnhdocjnhhlaaSetM
import Derived.Lib.AppendZerosOnto
namespace Go.Proofs.Ythbnhdocjnhhlaa
open Go Go.RowKit

/-- A row of rows. -/
def ReadsL (w : World) (v : Value) (k : Nat) (ls : List (List (Int × Int))) : Prop :=
  ls.length = k ∧ ∃ a cap, v = .slice a k cap ∧ k ≤ cap ∧ cap ≤ maxLen ∧ (a = none → cap = 0) ∧ ∀ i, i < k → ∃ b off u, a = some ⟨b, off, none⟩ ∧ w.cell? ⟨b, off + i, none⟩ = some u ∧ ReadsP w u (ls.getD i []).length (ls.getD i [])
theorem ReadsL.at {w : World} {a : Option Addr} {cap k : Nat} {ls : List (List (Int × Int))} (h : ReadsL w (.slice a k cap) k ls) (i : Nat) (hi : i < k) : ∃ b off u, a = some ⟨b, off, none⟩ ∧ w.cell? ⟨b, off + i, none⟩ = some u ∧ ReadsP w u (ls.getD i []).length (ls.getD i []) := by
  obtain ⟨_, a', cap', h1, _, _, _, h5⟩ := h
  simp only [Value.slice.injEq, true_and] at h1
  obtain ⟨rfl, rfl⟩ := h1
  exact h5 i hi
theorem flat_snoc (ls : List (List (Int × Int))) (k : Nat) (hk : k < ls.length) : (ls.take (k + 1)).flatten = (ls.take k).flatten ++ ls.getD k [] := by
  have e : ls.getD k [] = ls[k] := by simp [List.getD, List.getElem?_eq_getElem hk]
  rw [e, List.take_succ_eq_append_getElem hk, List.flatten_append]
  simp
theorem flat_take_le (ls : List (List (Int × Int))) (k : Nat) : (ls.take k).flatten.length ≤ ls.flatten.length := by
  conv => rhs; rw [← List.take_append_drop k ls, List.flatten_append, List.length_append]
  omega

end Go.Proofs.Ythbnhdocjnhhlaa
