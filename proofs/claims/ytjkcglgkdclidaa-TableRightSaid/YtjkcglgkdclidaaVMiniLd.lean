/- The law text's machines, plain. -/
import Derived.Test.YtjkcglgkdclidaaVMiniLa
set_option linter.unusedVariables false
set_option linter.unusedSimpArgs false
namespace Go.Proofs.Ytjkcglgkdclidaa
def lawM (ns : List Int) (i : Nat) : Nat := if i < ns.length then (ns.getD i 0 % 1099511627776).toNat else i * 7
def lawT (ns : List Int) (k n : Nat) : List (List Nat) := (List.range k).map fun i => (List.range n).map fun j => lawM ns i / k ^ j % k
def lawO (ns : List Int) (k n : Nat) : List Nat := (List.range k).map fun i => lawM ns i / k ^ n % 3
theorem lawT_len (ns : List Int) (k n : Nat) : (lawT ns k n).length = k := by simp [lawT]
theorem lawO_len (ns : List Int) (k n : Nat) : (lawO ns k n).length = k := by simp [lawO]
theorem lawT_at (ns : List Int) {k n i : Nat} (h : i < k) : (lawT ns k n).getD i [] = (List.range n).map fun j => lawM ns i / k ^ j % k := by simp [lawT, List.getD, h]
theorem law_rect (ns : List Int) {k n : Nat} (hk : 0 < k) : RectN (lawT ns k n) n := ⟨by rw [lawT_len]; exact hk, fun s hs => by
 rw [lawT_len] at hs
 rw [lawT_at ns hs]
 simp, fun s a hs ha => by
 rw [lawT_len] at hs ⊢
 unfold trN
 rw [lawT_at ns hs]
 have e : ((List.range n).map fun j => lawM ns s / k ^ j % k).getD a 0 = lawM ns s / k ^ a % k := by simp [List.getD, ha]
 rw [e]
 exact Nat.mod_lt _ hk⟩
theorem lawO_lt (ns : List Int) (k n i : Nat) : (lawO ns k n).getD i 0 <= 2 := by
 rcases Nat.lt_or_ge i k with h | h
 ·have e : (lawO ns k n).getD i 0 = lawM ns i / k ^ n % 3 := by simp [lawO, List.getD, h]
  rw [e]
  omega
 ·have e : (lawO ns k n).getD i 0 = 0 := by
   rw [List.getD_eq_getElem?_getD, List.getElem?_eq_none (by rw [lawO_len]; exact h)]
   rfl
  omega
theorem lawM_lt (ns : List Int) {i : Nat} (h : i <= 9) : lawM ns i < 1099511627776 := by
 unfold lawM
 split
 ·have h1 := Int.emod_lt_of_pos (ns.getD i 0) (show (0 : Int) < 1099511627776 by decide)
  have h2 := Int.emod_nonneg (ns.getD i 0) (show (1099511627776 : Int) ≠ 0 by decide)
  omega
 ·omega
end Go.Proofs.Ytjkcglgkdclidaa
