/- told of a Fwd. -/
import Derived.Test.YtjkcglgkdclidaaVMiniFa
set_option linter.unusedVariables false
set_option linter.unusedSimpArgs false
namespace Go.Proofs.Ytjkcglgkdclidaa
open Go Go.RowKit Go.Proofs
theorem info_vrow : (Try.prog.info? 46).map (fun i => (i.zero, i.size, i.bytes)) = some (some (.slice none 0 0), 1, 24) := by kernel_rfl
def xssV (E : List (List V3)) (ss : List Nat) : List (Nat × List Value) := ss.map fun s => ((E.getD s []).length, (E.getD s []).flatMap encV)
theorem xssV_step {ss : List Nat} {j : Nat} (h : j < ss.length) (E : List (List V3)) : xssV E (ss.take (j + 1)) = xssV E (ss.take j) ++ [((E.getD (ss.getD j 0) []).length, (E.getD (ss.getD j 0) []).flatMap encV)] := by
 unfold xssV
 rw [List.take_add_one, List.getElem?_eq_getElem h, List.map_append, List.getD_eq_getElem?_getD (l := ss), List.getElem?_eq_getElem h]
 rfl
end Go.Proofs.Ytjkcglgkdclidaa
