/- What a law's walk is told of a slice of integers that came in. -/
import Derived.Test.YtjkcglgkdclidaaProg
import Derived.WalkKit
set_option linter.unusedVariables false
set_option linter.unusedSimpArgs false
namespace Go.Proofs.Ytjkcglgkdclidaa
open Go Go.RowKit
def IsRow (k : IntKind) (w : World) (a : Option Addr) (len cap : Nat) (zs : List Int) : Prop :=
 (a = none /\ len = 0 /\ cap = 0 /\ zs = []) \/
 ∃ x, a = some x /\ len <= cap /\ cap <= maxLen /\ zs.length = cap /\ (∀ i, i < zs.length -> w.cell? (x.add i) = some (.int k (zs.getD i 0))) /\ ∀ n ∈ zs, (Lit.int k n).wf = true
theorem IsRow.len_le {k : IntKind} {w : World} {a : Option Addr} {len cap : Nat} {zs : List Int} (h : IsRow k w a len cap zs) : len <= zs.length /\ len <= 9223372036854775807 := by
 rcases h with ⟨rfl, rfl, rfl, rfl⟩ | ⟨x, rfl, hl, hm, hz, _, _⟩
 ·simp
 ·unfold maxLen at hm; omega
theorem IsRow.at {k : IntKind} {w : World} {a : Option Addr} {len cap : Nat} {zs : List Int} (h : IsRow k w a len cap zs) (i : Nat) (hi : i < len) :
  ∃ b off, a = some ⟨b, off, none⟩ /\ b < w.heap.size /\ (∀ j, j < len -> w.cell? ⟨b, off + j, none⟩ = some (.int k (zs.getD j 0))) /\ (∀ j, j < len -> (Lit.int k (zs.getD j 0)).wf = true) := by
  rcases h with ⟨rfl, rfl, rfl, rfl⟩ | ⟨x, rfl, hl, hm, hz, hc, hw⟩
  ·omega
  ·obtain ⟨b, off, spot⟩ := x
   have h0 := hc 0 (by omega)
   have hspot : spot = none := by simpa [Addr.add] using World.cell?_spot h0
   subst hspot
   have hcell : ∀ j, j < len -> w.cell? ⟨b, off + j, none⟩ = some (.int k (zs.getD j 0)) := fun j hj => by
    have e : (⟨b, off, none⟩ : Addr).add j = ⟨b, off + j, none⟩ := by unfold Addr.add; split <;> simp_all
    rw [<- e]; exact hc j (by omega)
   refine ⟨b, off, rfl, World.block_lt_of_cell? w _ (hcell 0 (by omega)), hcell, fun j hj => hw _ ?_⟩
   have hj2 : j < zs.length := by omega
   have e : zs.getD j 0 = zs[j] := by simp [List.getD, List.getElem?_eq_getElem hj2]
   rw [e]
   exact List.getElem_mem _
end Go.Proofs.Ytjkcglgkdclidaa
