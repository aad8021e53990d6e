/- Contracts of trop.Min, the document's Least and Ints at slices that the law text has gathered itself. -/
import Derived.Test.YtcdenblejfmkaaaDoorTropH
import Derived.Test.YtcdenblejfmkaaaDoorApart
import Derived.Test.YtcdenblejfmkaaaDoorOwn
namespace Go.Proofs.YtcdenblejfmkaaaDoor
open Go.RowKit


theorem own_cells {w : World} {base n : Nat} {v : Value} {l : List Int} (h : w.ownsRow base 3 1 v n (l.map (Value.int .i64))) :
    l.length = n ∧ ((v = .slice none 0 0 ∧ l = []) ∨ ∃ g cap, v = .slice (some ⟨g, 0, none⟩) n cap ∧ ∀ i, i < n → w.cell? ⟨g, 0 + i, none⟩ = some (.int .i64 (l.getD i 0))) := by
  have hlen : l.length = n := by simpa using h.1
  refine ⟨hlen, ?_⟩
  have h0 := h
  rcases h.2 with ⟨rfl, rfl⟩ | ⟨g, cap, cur, rfl, _⟩
  · exact .inl ⟨rfl, List.eq_nil_of_length_eq_zero hlen⟩
  · refine .inr ⟨g, cap, rfl, fun i hi => ?_⟩
    rw [Nat.zero_add, World.ownsRow.cellAt h0 i (by omega)]
    simp [List.getD, List.getElem?_eq_getElem (show i < l.length by omega)]

theorem min_own {w : World} {base n : Nat} {v : Value} {l : List Int} (h : w.ownsRow base 3 1 v n (l.map (Value.int .i64))) (hn : n ≤ 1000) :
    Calls Tryd.prog 9 #[v] w fun e w' => e = .returned (.int .i64 (least l)) ∧ w = w' := by
  obtain ⟨hl, ⟨rfl, rfl⟩ | ⟨g, cap, rfl, hc⟩⟩ := own_cells h
  · exact min_nil w
  · exact min_any l n cap g 0 w hl (by omega) hc

end Go.Proofs.YtcdenblejfmkaaaDoor
