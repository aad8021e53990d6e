/- Slices that read as rows of ints, with their capacity. -/
import Derived.Test.YthbnhdocjnhhlaaInts
import Derived.Test.YthbnhdocjnhhlaaLL
namespace Go.Proofs.Ythbnhdocjnhhlaa
open Go Go.RowKit

/-- v reads as the n numbers l: nil and none, or cells in a row. -/
def ReadsI (w : World) (v : Value) (n : Nat) (l : List Int) : Prop :=
  l.length = n ∧ ∃ a cap, v = .slice a n cap ∧ n ≤ cap ∧ cap ≤ maxLen ∧ (a = none → cap = 0) ∧ ∀ i, i < n → ∃ b off, a = some ⟨b, off, none⟩ ∧ ∀ j, j < n → w.cell? ⟨b, off + j, none⟩ = some (.int .i64 (l.getD j 0))
section
variable {w w' : World} {v : Value} {n : Nat} {l : List Int}
theorem Own.readsI {B : Nat} (h : Own w B v n l) : ReadsI w v n l := by
  refine ⟨h.len, ?_⟩
  have h0 := h
  rcases h.2 with ⟨rfl, rfl⟩ | ⟨g, cap, cur, rfl, _, _, h1, h2, _⟩
  · exact ⟨none, 0, rfl, Nat.le_refl _, Nat.zero_le _, fun _ => rfl, fun i hi => absurd hi (by omega)⟩
  · rcases h0.form with ⟨h', _⟩ | ⟨g', cap', h', _, _, _, hc⟩
    · cases h'
    · simp only [Value.slice.injEq, Option.some.injEq, Addr.mk.injEq, and_true, true_and] at h'
      obtain ⟨rfl, rfl⟩ := h'
      exact ⟨_, cap, rfl, h1, h2, fun e => (by cases e), fun i hi => ⟨g, 0, rfl, hc⟩⟩
theorem ReadsI.reads (h : ReadsI w v n l) : Reads w v n l := by
  obtain ⟨h1, a, cap, h2, _, _, h3, h4⟩ := h
  exact ⟨h1, a, cap, h2, h3, h4⟩
theorem ReadsI.same (h : ReadsI w v n l) (hk : ∀ b o x, w.cell? ⟨b, o, none⟩ = some x → w'.cell? ⟨b, o, none⟩ = some x) : ReadsI w' v n l := by
  obtain ⟨h1, a, cap, h2, h5, h6, h3, h4⟩ := h
  refine ⟨h1, a, cap, h2, h5, h6, h3, fun i hi => ?_⟩
  obtain ⟨b, off, e, hc⟩ := h4 i hi
  exact ⟨b, off, e, fun j hj => hk _ _ _ (hc j hj)⟩
theorem ReadsI.below (h : ReadsI w v n l) (hb : Below w.heap.size w w') : ReadsI w' v n l :=
  h.same fun b o x hx => by rw [hb.cell (p := ⟨b, o, none⟩) (World.block_lt_of_cell? w _ hx)]; exact hx
theorem ReadsI.alloc (h : ReadsI w v n l) (o : Obj) : ReadsI (w.alloc o) v n l :=
  h.same fun b o' x hx => by rw [World.cell?_alloc_past o b o' (World.block_lt_of_cell? w _ hx)]; exact hx
theorem ReadsI.drewN (h : ReadsI w v n l) (k : Nat) : ReadsI (w.drewN k) v n l := h
theorem ReadsI.form (h : ReadsI w v n l) : ∃ a cap, v = .slice a n cap ∧ n ≤ cap ∧ cap ≤ 9223372036854775807 ∧ l.length = n := by
  obtain ⟨h1, a, cap, h2, h5, h6, _⟩ := h
  exact ⟨a, cap, h2, h5, by unfold maxLen at h6; exact h6, h1⟩
theorem ReadsI.at {a : Option Addr} {cap : Nat} (h : ReadsI w (.slice a n cap) n l) (i : Nat) (hi : i < n) : ∃ b off, a = some ⟨b, off, none⟩ ∧ b < w.heap.size ∧ w.cell? ⟨b, off + i, none⟩ = some (.int .i64 (l.getD i 0)) := by
  obtain ⟨h1, a', cap', h2, h5, h6, h3, h4⟩ := h
  simp only [Value.slice.injEq, true_and] at h2
  obtain ⟨rfl, rfl⟩ := h2
  obtain ⟨b, off, e, hc⟩ := h4 i hi
  exact ⟨b, off, e, World.block_lt_of_cell? w _ (hc i hi), hc i hi⟩
end

end Go.Proofs.Ythbnhdocjnhhlaa
