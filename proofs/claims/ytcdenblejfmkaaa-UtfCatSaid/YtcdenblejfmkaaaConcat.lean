/- append(v, u...) of ints in a plain region: v a row of the call's own, u anything that reads as numbers from a block's head. -/
import Derived.Test.YtcdenblejfmkaaaOwn
import Derived.Laws.AppendOwnNone
namespace Go.Proofs.Ytcdenblejfmkaaa
open Go Go.RowKit

/-- An empty slice that was just made, not nil. -/
theorem Own.empty (w : World) : Own (w.alloc (.cells #[] 3)) w.heap.size (.slice (some ⟨w.heap.size, 0, none⟩) 0 0) 0 [] := by
  refine ⟨rfl, .inr ⟨w.heap.size, 0, #[], rfl, Nat.le_refl _, heap_alloc_new w _, ?_⟩⟩
  simp [maxLen]

theorem wpList_concat {w : World} {ops : Array Oper} {rest : List Oper} {o : Oper} {a : Act} {Q : Exit → Act → World → Prop} (hgd : o.guard = none) (s x : Operand)
    (ho : o.op = .call { callee := .builtin .append, args := #[s, x], argTypes := #[22, 22] })
    (B : Nat) (v : Value) (n : Nat) (l : List Int) (hs : a.eval s = v) (hown : Own w B v n l)
    (B' : Nat) (u : Value) (m : Nat) (l' : List Int) (hx : a.eval x = u) (hu : Own w B' u m l') (hnm : n + m ≤ 1000000000) (hB : B ≤ w.heap.size)
    (h : ∀ v' w', Own w' B v' (n + m) (l ++ l') → Below B w w' → wpList Try.prog ops Q rest (a.put o.dst v') w') : wpList Try.prog ops Q (o :: rest) a w := by
  obtain ⟨i0, hi, hz0, hz1, hz2⟩ := info_parts info_int
  have hu' := hu
  rcases hu'.2 with ⟨rfl, rfl⟩ | ⟨g, cap, cur, rfl, _⟩
  · have hy : l' = [] := List.eq_nil_of_length_eq_zero hu.len
    subst hy
    refine wpList_append_own_none hgd s x _ ho B 3 i0 1 Try.underlying22 hi v n (l.map (Value.int .i64)) hs hown hx ?_
    have := h v w (by simpa using hown) (Below.refl _ _)
    exact this
  · refine wpList_append_own w hgd s x _ ho B 3 i0 (.int .i64 0) 1 8 Try.underlying22 hi hz0 hz1 hz2 rfl (by omega) v n (l.map (Value.int .i64)) hs hown ⟨g, 0, none⟩ m cap (l'.map (Value.int .i64)) hx (by simpa using hu.len) (World.ownsRow.cells hu rfl) (by simp [Value.oneCell']) (by unfold maxLen; omega) (by omega) hB ?_
    intro v' w' h1 h2 _
    refine h v' w' (by unfold Own; rw [List.map_append]; exact h1) ((Below.refl _ _).grown h2 hB (fun k hk => (hown.lt k hk).1))

end Go.Proofs.Ytcdenblejfmkaaa
