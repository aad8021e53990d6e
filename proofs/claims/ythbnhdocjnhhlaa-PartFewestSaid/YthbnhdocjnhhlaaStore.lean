/- Storing into a row of ints of the call's own; cells that are kept along a road. -/
import Derived.Test.YthbnhdocjnhhlaaOwn
namespace Go.Proofs.Ythbnhdocjnhhlaa
open Go Go.RowKit

theorem Own.stored {w : World} {B g cap n : Nat} {l : List Int} (h : Own w B (.slice (some ⟨g, 0, none⟩) n cap) n l) (j : Nat) (x : Int) :
    Own (w.setCell ⟨g, j, none⟩ (.int .i64 x)) B (.slice (some ⟨g, 0, none⟩) n cap) n (l.set j x) ∧ w.grownBy (w.setCell ⟨g, j, none⟩ (.int .i64 x)) (some g) := by
  have := World.ownsRow.stored h j (.int .i64 x)
  refine ⟨?_, this.2⟩
  unfold Own
  rw [List.map_set]
  exact this.1
theorem Own.frozen {w : World} {B g cap n : Nat} {l : List Int} (h : Own w B (.slice (some ⟨g, 0, none⟩) n cap) n l) (j : Nat) : w.frozen? ⟨g, j, none⟩ = false := World.ownsRow.frozenAt h j
/-- Another row stays, where one is stored into. -/
theorem Own.stored_other {w : World} {B g j m : Nat} {u : Value} {l : List Int} (h : Own w B u m l) (hne : u.ownBlock ≠ some g) (x : Value) : Own (w.setCell ⟨g, j, none⟩ x) B u m l := by
  obtain ⟨h1, h2⟩ := h
  refine ⟨h1, ?_⟩
  rcases h2 with h2 | ⟨g', cap, cur, rfl, hg, hh, r⟩
  · exact .inl h2
  · refine .inr ⟨g', cap, cur, rfl, hg, ?_, r⟩
    rw [heap_setCell_other w ⟨g, j, none⟩ g' x (fun e => hne (by simp [Value.ownBlock, e]))]
    exact hh
theorem Apart.ne {g n cap : Nat} {u : Value} (h : Apart (.slice (some ⟨g, 0, none⟩) n cap) u) : u.ownBlock ≠ some g := by
  rcases h with h | h | h
  · simp [Value.ownBlock] at h
  · rw [h]; simp
  · intro e
    exact h (by rw [e]; simp [Value.ownBlock])
theorem keep_alloc {w : World} {b o : Nat} {x : Value} (h : w.cell? ⟨b, o, none⟩ = some x) (ob : Obj) : (w.alloc ob).cell? ⟨b, o, none⟩ = some x := by
  rw [World.cell?_alloc_past ob b o (World.block_lt_of_cell? w _ h)]; exact h

/-- What append(v, x) leaves, x's one cell lying wherever it may. -/
structure PushedAt (B : Nat) (w0 w1 : World) (v : Value) (g cap n : Nat) (l : List Int) (x : Int) : Prop where
  own : Own w1 B (.slice (some ⟨g, 0, none⟩) (n + 1) cap) (n + 1) (l ++ [x])
  grow : w0.grownBy w1 v.ownBlock
  at_ : v.ownBlock = some g ∨ g = w0.heap.size
  old : ∀ k, v.ownBlock = some k → B ≤ k ∧ k < w0.heap.size
theorem PushedAt.below {B C : Nat} {w w0 w1 : World} {v : Value} {g cap n : Nat} {l : List Int} {x : Int} (h : PushedAt B w0 w1 v g cap n l x) (hb : Below C w w0) (hC : C ≤ B) (hC2 : C ≤ w0.heap.size) : Below C w w1 :=
  hb.grown h.grow hC2 (fun k hk => Nat.le_trans hC (h.old k hk).1)
theorem PushedAt.other {B B' : Nat} {w0 w1 : World} {v u : Value} {g cap n m : Nat} {l l' : List Int} {x : Int} (h : PushedAt B w0 w1 v g cap n l x) (hap : Apart v u) (hu : Own w0 B' u m l') :
    Own w1 B' u m l' ∧ Apart (.slice (some ⟨g, 0, none⟩) (n + 1) cap) u :=
  apart_lies hap hu h.grow h.at_ rfl
theorem PushedAt.cell {B : Nat} {w0 w1 : World} {v : Value} {g cap n b o : Nat} {l : List Int} {x : Int} {y : Value} (h : PushedAt B w0 w1 v g cap n l x) (hc : w0.cell? ⟨b, o, none⟩ = some y) (hne : some b ≠ v.ownBlock) : w1.cell? ⟨b, o, none⟩ = some y :=
  h.grow.cell hc hne
theorem step_push_any {w0 : World} {ops : Array Oper} {o : Oper} {a : Act} {K : Act → World → Prop} {Q : Exit → Act → World → Prop} {E : Prop} (hgd : o.guard = none) (s x : Operand)
    (ho : o.op = .call { callee := .builtin .append, args := #[s, x], argTypes := #[22, 22] })
    (B : Nat) (v : Value) (n : Nat) (l : List Int) (y : Int) (g0 : Nat) (hs : a.eval s = v) (hown : Own w0 B v n l) (hx : a.eval x = .slice (some ⟨g0, 0, none⟩) 1 1) (hc : w0.cell? ⟨g0, 0, none⟩ = some (.int .i64 y))
    (hn : n ≤ 1000000000) (hB : B ≤ w0.heap.size)
    (h : ∀ g cap w1, PushedAt B w0 w1 v g cap n l y → K (a.put o.dst (.slice (some ⟨g, 0, none⟩) (n + 1) cap)) w1) :
    if Region.wanted o (yielded ops a.tmps) = true then Oper.wp Try.prog o a w0 K Q else E := by
  obtain ⟨i0, hi, hz0, hz1, hz2⟩ := info_parts info_int
  refine step_append_lies _ hgd s x _ ho B 3 i0 _ 1 8 Try.underlying22 hi hz0 hz1 hz2 rfl (by omega) v n (l.map (Value.int .i64)) hs hown ⟨g0, 0, none⟩ 1 1 [.int .i64 y] hx rfl (fun j u hj => ?_) (by simp [Value.oneCell']) (by omega) (by unfold maxLen; omega) (by omega) hB w0.heap.size rfl ?_
  · cases j with
    | zero =>
      simp at hj
      subst hj
      exact hc
    | succ j => simp at hj
  · intro g cap w1 h1 h2 h3 _
    exact h g cap w1 ⟨by unfold Own; rw [List.map_append]; exact h1, h2, h3, hown.lt⟩

end Go.Proofs.Ythbnhdocjnhhlaa
