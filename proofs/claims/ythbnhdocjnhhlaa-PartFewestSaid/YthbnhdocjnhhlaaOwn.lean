/- Rows of ints that the call itself gathers: append of one number, in a plain region and in one that draws its order; what that leaves of other rows, of iterators, of what lay below. -/
import Derived.Test.YthbnhdocjnhhlaaApart
namespace Go.Proofs.Ythbnhdocjnhhlaa
open Go Go.RowKit

theorem info_int : (Try.prog.info? 3).map (fun i => (i.zero, i.size, i.bytes)) = some (some (.int .i64 0), 1, 8) := by kernel_rfl

/-- v is a row of the call's own (its block lies from B on) that holds the n numbers l. -/
def Own (w : World) (B : Nat) (v : Value) (n : Nat) (l : List Int) : Prop := w.ownsRow B 3 1 v n (l.map (Value.int .i64))

theorem Own.nil (w : World) (B : Nat) : Own w B (.slice none 0 0) 0 [] := World.ownsRow_nil _ _ _ _
theorem Own.len {w : World} {B n : Nat} {v : Value} {l : List Int} (h : Own w B v n l) : l.length = n := by simpa using h.1
theorem Own.alloc {w : World} {B n : Nat} {v : Value} {l : List Int} (h : Own w B v n l) (o : Obj) : Own (w.alloc o) B v n l := World.ownsRow.alloc h o
theorem Own.drew {w : World} {B n : Nat} {v : Value} {l : List Int} (h : Own w B v n l) : Own w.drew B v n l := World.ownsRow.drew h
theorem Own.lt {w : World} {B n : Nat} {v : Value} {l : List Int} (h : Own w B v n l) : ∀ k, v.ownBlock = some k → B ≤ k ∧ k < w.heap.size := World.ownsRow.lt h
theorem Own.kept {w w' : World} {B n : Nat} {v : Value} {l : List Int} {row : Option Nat} (h : Own w B v n l) (hg : w.grownBy w' row) (hne : v.ownBlock = none ∨ v.ownBlock ≠ row) : Own w' B v n l := World.ownsRow.kept h hg hne
/-- The value's form, and its cells where it has any. -/
theorem Own.form {w : World} {B n : Nat} {v : Value} {l : List Int} (h : Own w B v n l) :
    (v = .slice none 0 0 ∧ n = 0 ∧ l = []) ∨ ∃ g cap, v = .slice (some ⟨g, 0, none⟩) n cap ∧ B ≤ g ∧ g < w.heap.size ∧ n ≤ cap ∧ ∀ i, i < n → w.cell? ⟨g, 0 + i, none⟩ = some (.int .i64 (l.getD i 0)) := by
  have hlen := h.len
  have h0 := h
  rcases h.2 with ⟨rfl, rfl⟩ | ⟨g, cap, cur, rfl, hg, hh, hnc, _⟩
  · exact .inl ⟨rfl, rfl, List.eq_nil_of_length_eq_zero hlen⟩
  · refine .inr ⟨g, cap, rfl, hg, (Array.getElem?_eq_some_iff.1 hh).1, hnc, fun i hi => ?_⟩
    rw [Nat.zero_add, World.ownsRow.cellAt h0 i (by omega)]
    simp [List.getD, List.getElem?_eq_getElem (show i < l.length by omega)]
theorem Own.more {w : World} {B B' n : Nat} {v : Value} {l : List Int} (h : Own w B v n l) (hB : B' ≤ B) : Own w B' v n l := by
  obtain ⟨h1, h2⟩ := h
  refine ⟨h1, ?_⟩
  rcases h2 with h2 | ⟨g, cap, cur, rfl, hg, r⟩
  · exact .inl h2
  · exact .inr ⟨g, cap, cur, rfl, by omega, r⟩
/-- A row is kept where nothing below C has turned, and it lies below C. -/
theorem Own.below {w w' : World} {B C n : Nat} {v : Value} {l : List Int} (h : Own w B v n l) (hlt : ∀ k, v.ownBlock = some k → k < C) (hb : Below C w w') : Own w' B v n l := by
  obtain ⟨h1, h2⟩ := h
  refine ⟨h1, ?_⟩
  rcases h2 with h2 | ⟨g, cap, cur, rfl, hg, hh, r⟩
  · exact .inl h2
  · exact .inr ⟨g, cap, cur, rfl, hg, by rw [hb.block g (hlt g rfl)]; exact hh, r⟩
theorem Own.below_top {w w' : World} {B n : Nat} {v : Value} {l : List Int} (h : Own w B v n l) (hb : Below w.heap.size w w') : Own w' B v n l :=
  h.below (fun k hk => (h.lt k hk).2) hb
/-- No row of ints lies in a block that holds an iterator. -/
theorem Own.ne_iter {w : World} {B n k : Nat} {v : Value} {l : List Int} {s : ByteArray} {p : Nat} (h : Own w B v n l) (hk : w.heap[k]? = some (.stringIter s p)) : some k ≠ v.ownBlock := by
  rcases h.2 with ⟨rfl, _⟩ | ⟨g, cap, cur, rfl, _, hh, _⟩
  · simp [Value.ownBlock]
  · intro e
    have : k = g := by simpa [Value.ownBlock] using e
    subst this
    rw [hk] at hh; cases hh

/-- What append(v, x) leaves: the new row; what it has turned. -/
structure Pushed (B : Nat) (w0 w1 : World) (v : Value) (g cap n : Nat) (l : List Int) (x : Int) : Prop where
  own : Own w1 B (.slice (some ⟨g, 0, none⟩) (n + 1) cap) (n + 1) (l ++ [x])
  grow : (w0.alloc (.cells #[.int .i64 x] 3)).grownBy w1 v.ownBlock
  at_ : v.ownBlock = some g ∨ g = w0.heap.size + 1
  old : ∀ k, v.ownBlock = some k → B ≤ k ∧ k < w0.heap.size

theorem Pushed.below {B C : Nat} {w w0 w1 : World} {v : Value} {g cap n : Nat} {l : List Int} {x : Int} (h : Pushed B w0 w1 v g cap n l x) (hb : Below C w w0) (hC : C ≤ B) (hC2 : C ≤ w0.heap.size) : Below C w w1 :=
  (hb.alloc hC2 _).grown h.grow (by simp; omega) (fun k hk => Nat.le_trans hC (h.old k hk).1)
theorem Pushed.size {B : Nat} {w0 w1 : World} {v : Value} {g cap n : Nat} {l : List Int} {x : Int} (h : Pushed B w0 w1 v g cap n l x) : w0.heap.size ≤ w1.heap.size := by
  have := h.grow.size; simp at this; omega
/-- Another row, apart from v, is what it was, and apart from what v has become. -/
theorem Pushed.other {B B' : Nat} {w0 w1 : World} {v u : Value} {g cap n m : Nat} {l l' : List Int} {x : Int} (h : Pushed B w0 w1 v g cap n l x) (hap : Apart v u) (hu : Own w0 B' u m l') :
    Own w1 B' u m l' ∧ Apart (.slice (some ⟨g, 0, none⟩) (n + 1) cap) u :=
  apart_lies hap (World.ownsRow.alloc hu _) h.grow h.at_ (by simp)
theorem Pushed.iter {B : Nat} {w0 w1 : World} {v : Value} {g cap n k p : Nat} {l : List Int} {x : Int} {s : ByteArray} (h : Pushed B w0 w1 v g cap n l x) (hv : Own w0 B v n l) (hk : w0.heap[k]? = some (.stringIter s p)) : w1.heap[k]? = some (.stringIter s p) := by
  have hlt : k < w0.heap.size := (Array.getElem?_eq_some_iff.1 hk).1
  rw [h.grow.block k (by simp; omega) (hv.ne_iter hk), Below.heap_alloc w0 _ k hlt]
  exact hk
/-- A cell of a block that is not v's. -/
theorem Pushed.cell {B : Nat} {w0 w1 : World} {v : Value} {g cap n b o : Nat} {l : List Int} {x : Int} {y : Value} (h : Pushed B w0 w1 v g cap n l x) (hc : w0.cell? ⟨b, o, none⟩ = some y) (hlt : b < w0.heap.size) (hne : some b ≠ v.ownBlock) : w1.cell? ⟨b, o, none⟩ = some y := by
  have h1 : (w0.alloc (.cells #[.int .i64 x] 3)).cell? ⟨b, o, none⟩ = some y := by rw [World.cell?_alloc_past _ b o hlt]; exact hc
  exact h.grow.cell h1 hne

theorem wpList_push {ops : Array Oper} {rest : List Oper} {o : Oper} {a : Act} {Q : Exit → Act → World → Prop} (hgd : o.guard = none) (s x : Operand)
    (ho : o.op = .call { callee := .builtin .append, args := #[s, x], argTypes := #[22, 22] })
    (B : Nat) (w0 : World) (v : Value) (n : Nat) (l : List Int) (y : Int) (hs : a.eval s = v) (hown : Own w0 B v n l) (hx : a.eval x = .slice (some ⟨w0.heap.size, 0, none⟩) 1 1)
    (hn : n ≤ 1000000000) (hB : B ≤ w0.heap.size)
    (h : ∀ g cap w1, Pushed B w0 w1 v g cap n l y → wpList Try.prog ops Q rest (a.put o.dst (.slice (some ⟨g, 0, none⟩) (n + 1) cap)) w1) : wpList Try.prog ops Q (o :: rest) a (w0.alloc (.cells #[.int .i64 y] 3)) := by
  obtain ⟨i0, hi, hz0, hz1, hz2⟩ := info_parts info_int
  refine wpList_append_lies _ hgd s x _ ho B 3 i0 _ 1 8 Try.underlying22 hi hz0 hz1 hz2 rfl (by omega) v n (l.map (Value.int .i64)) hs (World.ownsRow.alloc hown _) ⟨w0.heap.size, 0, none⟩ 1 1 [.int .i64 y] hx rfl (World.news_of_block (cs := #[.int .i64 y]) (t := 3) (fr := (0, 0)) (heap_alloc_new w0 _)) (by simp [Value.oneCell']) (by omega) (by unfold maxLen; omega) (by omega) (by simp; omega) (w0.heap.size + 1) (by simp) ?_
  intro g cap w1 h1 h2 h3 h4
  exact h g cap w1 ⟨by unfold Own; rw [List.map_append]; exact h1, h2, h3, hown.lt⟩

theorem wpList_pushH {ops : Array Oper} {rest : List Oper} {o : Oper} {a : Act} {Q : Exit → Act → World → Prop} (hgd : o.guard = none) (s x : Operand)
    (ho : o.op = .call { callee := .builtin .append, args := #[s, x], argTypes := #[22, 22] })
    (B : Nat) (w0 : World) (v : Value) (n : Nat) (l : List Int) (y : Int) (hs : a.eval s = v) (hown : Own w0 B v n l) (H : Nat) (hx : a.eval x = .slice (some ⟨H, 0, none⟩) 1 1) (hH : w0.heap.size = H)
    (hn : n ≤ 1000000000) (hB : B ≤ w0.heap.size)
    (h : ∀ g cap w1, Pushed B w0 w1 v g cap n l y → wpList Try.prog ops Q rest (a.put o.dst (.slice (some ⟨g, 0, none⟩) (n + 1) cap)) w1) : wpList Try.prog ops Q (o :: rest) a (w0.alloc (.cells #[.int .i64 y] 3)) := by
  subst hH
  exact wpList_push hgd s x ho B w0 v n l y hs hown hx hn hB h

theorem step_push {ops : Array Oper} {o : Oper} {a : Act} {K : Act → World → Prop} {Q : Exit → Act → World → Prop} {E : Prop} (hgd : o.guard = none) (s x : Operand)
    (ho : o.op = .call { callee := .builtin .append, args := #[s, x], argTypes := #[22, 22] })
    (B : Nat) (w0 : World) (v : Value) (n : Nat) (l : List Int) (y : Int) (hs : a.eval s = v) (hown : Own w0 B v n l) (hx : a.eval x = .slice (some ⟨w0.heap.size, 0, none⟩) 1 1)
    (hn : n ≤ 1000000000) (hB : B ≤ w0.heap.size)
    (h : ∀ g cap w1, Pushed B w0 w1 v g cap n l y → K (a.put o.dst (.slice (some ⟨g, 0, none⟩) (n + 1) cap)) w1) :
    if Region.wanted o (yielded ops a.tmps) = true then Oper.wp Try.prog o a (w0.alloc (.cells #[.int .i64 y] 3)) K Q else E := by
  obtain ⟨i0, hi, hz0, hz1, hz2⟩ := info_parts info_int
  refine step_append_lies _ hgd s x _ ho B 3 i0 _ 1 8 Try.underlying22 hi hz0 hz1 hz2 rfl (by omega) v n (l.map (Value.int .i64)) hs (World.ownsRow.alloc hown _) ⟨w0.heap.size, 0, none⟩ 1 1 [.int .i64 y] hx rfl (World.news_of_block (cs := #[.int .i64 y]) (t := 3) (fr := (0, 0)) (heap_alloc_new w0 _)) (by simp [Value.oneCell']) (by omega) (by unfold maxLen; omega) (by omega) (by simp; omega) (w0.heap.size + 1) (by simp) ?_
  intro g cap w1 h1 h2 h3 h4
  exact h g cap w1 ⟨by unfold Own; rw [List.map_append]; exact h1, h2, h3, hown.lt⟩

end Go.Proofs.Ythbnhdocjnhhlaa
