/- Two slices of the call's own that lie apart: behind an append to the one the other is what it was, and lies apart still. Rows of ints that the call itself gathers: append of one number, in a plain region and in one that draws its order; what that leaves of other rows, of iterators, of what lay below. Storing into a row of ints of the call's own; cells that are kept along a road. Contract of the law texts' Ints at two slices that read alike. -/
import Derived.Test.YtacgakkcpmhgmaaProg
import Derived.WalkKit
import Derived.Lib.Hide
import Derived.Deep.AppendLies
import Derived.Deep.RegionHeld3
import Derived.LoopTactic
import Derived.Deep.QuietTactic
import Derived.BigQuiet
set_option linter.unusedVariables false
set_option linter.unusedSimpArgs false
namespace Go.Proofs.Ytacgakkcpmhgmaa
open Go Go.RowKit
def Apart (v u : Value) : Prop := v.ownBlock = none \/ u.ownBlock = none \/ v.ownBlock ≠ u.ownBlock
theorem Apart.symm {v u : Value} (h : Apart v u) : Apart u v := by
 rcases h with h | h | h
 ·exact .inr (.inl h)
 ·exact .inl h
 ·exact .inr (.inr (fun q => h q.symm))
theorem Apart.nil : Apart (.slice none 0 0) (.slice none 0 0) := .inl rfl
theorem apart_lies {w w1 : World} {base H g N cap : Nat} {e : TypeId} {size : Nat} {v u : Value} {k : Nat} {ys : List Value} (hap : Apart v u) (hu : w.ownsRow base e size u k ys) (hg : w.grownBy w1 v.ownBlock)
  (hat : v.ownBlock = some g \/ g = H) (hH : w.heap.size = H) : w1.ownsRow base e size u k ys /\ Apart (.slice (some ⟨g, 0, none⟩) N cap) u := by
  constructor
  ·refine hu.kept hg ?_
   rcases hap with h | h | h
   ·cases hub : u.ownBlock with
    | none => exact .inl rfl
    | some q => right; rw [h]; simp
   ·exact .inl h
   ·exact .inr (fun q => h q.symm)
  ·unfold Apart
   cases hub : u.ownBlock with
   | none => exact .inr (.inl rfl)
   | some r =>
     right; right
     intro heq
     have heq' : g = r := by simpa [Value.ownBlock] using heq
     subst heq'
     have hlt := (hu.lt g hub).2
     rcases hat with h | h
     ·rcases hap with h' | h' | h'
      ·rw [h'] at h; cases h
      ·rw [h'] at hub; cases hub
      ·exact h' (h.trans hub.symm)
     ·omega
def Keeps (w : World) (b o : Nat) (x : Value) (W : World) : Prop := W.cell? ⟨b, o, none⟩ = some x /\ w.heap.size <= W.heap.size
theorem Keeps.alloc {w W : World} {b o : Nat} {x : Value} (hb : b < w.heap.size) (h : W.cell? ⟨b, o, none⟩ = some x /\ w.heap.size <= W.heap.size) (ob : Obj) : (W.alloc ob).cell? ⟨b, o, none⟩ = some x /\ w.heap.size <= (W.alloc ob).heap.size := by
 have h2 := h.2
 exact ⟨by rw [World.cell?_alloc_past ob b o (show b < W.heap.size by omega)]; exact h.1, by simp; omega⟩
theorem Keeps.drew {w W : World} {b o : Nat} {x : Value} (h : W.cell? ⟨b, o, none⟩ = some x /\ w.heap.size <= W.heap.size) : W.drew.cell? ⟨b, o, none⟩ = some x /\ w.heap.size <= W.drew.heap.size := h
theorem Keeps.grown {w W W' : World} {b o : Nat} {x : Value} {row : Option Nat} (h : W.cell? ⟨b, o, none⟩ = some x /\ w.heap.size <= W.heap.size) (hg : W.grownBy W' row) (hne : some b ≠ row) : W'.cell? ⟨b, o, none⟩ = some x /\ w.heap.size <= W'.heap.size :=
 ⟨hg.cell h.1 hne, Nat.le_trans h.2 hg.size⟩
end Go.Proofs.Ytacgakkcpmhgmaa
namespace Go.Proofs.Ytacgakkcpmhgmaa
open Go Go.RowKit
theorem info_int : (Try.prog.info? 3).map (fun i => (i.zero, i.size, i.bytes)) = some (some (.int .i64 0), 1, 8) := by kernel_rfl
def Own (w : World) (B : Nat) (v : Value) (n : Nat) (l : List Int) : Prop := w.ownsRow B 3 1 v n (l.map (Value.int .i64))
theorem Own.nil (w : World) (B : Nat) : Own w B (.slice none 0 0) 0 [] := World.ownsRow_nil _ _ _ _
theorem Own.len {w : World} {B n : Nat} {v : Value} {l : List Int} (h : Own w B v n l) : l.length = n := by simpa using h.1
theorem Own.alloc {w : World} {B n : Nat} {v : Value} {l : List Int} (h : Own w B v n l) (o : Obj) : Own (w.alloc o) B v n l := World.ownsRow.alloc h o
theorem Own.drew {w : World} {B n : Nat} {v : Value} {l : List Int} (h : Own w B v n l) : Own w.drew B v n l := World.ownsRow.drew h
theorem Own.lt {w : World} {B n : Nat} {v : Value} {l : List Int} (h : Own w B v n l) : ∀ k, v.ownBlock = some k -> B <= k /\ k < w.heap.size := World.ownsRow.lt h
theorem Own.kept {w w' : World} {B n : Nat} {v : Value} {l : List Int} {row : Option Nat} (h : Own w B v n l) (hg : w.grownBy w' row) (hne : v.ownBlock = none \/ v.ownBlock ≠ row) : Own w' B v n l := World.ownsRow.kept h hg hne
theorem Own.form {w : World} {B n : Nat} {v : Value} {l : List Int} (h : Own w B v n l) :
  (v = .slice none 0 0 /\ n = 0 /\ l = []) \/ ∃ g cap, v = .slice (some ⟨g, 0, none⟩) n cap /\ B <= g /\ g < w.heap.size /\ n <= cap /\ ∀ i, i < n -> w.cell? ⟨g, 0 + i, none⟩ = some (.int .i64 (l.getD i 0)) := by
  have hlen := h.len
  have h0 := h
  rcases h.2 with ⟨rfl, rfl⟩ | ⟨g, cap, cur, rfl, hg, hh, hnc, _⟩
  ·exact .inl ⟨rfl, rfl, List.eq_nil_of_length_eq_zero hlen⟩
  ·refine .inr ⟨g, cap, rfl, hg, (Array.getElem?_eq_some_iff.1 hh).1, hnc, fun i hi => ?_⟩
   rw [Nat.zero_add, World.ownsRow.cellAt h0 i (by omega)]
   simp [List.getD, List.getElem?_eq_getElem (show i < l.length by omega)]
theorem Own.more {w : World} {B B' n : Nat} {v : Value} {l : List Int} (h : Own w B v n l) (hB : B' <= B) : Own w B' v n l := by
 obtain ⟨h1, h2⟩ := h
 refine ⟨h1, ?_⟩
 rcases h2 with h2 | ⟨g, cap, cur, rfl, hg, r⟩
 ·exact .inl h2
 ·exact .inr ⟨g, cap, cur, rfl, by omega, r⟩
theorem Own.below {w w' : World} {B C n : Nat} {v : Value} {l : List Int} (h : Own w B v n l) (hlt : ∀ k, v.ownBlock = some k -> k < C) (hb : Below C w w') : Own w' B v n l := by
 obtain ⟨h1, h2⟩ := h
 refine ⟨h1, ?_⟩
 rcases h2 with h2 | ⟨g, cap, cur, rfl, hg, hh, r⟩
 ·exact .inl h2
 ·exact .inr ⟨g, cap, cur, rfl, hg, by rw [hb.block g (hlt g rfl)]; exact hh, r⟩
theorem Own.below_top {w w' : World} {B n : Nat} {v : Value} {l : List Int} (h : Own w B v n l) (hb : Below w.heap.size w w') : Own w' B v n l :=
 h.below (fun k hk => (h.lt k hk).2) hb
theorem Own.ne_iter {w : World} {B n k : Nat} {v : Value} {l : List Int} {s : ByteArray} {p : Nat} (h : Own w B v n l) (hk : w.heap[k]? = some (.stringIter s p)) : some k ≠ v.ownBlock := by
 rcases h.2 with ⟨rfl, _⟩ | ⟨g, cap, cur, rfl, _, hh, _⟩
 ·simp [Value.ownBlock]
 ·intro e
  have : k = g := by simpa [Value.ownBlock] using e
  subst this
  rw [hk] at hh; cases hh
structure Pushed (B : Nat) (w0 w1 : World) (v : Value) (g cap n : Nat) (l : List Int) (x : Int) : Prop where
 own : Own w1 B (.slice (some ⟨g, 0, none⟩) (n + 1) cap) (n + 1) (l ++ [x])
 grow : (w0.alloc (.cells #[.int .i64 x] 3)).grownBy w1 v.ownBlock
 at_ : v.ownBlock = some g \/ g = w0.heap.size + 1
 old : ∀ k, v.ownBlock = some k -> B <= k /\ k < w0.heap.size
theorem Pushed.below {B C : Nat} {w w0 w1 : World} {v : Value} {g cap n : Nat} {l : List Int} {x : Int} (h : Pushed B w0 w1 v g cap n l x) (hb : Below C w w0) (hC : C <= B) (hC2 : C <= w0.heap.size) : Below C w w1 :=
 (hb.alloc hC2 _).grown h.grow (by simp; omega) (fun k hk => Nat.le_trans hC (h.old k hk).1)
theorem Pushed.size {B : Nat} {w0 w1 : World} {v : Value} {g cap n : Nat} {l : List Int} {x : Int} (h : Pushed B w0 w1 v g cap n l x) : w0.heap.size <= w1.heap.size := by
 have := h.grow.size; simp at this; omega
theorem Pushed.other {B B' : Nat} {w0 w1 : World} {v u : Value} {g cap n m : Nat} {l l' : List Int} {x : Int} (h : Pushed B w0 w1 v g cap n l x) (hap : Apart v u) (hu : Own w0 B' u m l') :
  Own w1 B' u m l' /\ Apart (.slice (some ⟨g, 0, none⟩) (n + 1) cap) u :=
  apart_lies hap (World.ownsRow.alloc hu _) h.grow h.at_ (by simp)
theorem Pushed.iter {B : Nat} {w0 w1 : World} {v : Value} {g cap n k p : Nat} {l : List Int} {x : Int} {s : ByteArray} (h : Pushed B w0 w1 v g cap n l x) (hv : Own w0 B v n l) (hk : w0.heap[k]? = some (.stringIter s p)) : w1.heap[k]? = some (.stringIter s p) := by
 have hlt : k < w0.heap.size := (Array.getElem?_eq_some_iff.1 hk).1
 rw [h.grow.block k (by simp; omega) (hv.ne_iter hk), Below.heap_alloc w0 _ k hlt]
 exact hk
theorem Pushed.cell {B : Nat} {w0 w1 : World} {v : Value} {g cap n b o : Nat} {l : List Int} {x : Int} {y : Value} (h : Pushed B w0 w1 v g cap n l x) (hc : w0.cell? ⟨b, o, none⟩ = some y) (hlt : b < w0.heap.size) (hne : some b ≠ v.ownBlock) : w1.cell? ⟨b, o, none⟩ = some y := by
 have h1 : (w0.alloc (.cells #[.int .i64 x] 3)).cell? ⟨b, o, none⟩ = some y := by rw [World.cell?_alloc_past _ b o hlt]; exact hc
 exact h.grow.cell h1 hne
theorem wpList_push {ops : Array Oper} {rest : List Oper} {o : Oper} {a : Act} {Q : Exit -> Act -> World -> Prop} (hgd : o.guard = none) (s x : Operand)
  (ho : o.op = .call { callee := .builtin .append, args := #[s, x], argTypes := #[22, 22] })
  (B : Nat) (w0 : World) (v : Value) (n : Nat) (l : List Int) (y : Int) (hs : a.eval s = v) (hown : Own w0 B v n l) (hx : a.eval x = .slice (some ⟨w0.heap.size, 0, none⟩) 1 1)
  (hn : n <= 1000000000) (hB : B <= w0.heap.size)
  (h : ∀ g cap w1, Pushed B w0 w1 v g cap n l y -> wpList Try.prog ops Q rest (a.put o.dst (.slice (some ⟨g, 0, none⟩) (n + 1) cap)) w1) : wpList Try.prog ops Q (o :: rest) a (w0.alloc (.cells #[.int .i64 y] 3)) := by
  obtain ⟨i0, hi, hz0, hz1, hz2⟩ := info_parts info_int
  refine wpList_append_lies _ hgd s x _ ho B 3 i0 _ 1 8 Try.underlying22 hi hz0 hz1 hz2 rfl (by omega) v n (l.map (Value.int .i64)) hs (World.ownsRow.alloc hown _) ⟨w0.heap.size, 0, none⟩ 1 1 [.int .i64 y] hx rfl (World.news_of_block (cs := #[.int .i64 y]) (t := 3) (fr := (0, 0)) (heap_alloc_new w0 _)) (by simp [Value.oneCell']) (by omega) (by unfold maxLen; omega) (by omega) (by simp; omega) (w0.heap.size + 1) (by simp) ?_
  intro g cap w1 h1 h2 h3 h4
  exact h g cap w1 ⟨by unfold Own; rw [List.map_append]; exact h1, h2, h3, hown.lt⟩
theorem wpList_pushH {ops : Array Oper} {rest : List Oper} {o : Oper} {a : Act} {Q : Exit -> Act -> World -> Prop} (hgd : o.guard = none) (s x : Operand)
  (ho : o.op = .call { callee := .builtin .append, args := #[s, x], argTypes := #[22, 22] })
  (B : Nat) (w0 : World) (v : Value) (n : Nat) (l : List Int) (y : Int) (hs : a.eval s = v) (hown : Own w0 B v n l) (H : Nat) (hx : a.eval x = .slice (some ⟨H, 0, none⟩) 1 1) (hH : w0.heap.size = H)
  (hn : n <= 1000000000) (hB : B <= w0.heap.size)
  (h : ∀ g cap w1, Pushed B w0 w1 v g cap n l y -> wpList Try.prog ops Q rest (a.put o.dst (.slice (some ⟨g, 0, none⟩) (n + 1) cap)) w1) : wpList Try.prog ops Q (o :: rest) a (w0.alloc (.cells #[.int .i64 y] 3)) := by
  subst hH
  exact wpList_push hgd s x ho B w0 v n l y hs hown hx hn hB h
theorem step_push {ops : Array Oper} {o : Oper} {a : Act} {K : Act -> World -> Prop} {Q : Exit -> Act -> World -> Prop} {E : Prop} (hgd : o.guard = none) (s x : Operand)
  (ho : o.op = .call { callee := .builtin .append, args := #[s, x], argTypes := #[22, 22] })
  (B : Nat) (w0 : World) (v : Value) (n : Nat) (l : List Int) (y : Int) (hs : a.eval s = v) (hown : Own w0 B v n l) (hx : a.eval x = .slice (some ⟨w0.heap.size, 0, none⟩) 1 1)
  (hn : n <= 1000000000) (hB : B <= w0.heap.size)
  (h : ∀ g cap w1, Pushed B w0 w1 v g cap n l y -> K (a.put o.dst (.slice (some ⟨g, 0, none⟩) (n + 1) cap)) w1) :
  if Region.wanted o (yielded ops a.tmps) = true then Oper.wp Try.prog o a (w0.alloc (.cells #[.int .i64 y] 3)) K Q else E := by
  obtain ⟨i0, hi, hz0, hz1, hz2⟩ := info_parts info_int
  refine step_append_lies _ hgd s x _ ho B 3 i0 _ 1 8 Try.underlying22 hi hz0 hz1 hz2 rfl (by omega) v n (l.map (Value.int .i64)) hs (World.ownsRow.alloc hown _) ⟨w0.heap.size, 0, none⟩ 1 1 [.int .i64 y] hx rfl (World.news_of_block (cs := #[.int .i64 y]) (t := 3) (fr := (0, 0)) (heap_alloc_new w0 _)) (by simp [Value.oneCell']) (by omega) (by unfold maxLen; omega) (by omega) (by simp; omega) (w0.heap.size + 1) (by simp) ?_
  intro g cap w1 h1 h2 h3 h4
  exact h g cap w1 ⟨by unfold Own; rw [List.map_append]; exact h1, h2, h3, hown.lt⟩
end Go.Proofs.Ytacgakkcpmhgmaa
namespace Go.Proofs.Ytacgakkcpmhgmaa
open Go Go.RowKit
theorem Own.stored {w : World} {B g cap n : Nat} {l : List Int} (h : Own w B (.slice (some ⟨g, 0, none⟩) n cap) n l) (j : Nat) (x : Int) :
  Own (w.setCell ⟨g, j, none⟩ (.int .i64 x)) B (.slice (some ⟨g, 0, none⟩) n cap) n (l.set j x) /\ w.grownBy (w.setCell ⟨g, j, none⟩ (.int .i64 x)) (some g) := by
  have := World.ownsRow.stored h j (.int .i64 x)
  refine ⟨?_, this.2⟩
  unfold Own
  rw [List.map_set]
  exact this.1
theorem Own.frozen {w : World} {B g cap n : Nat} {l : List Int} (h : Own w B (.slice (some ⟨g, 0, none⟩) n cap) n l) (j : Nat) : w.frozen? ⟨g, j, none⟩ = false := World.ownsRow.frozenAt h j
theorem Own.stored_other {w : World} {B g j m : Nat} {u : Value} {l : List Int} (h : Own w B u m l) (hne : u.ownBlock ≠ some g) (x : Value) : Own (w.setCell ⟨g, j, none⟩ x) B u m l := by
 obtain ⟨h1, h2⟩ := h
 refine ⟨h1, ?_⟩
 rcases h2 with h2 | ⟨g', cap, cur, rfl, hg, hh, r⟩
 ·exact .inl h2
 ·refine .inr ⟨g', cap, cur, rfl, hg, ?_, r⟩
  rw [heap_setCell_other w ⟨g, j, none⟩ g' x (fun e => hne (by simp [Value.ownBlock, e]))]
  exact hh
theorem Apart.ne {g n cap : Nat} {u : Value} (h : Apart (.slice (some ⟨g, 0, none⟩) n cap) u) : u.ownBlock ≠ some g := by
 rcases h with h | h | h
 ·simp [Value.ownBlock] at h
 ·rw [h]; simp
 ·intro e
  exact h (by rw [e]; simp [Value.ownBlock])
theorem keep_alloc {w : World} {b o : Nat} {x : Value} (h : w.cell? ⟨b, o, none⟩ = some x) (ob : Obj) : (w.alloc ob).cell? ⟨b, o, none⟩ = some x := by
 rw [World.cell?_alloc_past ob b o (World.block_lt_of_cell? w _ h)]; exact h
structure PushedAt (B : Nat) (w0 w1 : World) (v : Value) (g cap n : Nat) (l : List Int) (x : Int) : Prop where
 own : Own w1 B (.slice (some ⟨g, 0, none⟩) (n + 1) cap) (n + 1) (l ++ [x])
 grow : w0.grownBy w1 v.ownBlock
 at_ : v.ownBlock = some g \/ g = w0.heap.size
 old : ∀ k, v.ownBlock = some k -> B <= k /\ k < w0.heap.size
theorem PushedAt.below {B C : Nat} {w w0 w1 : World} {v : Value} {g cap n : Nat} {l : List Int} {x : Int} (h : PushedAt B w0 w1 v g cap n l x) (hb : Below C w w0) (hC : C <= B) (hC2 : C <= w0.heap.size) : Below C w w1 :=
 hb.grown h.grow hC2 (fun k hk => Nat.le_trans hC (h.old k hk).1)
theorem PushedAt.other {B B' : Nat} {w0 w1 : World} {v u : Value} {g cap n m : Nat} {l l' : List Int} {x : Int} (h : PushedAt B w0 w1 v g cap n l x) (hap : Apart v u) (hu : Own w0 B' u m l') :
  Own w1 B' u m l' /\ Apart (.slice (some ⟨g, 0, none⟩) (n + 1) cap) u :=
  apart_lies hap hu h.grow h.at_ rfl
theorem PushedAt.cell {B : Nat} {w0 w1 : World} {v : Value} {g cap n b o : Nat} {l : List Int} {x : Int} {y : Value} (h : PushedAt B w0 w1 v g cap n l x) (hc : w0.cell? ⟨b, o, none⟩ = some y) (hne : some b ≠ v.ownBlock) : w1.cell? ⟨b, o, none⟩ = some y :=
 h.grow.cell hc hne
theorem step_push_any {w0 : World} {ops : Array Oper} {o : Oper} {a : Act} {K : Act -> World -> Prop} {Q : Exit -> Act -> World -> Prop} {E : Prop} (hgd : o.guard = none) (s x : Operand)
  (ho : o.op = .call { callee := .builtin .append, args := #[s, x], argTypes := #[22, 22] })
  (B : Nat) (v : Value) (n : Nat) (l : List Int) (y : Int) (g0 : Nat) (hs : a.eval s = v) (hown : Own w0 B v n l) (hx : a.eval x = .slice (some ⟨g0, 0, none⟩) 1 1) (hc : w0.cell? ⟨g0, 0, none⟩ = some (.int .i64 y))
  (hn : n <= 1000000000) (hB : B <= w0.heap.size)
  (h : ∀ g cap w1, PushedAt B w0 w1 v g cap n l y -> K (a.put o.dst (.slice (some ⟨g, 0, none⟩) (n + 1) cap)) w1) :
  if Region.wanted o (yielded ops a.tmps) = true then Oper.wp Try.prog o a w0 K Q else E := by
  obtain ⟨i0, hi, hz0, hz1, hz2⟩ := info_parts info_int
  refine step_append_lies _ hgd s x _ ho B 3 i0 _ 1 8 Try.underlying22 hi hz0 hz1 hz2 rfl (by omega) v n (l.map (Value.int .i64)) hs hown ⟨g0, 0, none⟩ 1 1 [.int .i64 y] hx rfl (fun j u hj => ?_) (by simp [Value.oneCell']) (by omega) (by unfold maxLen; omega) (by omega) hB w0.heap.size rfl ?_
  ·cases j with
   | zero =>
     simp at hj
     subst hj
     exact hc
   | succ j => simp at hj
  ·intro g cap w1 h1 h2 h3 _
   exact h g cap w1 ⟨by unfold Own; rw [List.map_append]; exact h1, h2, h3, hown.lt⟩
end Go.Proofs.Ytacgakkcpmhgmaa
namespace Go.Proofs.Ytacgakkcpmhgmaa
open Go Go.RowKit
def Reads (w : World) (v : Value) (n : Nat) (l : List Int) : Prop :=
 l.length = n /\ ∃ a cap, v = .slice a n cap /\ (a = none -> cap = 0) /\ ∀ i, i < n -> ∃ b off, a = some ⟨b, off, none⟩ /\ ∀ j, j < n -> w.cell? ⟨b, off + j, none⟩ = some (.int .i64 (l.getD j 0))
theorem Own.reads {w : World} {B n : Nat} {v : Value} {l : List Int} (h : Own w B v n l) : Reads w v n l := by
 refine ⟨h.len, ?_⟩
 rcases h.form with ⟨rfl, rfl, _⟩ | ⟨g, cap, rfl, _, _, _, hc⟩
 ·exact ⟨none, 0, rfl, fun _ => rfl, fun i hi => absurd hi (by omega)⟩
 ·exact ⟨_, cap, rfl, fun e => (by cases e), fun i hi => ⟨g, 0, rfl, hc⟩⟩
theorem Reads.same {w w' : World} {v : Value} {n : Nat} {l : List Int} (h : Reads w v n l) (hk : ∀ b o x, w.cell? ⟨b, o, none⟩ = some x -> w'.cell? ⟨b, o, none⟩ = some x) : Reads w' v n l := by
 obtain ⟨h1, a, cap, h2, h3, h4⟩ := h
 refine ⟨h1, a, cap, h2, h3, fun i hi => ?_⟩
 obtain ⟨b, off, e, hc⟩ := h4 i hi
 exact ⟨b, off, e, fun j hj => hk _ _ _ (hc j hj)⟩
theorem Reads.below {w w' : World} {v : Value} {n : Nat} {l : List Int} (h : Reads w v n l) (hb : Below w.heap.size w w') : Reads w' v n l :=
 h.same fun b o x hx => by rw [hb.cell (p := ⟨b, o, none⟩) (World.block_lt_of_cell? w _ hx)]; exact hx
end Go.Proofs.Ytacgakkcpmhgmaa
