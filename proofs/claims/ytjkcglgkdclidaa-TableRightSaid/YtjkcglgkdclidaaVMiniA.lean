/- What a call leaves as it was; parts.swap. -/
import Derived.Test.YtjkcglgkdclidaaVMiniP
import Derived.Test.YtjkcglgkdclidaaVTk
import Derived.Test.YtjkcglgkdclidaaVApart
import Derived.Test.YtjkcglgkdclidaaVLL
import Derived.Test.YtjkcglgkdclidaaVRowE
import Derived.BigRegion
import Derived.IntWalk
set_option linter.unusedVariables false
set_option linter.unusedSimpArgs false
namespace Go.Proofs.Ytjkcglgkdclidaa
open Go Go.RowKit Go.Proofs
structure Fr (X : Nat -> Prop) (w w' : World) : Prop where
 os : w'.os = w.os
 tape : w'.tape = w.tape
 output : w'.output = w.output
 size : w.heap.size <= w'.heap.size
 block : ∀ k, k < w.heap.size -> ¬ X k -> w'.heap[k]? = w.heap[k]?
section
variable {X Y : Nat -> Prop} {w w' w2 : World}
theorem Fr.refl (X : Nat -> Prop) (w : World) : Fr X w w := ⟨rfl, rfl, rfl, Nat.le_refl _, fun _ _ _ => rfl⟩
theorem Fr.trans (h : Fr X w w') (h' : Fr X w' w2) : Fr X w w2 :=
 ⟨h'.os.trans h.os, h'.tape.trans h.tape, h'.output.trans h.output, Nat.le_trans h.size h'.size, fun k hk hx => (h'.block k (Nat.lt_of_lt_of_le hk h.size) hx).trans (h.block k hk hx)⟩
theorem Fr.then_ (h : Fr X w w') (h' : Fr Y w' w2) (hY : ∀ k, k < w.heap.size -> Y k -> X k) : Fr X w w2 :=
 ⟨h'.os.trans h.os, h'.tape.trans h.tape, h'.output.trans h.output, Nat.le_trans h.size h'.size, fun k hk hx => (h'.block k (Nat.lt_of_lt_of_le hk h.size) (fun y => hx (hY k hk y))).trans (h.block k hk hx)⟩
theorem Fr.mono (h : Fr X w w') (hX : ∀ k, k < w.heap.size -> X k -> Y k) : Fr Y w w' := ⟨h.os, h.tape, h.output, h.size, fun k hk hy => h.block k hk (fun x => hy (hX k hk x))⟩
theorem Fr.of_below (h : Below w.heap.size w w') : Fr X w w' := ⟨h.os, h.tape, h.output, h.size, fun k hk _ => h.block k hk⟩
theorem Fr.of_grown {row : Option Nat} (h : w.grownBy w' row) (hX : ∀ k, row = some k -> X k) : Fr X w w' := ⟨h.os, h.tape, h.output, h.size, fun k hk hx => h.block k hk (fun e => hx (hX k e.symm))⟩
theorem Fr.below (h : Fr X w w') {B : Nat} (hB : B <= w.heap.size) (hX : ∀ k, k < B -> ¬ X k) : Below B w w' := ⟨h.os, h.tape, h.output, h.size, fun k hk => h.block k (Nat.lt_of_lt_of_le hk hB) (hX k hk)⟩
theorem Fr.set_ (h : Fr X w w') {p : Addr} (hp : X p.block \/ w.heap.size <= p.block) (u : Value) : Fr X w (w'.setCell p u) :=
 ⟨h.os, h.tape, h.output, by simpa [World.setCell] using h.size, fun k hk hx => (Below.heap_setCell w' p u k (by
  rintro rfl
  rcases hp with hp | hp
  ·exact hx hp
  ·omega)).trans (h.block k hk hx)⟩
theorem Fr.alloc (h : Fr X w w') (o : Obj) : Fr X w (w'.alloc o) :=
 ⟨h.os, h.tape, h.output, Nat.le_trans h.size (by simp), fun k hk hx => (Below.heap_alloc w' o k (Nat.lt_of_lt_of_le hk h.size)).trans (h.block k hk hx)⟩
theorem Fr.drewN (h : Fr X w w') (n : Nat) : Fr X w (w'.drewN n) := ⟨h.os, h.tape, h.output, h.size, h.block⟩
theorem Fr.drew (h : Fr X w w') : Fr X w w'.drew := ⟨h.os, h.tape, h.output, h.size, h.block⟩
theorem Fr.blk (h : Fr X w w') {g : Nat} {t : TypeId} {cs : Array Value} (hg : Blk w g t cs) (hx : ¬ X g) : Blk w' g t cs := (h.block g hg.lt hx).trans hg
theorem Fr.own (h : Fr X w w') {B n : Nat} {v : Value} {l : List Int} (ho : Own w B v n l) (hx : ∀ k, v.ownBlock = some k -> ¬ X k) : Own w' B v n l := by
 have hlt := ho.lt
 obtain ⟨h1, h2⟩ := ho
 refine ⟨h1, ?_⟩
 rcases h2 with h2 | ⟨g, cap, cur, rfl, hg, hh, r⟩
 ·exact .inl h2
 ·exact .inr ⟨g, cap, cur, rfl, hg, by rw [h.block g (hlt g rfl).2 (hx g rfl)]; exact hh, r⟩
theorem Fr.rows (h : Fr X w w') {α : Type} {enc : α -> List Value} {t : TypeId} {k B n : Nat} {v : Value} {l : List α} (ho : OwnE enc t k w B v n l) (hx : ∀ j, v.ownBlock = some j -> ¬ X j) : OwnE enc t k w' B v n l :=
 ho.same fun g hg => h.block g (ho.lt g hg).2 (hx g hg)
theorem Fr.cell (h : Fr X w w') {g i : Nat} {x : Value} (hc : w.cell? ⟨g, i, none⟩ = some x) (hx : ¬ X g) : w'.cell? ⟨g, i, none⟩ = some x :=
 (World.cell?_of_block (a := ⟨g, i, none⟩) (h.block g (World.block_lt_of_cell? w _ hc) hx)).trans hc
end
abbrev sl (g n c : Nat) : Value := .slice (some ⟨g, 0, none⟩) n c
theorem Own.cellAt {w : World} {B g n c : Nat} {f : Nat -> Nat} (h : Own w B (sl g n c) n (rowN n f)) {i : Nat} (hi : i < n) : w.cell? ⟨g, i, none⟩ = some (.int .i64 (f i : Int)) := by
 rcases h.form with ⟨e, _⟩ | ⟨g', c', e, _, _, _, hc⟩
 ·cases e
 ·simp only [Value.slice.injEq, Option.some.injEq, Addr.mk.injEq, and_true, true_and] at e
  obtain ⟨rfl, rfl⟩ := e
  have := hc i hi
  rw [rowN_get f hi, Nat.zero_add] at this
  exact this
theorem Own.storeN {w : World} {B g c n : Nat} {f : Nat -> Nat} (h : Own w B (sl g n c) n (rowN n f)) (i v : Nat) : Own (w.setCell ⟨g, i, none⟩ (.int .i64 (v : Int))) B (sl g n c) n (rowN n (updN f i v)) := by
 have := (h.stored i (v : Int)).1
 rw [rowN_set] at this
 exact this
theorem Own.farN {w : World} {B g n m c : Nat} {l : List Int} (h : Own w B (sl g n c) n l) {p : Addr} (hp : g ≠ p.block) (x : Value) : Own (w.setCell p x) B (sl g n c) n l := by
 obtain ⟨h1, h2⟩ := h
 refine ⟨h1, ?_⟩
 rcases h2 with h2 | ⟨g', cap, cur, e, hg, hh, r⟩
 ·exact .inl h2
 ·have e' := e
  simp only [Value.slice.injEq, Option.some.injEq, Addr.mk.injEq, and_true, true_and] at e'
  obtain ⟨rfl, rfl⟩ := e'
  exact .inr ⟨g, c, cur, e, hg, (Below.heap_setCell w p x g hp).trans hh, r⟩
theorem Own.capN {w : World} {B g n c : Nat} {l : List Int} (h : Own w B (sl g n c) n l) : n <= c /\ c <= maxLen /\ B <= g /\ g < w.heap.size := by
 have h0 := h
 rcases h.2 with ⟨e, _⟩ | ⟨g', cap, cur, e, hg, hh, h1, h2, _⟩
 ·cases e
 ·have e' := e
  simp only [Value.slice.injEq, Option.some.injEq, Addr.mk.injEq, and_true, true_and] at e'
  obtain ⟨rfl, rfl⟩ := e'
  exact ⟨h1, h2, hg, (Array.getElem?_eq_some_iff.1 hh).1⟩
end Go.Proofs.Ytjkcglgkdclidaa
