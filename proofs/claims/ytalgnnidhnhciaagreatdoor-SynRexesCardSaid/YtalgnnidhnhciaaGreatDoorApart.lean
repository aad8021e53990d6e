/- Two slices of the call's own that lie apart: behind an append to the one the other is what it was, and lies apart still. -/
import Derived.Test.YtalgnnidhnhciaaGreatDoorProg
import Derived.WalkKit
import Derived.Lib.Hide
import Derived.Deep.AppendLies
import Derived.Deep.RegionHeld3
namespace Go.Proofs.YtalgnnidhnhciaaGreatDoor
open Go Go.RowKit
def Apart (v u : Value) : Prop := v.ownBlock = none \/ u.ownBlock = none \/ v.ownBlock ≠ u.ownBlock
theorem Apart.symm {v u : Value} (h : Apart v u) : Apart u v := by
 rcases h with h | h | h
 ·exact .inr (.inl h)
 ·exact .inl h
 ·exact .inr (.inr (fun q => h q.symm))
theorem Apart.nil : Apart (.slice none 0 0) (.slice none 0 0) := .inl rfl
def Keeps (w : World) (b o : Nat) (x : Value) (W : World) : Prop := W.cell? ⟨b, o, none⟩ = some x /\ w.heap.size <= W.heap.size
theorem Keeps.alloc {w W : World} {b o : Nat} {x : Value} (hb : b < w.heap.size) (h : W.cell? ⟨b, o, none⟩ = some x /\ w.heap.size <= W.heap.size) (ob : Obj) : (W.alloc ob).cell? ⟨b, o, none⟩ = some x /\ w.heap.size <= (W.alloc ob).heap.size := by
 have h2 := h.2
 exact ⟨by rw [World.cell?_alloc_past ob b o (show b < W.heap.size by omega)]; exact h.1, by simp; omega⟩
theorem Keeps.drew {w W : World} {b o : Nat} {x : Value} (h : W.cell? ⟨b, o, none⟩ = some x /\ w.heap.size <= W.heap.size) : W.drew.cell? ⟨b, o, none⟩ = some x /\ w.heap.size <= W.drew.heap.size := h
theorem Keeps.grown {w W W' : World} {b o : Nat} {x : Value} {row : Option Nat} (h : W.cell? ⟨b, o, none⟩ = some x /\ w.heap.size <= W.heap.size) (hg : W.grownBy W' row) (hne : some b ≠ row) : W'.cell? ⟨b, o, none⟩ = some x /\ w.heap.size <= W'.heap.size :=
 ⟨hg.cell h.1 hne, Nat.le_trans h.2 hg.size⟩
end Go.Proofs.YtalgnnidhnhciaaGreatDoor
