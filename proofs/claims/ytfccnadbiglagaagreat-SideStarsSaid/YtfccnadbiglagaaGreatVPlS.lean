/- Arcs by their places, and a star of a star (plain). -/
import Derived.Test.YtfccnadbiglagaaGreatVPlB
set_option linter.unusedVariables false
set_option linter.unusedSimpArgs false
namespace Go.Proofs.YtfccnadbiglagaaGreat
open Go Go.RowKit Go.Proofs
def keysOf (N : Nat) : List (Nat × Nat) := (List.range N).flatMap fun i => (List.range N).map fun j => (i, j)
def arcsK (K : List (Nat × Nat)) (f : Mat) : List ArcP := K.filterMap fun k => arcAt f k.1 k.2
theorem arcsOf_keys (N : Nat) (f : Mat) : arcsOf N f = arcsK (keysOf N) f := by
 unfold arcsOf arcsK keysOf
 rw [List.filterMap_flatMap]
 congr 1
 funext i
 unfold arcsRow
 rw [List.filterMap_map]
 rfl
def ltK (a b : Nat × Nat) : Prop := a.1 < b.1 \/ (a.1 = b.1 /\ a.2 < b.2)
theorem keysOf_mem {N i j : Nat} (hi : i < N) (hj : j < N) : (i, j) ∈ keysOf N := by
 unfold keysOf
 rw [List.mem_flatMap]
 exact ⟨i, List.mem_range.2 hi, List.mem_map.2 ⟨j, List.mem_range.2 hj, rfl⟩⟩
theorem keysOf_sorted (N : Nat) : (keysOf N).Pairwise ltK := by
 unfold keysOf
 rw [List.pairwise_flatMap]
 constructor
 ·intro i hi
  rw [List.pairwise_map]
  exact (List.pairwise_lt_range (n := N)).imp fun h => .inr ⟨rfl, h⟩
 ·refine (List.pairwise_lt_range (n := N)).imp fun {a b} h => ?_
  intro x hx y hy
  obtain ⟨j, _, rfl⟩ := List.mem_map.1 hx
  obtain ⟨k, _, rfl⟩ := List.mem_map.1 hy
  exact .inl h
theorem mnC_min (x y : Int) : mnC x y = min x y := by unfold mnC; split <;> omega
def leastAt (i j : Int) (w : Int) (x : ArcP) : Int := if x.1 = i /\ x.2.1 = j then min w x.2.2 else w
theorem least_not {K : List (Nat × Nat)} {f : Mat} {i j : Nat} (h : (i, j) ∉ K) : ∀ w, (arcsK K f).foldl (leastAt i j) w = w := by
 induction K with
 | nil => intro w; rfl
 | cons k K ih =>
   intro w
   have ih' := ih (fun hx => h (by simp [hx]))
   have hne : ¬ (k.1 = i /\ k.2 = j) := fun e => h (by obtain ⟨k1, k2⟩ := k; obtain ⟨rfl, rfl⟩ := e; simp)
   unfold arcsK at ih' ⊢
   rw [List.filterMap_cons]
   cases hc : arcAt f k.1 k.2 with
   | none => exact ih' w
   | some x =>
     obtain ⟨rfl, _⟩ := arcAt_some hc
     dsimp only
     rw [List.foldl_cons, ih']
     unfold leastAt
     dsimp only
     rw [if_neg (by omega)]
theorem least_keys {K : List (Nat × Nat)} (hK : K.Pairwise ltK) {f : Mat} (hf : ∀ i j, CostC (f i j)) {i j : Nat} (h : (i, j) ∈ K) : ∀ w, CostC w -> (arcsK K f).foldl (leastAt i j) w = mnC (f i j) w := by
 induction K with
 | nil => cases h
 | cons k K ih =>
   intro w hw
   obtain ⟨hk1, hk2⟩ := List.pairwise_cons.1 hK
   by_cases hkk : k = (i, j)
   ·subst hkk
    have hn : (i, j) ∉ K := by
     intro hx
     have := hk1 _ hx
     unfold ltK at this
     omega
    have hl := least_not (f := f) hn
    unfold arcsK at hl ⊢
    rw [List.filterMap_cons]
    by_cases hfi : f i j < infC
    ·have e : arcAt f i j = some ((i : Int), (j : Int), f i j) := by unfold arcAt; rw [if_pos hfi]
     dsimp only
     rw [e]
     dsimp only
     rw [List.foldl_cons, hl]
     unfold leastAt
     dsimp only
     rw [if_pos ⟨rfl, rfl⟩, mnC_min]
     omega
    ·have e : arcAt f i j = none := by unfold arcAt; rw [if_neg hfi]
     dsimp only
     rw [e]
     dsimp only
     rw [hl]
     have e3 : f i j = infC := by have := hf i j; obtain ⟨h0, h1⟩ := this; unfold infC at hfi ⊢; omega
     rw [e3, inf_mnC hw]
   ·have hm' : (i, j) ∈ K := by
     rcases List.mem_cons.1 h with h | h
     ·exact absurd h.symm hkk
     ·exact h
    have ih' := ih hk2 hm'
    have hne : ¬ (k.1 = i /\ k.2 = j) := fun h => hkk (by obtain ⟨k1, k2⟩ := k; obtain ⟨rfl, rfl⟩ := h; rfl)
    unfold arcsK at ih' ⊢
    rw [List.filterMap_cons]
    cases hc : arcAt f k.1 k.2 with
    | none => exact ih' w hw
    | some x =>
      obtain ⟨rfl, _⟩ := arcAt_some hc
      dsimp only
      rw [List.foldl_cons]
      have : leastAt i j w ((k.1 : Int), (k.2 : Int), f k.1 k.2) = w := by
       unfold leastAt
       dsimp only
       rw [if_neg (by omega)]
      rw [this]
      exact ih' w hw
theorem least_of {N : Nat} {f : Mat} (hf : ∀ i j, CostC (f i j)) {i j : Nat} (hi : i < N) (hj : j < N) (w : Int) (hw : CostC w) : (arcsOf N f).foldl (leastAt i j) w = mnC (f i j) w := by
 rw [arcsOf_keys]
 exact least_keys (keysOf_sorted N) hf (keysOf_mem hi hj) w hw
theorem sStar_arc (a : SideP) (i j : Nat) : (sStar a).arc i j = if i < a.n /\ j < a.n then mnC (a.arc i j) (plC (a.ends.getD i infC) (a.first.getD j infC)) else a.arc i j := rfl
theorem sStar_star (a : SideP) : sStar (sStar a) = sStar a := by
 have e : (sStar (sStar a)).arc = (sStar a).arc := by
  funext i j
  rw [sStar_arc (sStar a) i j]
  show (if i < a.n /\ j < a.n then mnC ((sStar a).arc i j) (plC (a.ends.getD i infC) (a.first.getD j infC)) else (sStar a).arc i j) = _
  rw [sStar_arc a i j]
  by_cases h : i < a.n /\ j < a.n
  ·simp only [if_pos h]
   generalize a.arc i j = p
   generalize plC (a.ends.getD i infC) (a.first.getD j infC) = q
   simp only [mnC_min]
   omega
  ·simp only [if_neg h]
 show (⟨a.sets, a.first, a.ends, (sStar (sStar a)).arc, 0⟩ : SideP) = ⟨a.sets, a.first, a.ends, (sStar a).arc, 0⟩
 rw [e]
end Go.Proofs.YtfccnadbiglagaaGreat
