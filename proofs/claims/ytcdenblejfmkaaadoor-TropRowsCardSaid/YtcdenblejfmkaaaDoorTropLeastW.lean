/- The law TropLeast returns true, whatever its numbers. -/
import Derived.Test.YtcdenblejfmkaaaDoorTropOwnW
namespace Go.Proofs.YtcdenblejfmkaaaDoor
open Go.RowKit


/-- Costs that are dearer by as much. -/
def dearer (l : List Int) (q : Int) : List Int := l.map fun x => plus x q
theorem least_is (l : List Int) (h : ∀ x ∈ l, IsCost x) : IsCost (least l) := by
  have key : ∀ (l : List Int) (m : Int), (∀ x ∈ l, IsCost x) → IsCost m → IsCost (l.foldl (fun m n => if n < m then n else m) m) := by
    intro l
    induction l with
    | nil => intro m _ hm; exact hm
    | cons x l ih =>
      intro m hl hm
      simp only [List.foldl_cons]
      refine ih _ (fun y hy => hl y (List.mem_cons_of_mem _ hy)) ?_
      split
      · exact hl x List.mem_cons_self
      · exact hm
  exact key l _ h ⟨by omega, by omega⟩
theorem least_le (l : List Int) (x : Int) (hx : x ∈ l) : least l ≤ x := by
  have key : ∀ (l : List Int) (m : Int), (l.foldl (fun m n => if n < m then n else m) m) ≤ m := by
    intro l
    induction l with
    | nil => intro m; exact Int.le_refl _
    | cons x l ih =>
      intro m
      simp only [List.foldl_cons]
      refine Int.le_trans (ih _) ?_
      split <;> omega
  have key2 : ∀ (l : List Int) (m : Int), x ∈ l → (l.foldl (fun m n => if n < m then n else m) m) ≤ x := by
    intro l
    induction l with
    | nil => intro m h; cases h
    | cons y l ih =>
      intro m h
      simp only [List.foldl_cons]
      rcases List.mem_cons.1 h with rfl | h
      · refine Int.le_trans (key l _) ?_
        split <;> omega
      · exact ih _ h
  exact key2 l _ hx
theorem least_mem (l : List Int) (hl : l ≠ []) (h : ∀ x ∈ l, IsCost x) : least l ∈ l := by
  have key : ∀ (l : List Int) (m : Int), (l.foldl (fun m n => if n < m then n else m) m) = m ∨ (l.foldl (fun m n => if n < m then n else m) m) ∈ l := by
    intro l
    induction l with
    | nil => intro m; exact .inl rfl
    | cons x l ih =>
      intro m
      simp only [List.foldl_cons]
      rcases ih (if x < m then x else m) with e | e
      · rw [e]
        split
        · exact .inr List.mem_cons_self
        · exact .inl rfl
      · exact .inr (List.mem_cons_of_mem _ e)
  rcases key l 1152921504606846976 with e | e
  · cases l with
    | nil => exact absurd rfl hl
    | cons x l =>
      have h1 := least_le (x :: l) x List.mem_cons_self
      have h2 := (h x List.mem_cons_self).2
      have : least (x :: l) = x := by
        have e' : least (x :: l) = 1152921504606846976 := e
        omega
      rw [this]; exact List.mem_cons_self
  · exact e
theorem least_dearer (l : List Int) (q : Int) (hq : IsCost q) (h : ∀ x ∈ l, IsCost x) : least (dearer l q) = plus (least l) q := by
  have key : ∀ (l : List Int) (m : Int), IsCost m → (∀ x ∈ l, IsCost x) → (dearer l q).foldl (fun m n => if n < m then n else m) (plus m q) = plus (l.foldl (fun m n => if n < m then n else m) m) q := by
    intro l
    induction l with
    | nil => intro m _ _; rfl
    | cons x l ih =>
      intro m hm hl
      have hx := hl x List.mem_cons_self
      show (dearer l q).foldl _ (if plus x q < plus m q then plus x q else plus m q) = _
      simp only [List.foldl_cons]
      have e : (if plus x q < plus m q then plus x q else plus m q) = plus (if x < m then x else m) q := by
        unfold plus IsCost at *
        (repeat' split) <;> omega
      rw [e]
      exact ih _ (by split <;> assumption) (fun y hy => hl y (List.mem_cons_of_mem _ hy))
  have := key l 1152921504606846976 ⟨by omega, by omega⟩ h
  rw [plus_inf q hq] at this
  exact this
theorem costs_cost (z : List Int) (k : Nat) : ∀ x ∈ costs z k, IsCost x := by
  intro x hx
  unfold costs at hx
  obtain ⟨y, _, rfl⟩ := List.mem_map.1 hx
  exact cost_is y
theorem dearer_snoc (l : List Int) (q x : Int) : dearer (l ++ [x]) q = dearer l q ++ [plus x q] := by simp [dearer]

theorem own_form {w : World} {base n : Nat} {v : Value} {l : List Int} (h : w.ownsRow base 3 1 v n (l.map (Value.int .i64))) :
    l.length = n ∧ ∃ a cap, v = .slice a n cap ∧ ∀ i, i < n → ∃ g, a = some ⟨g, 0, none⟩ ∧ ∀ j, j < n → w.cell? ⟨g, j, none⟩ = some (.int .i64 (l.getD j 0)) := by
  obtain ⟨hl, ⟨rfl, rfl⟩ | ⟨g, cap, rfl, hc⟩⟩ := own_cells h
  · simp only [List.length_nil] at hl
    subst hl
    exact ⟨rfl, none, 0, rfl, fun i hi => by omega⟩
  · exact ⟨hl, _, cap, rfl, fun i hi => ⟨g, rfl, fun j hj => by have := hc j hj; rwa [Nat.zero_add] at this⟩⟩

/-- Has the law text met the least among the first j? -/
def seen (l : List Int) (n : Int) (j : Nat) : Bool := decide (l = []) || (l.take j).any (fun x => x == n)
theorem seen_succ (l : List Int) (n : Int) (j : Nat) (h : j < l.length) : seen l n (j + 1) = (seen l n j || (l.getD j 0 == n)) := by
  unfold seen
  rw [take_snoc l j h, List.any_append]
  simp [Bool.or_assoc]
theorem seen_end (l : List Int) (h : ∀ x ∈ l, IsCost x) : seen l (least l) l.length = true := by
  unfold seen
  by_cases hl : l = []
  · simp [hl]
  · have := least_mem l hl h
    simp only [List.take_length, Bool.or_eq_true, List.any_eq_true]
    exact .inr ⟨_, this, by simp⟩

end Go.Proofs.YtcdenblejfmkaaaDoor
