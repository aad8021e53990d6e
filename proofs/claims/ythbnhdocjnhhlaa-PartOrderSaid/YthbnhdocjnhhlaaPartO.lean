/- Rows of sets, copied, stored into, put one behind the other. -/
import Derived.Test.YthbnhdocjnhhlaaPartM
namespace Go.Proofs.Ythbnhdocjnhhlaa
open Go Go.RowKit
set_option linter.unusedVariables false

/-- vals are slices that read as the sets ss. -/
def ValsOf (w : World) (vals : List Value) (ss : List (List (Int × Int))) : Prop :=
  vals.length = ss.length ∧ ∀ i, i < ss.length → ReadsP w (vals.getD i undef) (ss.getD i []).length (ss.getD i [])
/-- v is a row of the call's own that holds the n slices vals. -/
def OwnV (w : World) (B : Nat) (v : Value) (n : Nat) (vals : List Value) : Prop := w.ownsRow B 37 1 v n vals
theorem OwnSS.vals {w : World} {B n : Nat} {v : Value} {ss : List (List (Int × Int))} (h : OwnSS w B v n ss) : ∃ vals, OwnV w B v n vals ∧ ValsOf w vals ss ∧ ss.length = n := by
  have hl : ss.length = n := by have := OwnLL.len h; simpa [pairRows] using this
  obtain ⟨_, vals, h2, h3⟩ := h
  refine ⟨vals, h2, ⟨by have := h2.1; omega, fun i hi => ?_⟩, hl⟩
  have := (h3 i (by omega)).1
  rw [pairRows_at ss i hi] at this
  exact OwnP.reads this
theorem OwnV.len {w : World} {B n : Nat} {v : Value} {vals : List Value} (h : OwnV w B v n vals) : vals.length = n := by have := h.1; omega
theorem OwnV.reads {w : World} {B n : Nat} {v : Value} {vals : List Value} {ss : List (List (Int × Int))} (h : OwnV w B v n vals) (hv : ValsOf w vals ss) : ReadsL w v n ss := by
  have hl := h.len
  have hl2 := hv.1
  refine ⟨by omega, ?_⟩
  have h0 := h
  rcases h.2 with ⟨rfl, rfl⟩ | ⟨g, cap, cur, rfl, hg, hh, hnc, hcm, _⟩
  · exact ⟨none, 0, rfl, Nat.le_refl _, Nat.zero_le _, fun _ => rfl, fun i hi => absurd hi (Nat.not_lt_zero i)⟩
  · refine ⟨_, cap, rfl, hnc, hcm, fun e => (by cases e), fun i hi => ⟨g, 0, vals.getD i undef, rfl, ?_, hv.2 i (by omega)⟩⟩
    rw [Nat.zero_add, World.ownsRow.cellAt h0 i (by omega)]
    simp [List.getD, List.getElem?_eq_getElem (show i < vals.length by omega)]
theorem OwnV.below {w w' : World} {B C n : Nat} {v : Value} {vals : List Value} (h : OwnV w B v n vals) (hlt : ∀ k, v.ownBlock = some k → k < C) (hb : Below C w w') : OwnV w' B v n vals := ownsRow_below h hlt hb
theorem OwnV.below_top {w w' : World} {B n : Nat} {v : Value} {vals : List Value} (h : OwnV w B v n vals) (hb : Below w.heap.size w w') : OwnV w' B v n vals := h.below (fun k hk => (World.ownsRow.lt h k hk).2) hb
theorem OwnV.alloc {w : World} {B n : Nat} {v : Value} {vals : List Value} (h : OwnV w B v n vals) (o : Obj) : OwnV (w.alloc o) B v n vals := World.ownsRow.alloc h o
theorem OwnV.more {w : World} {B B' n : Nat} {v : Value} {vals : List Value} (h : OwnV w B v n vals) (hB : B' ≤ B) : OwnV w B' v n vals := World.ownsRow.mono h hB
theorem OwnV.slice {w : World} {B n : Nat} {v : Value} {vals : List Value} (h : OwnV w B v n vals) : ∃ a c, v = .slice a n c := by
  rcases h.2 with ⟨rfl, rfl⟩ | ⟨g, cap, cur, rfl, _⟩
  · exact ⟨none, 0, rfl⟩
  · exact ⟨_, _, rfl⟩
theorem ValsOf.below {w w' : World} {vals : List Value} {ss : List (List (Int × Int))} (h : ValsOf w vals ss) (hb : Below w.heap.size w w') : ValsOf w' vals ss := ⟨h.1, fun i hi => (h.2 i hi).below hb⟩
theorem ValsOf.one {w : World} {vals : List Value} {ss : List (List (Int × Int))} (h : ValsOf w vals ss) : ∀ u ∈ vals, u.oneCell' = true := by
  intro u hu
  obtain ⟨i, hi, rfl⟩ := List.getElem_of_mem hu
  have := h.2 i (by rw [← h.1]; exact hi)
  have e : vals.getD i undef = vals[i] := by simp [List.getD, List.getElem?_eq_getElem hi]
  rw [e] at this
  obtain ⟨a, cap, e2, _⟩ := this.form
  rw [e2]; rfl
theorem ValsOf.set {w : World} {vals : List Value} {ss : List (List (Int × Int))} (h : ValsOf w vals ss) (k : Nat) (hk : k < ss.length) {u : Value} {l : List (Int × Int)} (hu : ReadsP w u l.length l) : ValsOf w (vals.set k u) (ss.set k l) := by
  refine ⟨by rw [List.length_set, List.length_set]; exact h.1, fun i hi => ?_⟩
  rw [List.length_set] at hi
  have hi' : i < vals.length := by rw [h.1]; exact hi
  by_cases e : i = k
  · subst e
    have e1 : (vals.set i u).getD i undef = u := by simp [List.getD, hi']
    have e2 : (ss.set i l).getD i [] = l := by simp [List.getD, hk]
    rw [e1, e2]; exact hu
  · have e1 : (vals.set k u).getD i undef = vals.getD i undef := by simp [List.getD, Ne.symm e]
    have e2 : (ss.set k l).getD i [] = ss.getD i [] := by simp [List.getD, Ne.symm e]
    rw [e1, e2]; exact h.2 i hi
theorem ValsOf.append {w : World} {vals vals' : List Value} {ss ss' : List (List (Int × Int))} (h : ValsOf w vals ss) (h' : ValsOf w vals' ss') : ValsOf w (vals ++ vals') (ss ++ ss') := by
  have hl := h.1
  have hl' := h'.1
  refine ⟨by simp [hl, hl'], fun i hi => ?_⟩
  rw [List.length_append] at hi
  rcases Nat.lt_or_ge i ss.length with g | g
  · have e1 : (vals ++ vals').getD i undef = vals.getD i undef := by simp [List.getD, List.getElem?_append_left (show i < vals.length by omega)]
    have e2 : (ss ++ ss').getD i [] = ss.getD i [] := by simp [List.getD, List.getElem?_append_left g]
    rw [e1, e2]; exact h.2 i g
  · have e1 : (vals ++ vals').getD i undef = vals'.getD (i - ss.length) undef := by simp [List.getD, List.getElem?_append_right (show vals.length ≤ i by omega), hl]
    have e2 : (ss ++ ss').getD i [] = ss'.getD (i - ss.length) [] := by simp [List.getD, List.getElem?_append_right g]
    rw [e1, e2]; exact h'.2 _ (by omega)
theorem ValsOf.single {w : World} {u : Value} {l : List (Int × Int)} (hu : ReadsP w u l.length l) : ValsOf w [u] [l] :=
  ⟨rfl, fun i hi => by
    obtain rfl : i = 0 := by simpa using hi
    exact hu⟩
theorem OwnV.empty (w : World) : OwnV (w.alloc (.cells #[] 37)) w.heap.size (.slice (some ⟨w.heap.size, 0, none⟩) 0 0) 0 [] := by
  refine ⟨rfl, .inr ⟨w.heap.size, 0, #[], rfl, Nat.le_refl _, heap_alloc_new w _, ?_⟩⟩
  simp [maxLen]
theorem OwnV.one (w : World) (u : Value) : OwnV (w.alloc (.cells #[u] 37)) w.heap.size (.slice (some ⟨w.heap.size, 0, none⟩) 1 1) 1 [u] := by
  refine ⟨rfl, .inr ⟨w.heap.size, 1, #[u], rfl, Nat.le_refl _, heap_alloc_new w _, ?_⟩⟩
  simp [maxLen]

theorem run_concatV (ty : TypeId) {w : World} {B B' n m : Nat} {v u : Value} {xs ys : List Value} (hown : OwnV w B v n xs) (hu : OwnV w B' u m ys) (h1 : ∀ y ∈ ys, y.oneCell' = true) (hnm : n + m ≤ 1000000) (hB : B ≤ w.heap.size) :
    ∃ v' w', (Builtin.append_ #[24, 24] ty #[v, u]).run Try.prog w = .ok v' w' ∧ OwnV w' B v' (n + m) (xs ++ ys) ∧ Below B w w' ∧ w.grownBy w' v.ownBlock ∧ (v'.ownBlock = v.ownBlock ∨ v'.ownBlock = some w.heap.size) := by
  obtain ⟨i0, hi, hz0, hz1, hz2⟩ := info_parts info_ranges
  rcases hu.2 with ⟨rfl, rfl⟩ | ⟨g, cap, cur, rfl, hg, hh, hnc, hcm, _⟩
  · have hy : ys = [] := List.eq_nil_of_length_eq_zero (by have := hu.1; omega)
    subst hy
    exact ⟨v, w, run_append_owned_none w B 24 ty 37 i0 1 Try.underlying24 hi v n _ hown, by simpa using hown, Below.refl _ _, ⟨rfl, rfl, rfl, Nat.le_refl _, fun _ _ _ => rfl⟩, .inl rfl⟩
  · obtain ⟨v', w', hr, q2, q3, _, q5⟩ := run_append_own_at (P := Try.prog) w B 24 ty 37 i0 _ 1 24 Try.underlying24 hi hz0 hz1 hz2 rfl (by omega) v n _ hown
      ⟨g, 0, none⟩ m cap ys (by have := hu.1; omega) (World.ownsRow.cells hu rfl) h1 (by unfold maxLen; omega) (by omega) hB
    exact ⟨v', w', hr, q2, (Below.refl _ _).grown q3 hB (fun k hk => (World.ownsRow.lt hown k hk).1), q3, q5⟩
theorem wpList_concatV {w : World} {ops : Array Oper} {rest : List Oper} {o : Oper} {a : Act} {Q : Exit → Act → World → Prop} (hgd : o.guard = none) (s x : Operand)
    (ho : o.op = .call { callee := .builtin .append, args := #[s, x], argTypes := #[24, 24] })
    (B B' : Nat) (v : Value) (n : Nat) (xs : List Value) (hs : a.eval s = v) (hown : OwnV w B v n xs)
    (u : Value) (m : Nat) (ys : List Value) (hx : a.eval x = u) (hu : OwnV w B' u m ys) (h1 : ∀ y ∈ ys, y.oneCell' = true) (hnm : n + m ≤ 1000000) (hB : B ≤ w.heap.size)
    (h : ∀ v' w', OwnV w' B v' (n + m) (xs ++ ys) → Below B w w' → w.grownBy w' v.ownBlock → (v'.ownBlock = v.ownBlock ∨ v'.ownBlock = some w.heap.size) → wpList Try.prog ops Q rest (a.put o.dst v') w') : wpList Try.prog ops Q (o :: rest) a w := by
  obtain ⟨v', w', hr, h2, h3, h4, h5⟩ := run_concatV o.type hown hu h1 hnm hB
  refine wpList_plain hgd fun K hK => ?_
  unfold Oper.wp execOp
  simp only [ho, resolve, invoke, builtin, Sem.run_bind, Sem.run_pure, Result.andThen_ok, List.map_toArray, List.map_cons, List.map_nil, hs, hx, hr]
  exact hK _ _ (h v' w' h2 h3 h4 h5)

end Go.Proofs.Ythbnhdocjnhhlaa
