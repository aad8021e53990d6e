/- Reading rows of rows of truths. -/
import Derived.Test.YthbnhdocjnhhlaaPartM
namespace Go.Proofs.Ythbnhdocjnhhlaa
open Go Go.RowKit
set_option linter.unusedVariables false

/-- u reads as the truths l. -/
def ReadsB (w : World) (u : Value) (l : List Bool) : Prop :=
  ∃ a cap, u = .slice a l.length cap ∧ ∀ j, j < l.length → ∃ b off, a = some ⟨b, off, none⟩ ∧ w.cell? ⟨b, off + j, none⟩ = some (.bool (l.getD j false))
/-- v reads as the n rows R. -/
def ReadsBB (w : World) (v : Value) (n : Nat) (R : List (List Bool)) : Prop :=
  R.length = n ∧ ∃ a cap, v = .slice a n cap ∧ ∀ i, i < n → ∃ b off u, a = some ⟨b, off, none⟩ ∧ w.cell? ⟨b, off + i, none⟩ = some u ∧ ReadsB w u (R.getD i [])
section
variable {w w' : World} {v u : Value} {n : Nat} {R : List (List Bool)} {l : List Bool}
theorem ReadsB.same (h : ReadsB w u l) (hk : ∀ b o x, w.cell? ⟨b, o, none⟩ = some x → w'.cell? ⟨b, o, none⟩ = some x) : ReadsB w' u l := by
  obtain ⟨a, cap, e, hc⟩ := h
  refine ⟨a, cap, e, fun j hj => ?_⟩
  obtain ⟨b, off, e2, c⟩ := hc j hj
  exact ⟨b, off, e2, hk _ _ _ c⟩
theorem ReadsBB.same (h : ReadsBB w v n R) (hk : ∀ b o x, w.cell? ⟨b, o, none⟩ = some x → w'.cell? ⟨b, o, none⟩ = some x) : ReadsBB w' v n R := by
  obtain ⟨h1, a, cap, e, hc⟩ := h
  refine ⟨h1, a, cap, e, fun i hi => ?_⟩
  obtain ⟨b, off, u, e2, c, r⟩ := hc i hi
  exact ⟨b, off, u, e2, hk _ _ _ c, r.same hk⟩
theorem ReadsBB.below (h : ReadsBB w v n R) (hb : Below w.heap.size w w') : ReadsBB w' v n R :=
  h.same fun b o x hx => by rw [hb.cell (p := ⟨b, o, none⟩) (World.block_lt_of_cell? w _ hx)]; exact hx
theorem ReadsBB.at {a : Option Addr} {cap : Nat} (h : ReadsBB w (.slice a n cap) n R) (i : Nat) (hi : i < n) :
    ∃ b off a' cap', a = some ⟨b, off, none⟩ ∧ w.cell? ⟨b, off + i, none⟩ = some (.slice a' (R.getD i []).length cap') ∧ ReadsB w (.slice a' (R.getD i []).length cap') (R.getD i []) := by
  obtain ⟨h1, a2, cap2, e, hc⟩ := h
  simp only [Value.slice.injEq, true_and] at e
  obtain ⟨rfl, rfl⟩ := e
  obtain ⟨b, off, u, e2, c, r⟩ := hc i hi
  obtain ⟨a', cap', e3, hr⟩ := r
  subst e3
  exact ⟨b, off, a', cap', e2, c, a', cap', rfl, hr⟩
theorem ReadsB.at {a : Option Addr} {k cap : Nat} (h : ReadsB w (.slice a k cap) l) (j : Nat) (hj : j < l.length) : ∃ b off, a = some ⟨b, off, none⟩ ∧ w.cell? ⟨b, off + j, none⟩ = some (.bool (l.getD j false)) := by
  obtain ⟨a2, cap2, e, hc⟩ := h
  simp only [Value.slice.injEq] at e
  obtain ⟨rfl, _, rfl⟩ := e
  exact hc j hj
end
theorem ownB_reads {w : World} {B n : Nat} {u : Value} {l : List Bool} (h : w.ownsRow B 4 1 u n (l.map Value.bool)) : ReadsB w u l := by
  have h0 : OwnB w B u n l := h
  have hl := h0.len
  rcases h.2 with ⟨rfl, rfl⟩ | ⟨g, cap, cur, rfl, _⟩
  · exact ⟨none, 0, by rw [hl], fun j hj => by omega⟩
  · exact ⟨_, cap, by rw [hl], fun j hj => ⟨g, 0, rfl, by rw [Nat.zero_add]; exact h0.cellAt j (by omega)⟩⟩
theorem boolRows_at (R : List (List Bool)) (i : Nat) (hi : i < R.length) : (boolRows R).getD i (0, []) = ((R.getD i []).length, (R.getD i []).map Value.bool) := by
  simp [boolRows, List.getD, List.getElem?_eq_getElem hi]
theorem OwnLL.readsBB {w : World} {B n : Nat} {v : Value} {R : List (List Bool)} (h : OwnLL w B 32 4 1 v n (boolRows R)) : ReadsBB w v n R := by
  have hl : R.length = n := by have := OwnLL.len h; simpa [boolRows] using this
  refine ⟨hl, ?_⟩
  rcases OwnLL.form h with ⟨rfl, rfl, _⟩ | ⟨g, cap, rfl, _, _, h1, h2, hc⟩
  · exact ⟨none, 0, rfl, fun i hi => absurd hi (Nat.not_lt_zero i)⟩
  · refine ⟨_, cap, rfl, fun i hi => ?_⟩
    obtain ⟨u, c1, c2⟩ := hc i hi
    rw [boolRows_at R i (by omega)] at c2
    exact ⟨g, 0, u, rfl, c1, ownB_reads c2⟩
theorem inRows_at (ss : List (List (Int × Int))) (n i : Nat) (hi : i < n) : (inRows ss n).getD i [] = inRow ss i := by
  simp [inRows, List.getD, hi]
/-- Which letters each set has, read. -/
def InAt (w : World) (v : Value) (n : Nat) (ss : List (List (Int × Int))) : Prop := ReadsBB w v n (inRows ss n)
def SomeIn (w : World) (n : Nat) (ss : List (List (Int × Int))) (e : Ending) (w' : World) : Prop := ∃ a c, e = .returned (.slice a n c) ∧ ReadsBB w' (.slice a n c) n (inRows ss n) ∧ Below w.heap.size w w'
theorem some_in {w : World} {n : Nat} {ss : List (List (Int × Int))} {e : Ending} {w' : World} (h : TellsBB w (inRows ss n) e w') : SomeIn w n ss e w' := by
  obtain ⟨v, rfl, h1, h2⟩ := h
  have hl : (inRows ss n).length = n := by simp [inRows]
  rw [hl] at h1
  have hr := h1.readsBB
  obtain ⟨_, a, c, rfl, _⟩ := id hr
  exact ⟨a, c, rfl, hr, h2⟩
theorem in_x {w : World} {v u q : Value} {m k0 : Nat} {ss : List (List (Int × Int))} (hq : ReadsL w q k0 ss) (hss : RtAll ss) (h : ReadsI w v m (cutsL ss)) (h' : ReadsI w u m (letsL ss)) (hm : m ≤ 1000000000) (hk0 : k0 ≤ 13) :
    Calls Try.prog 18 #[q, v, u] w (SomeIn w k0 ss) := (in_any hq hss h h' hm hk0).mono fun _ _ h => some_in h
theorem rin_x {w : World} {v u q : Value} {m k0 : Nat} {ss : List (List (Int × Int))} (hq : ReadsL w q k0 ss) (h : ReadsI w v m (cutsL ss)) (h' : ReadsI w u m (letsL ss)) (hm : m ≤ 1000000000) (hk0 : k0 ≤ 13) :
    Calls Try.prog 19 #[q, v, u] w (SomeIn w k0 ss) := (rin_any hq h h' hm hk0).mono fun _ _ h => some_in h
theorem kinds_le {ss : List (List (Int × Int))} {m : Nat} (h : (cutsL ss).length = m) : (kindsL ss).length ≤ m := by
  have := firsts_len_le (keysL ss)
  have e : (keysL ss).length = m := by rw [← h]; simp [keysL]
  unfold kindsL; omega

end Go.Proofs.Ythbnhdocjnhhlaa
