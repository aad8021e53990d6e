/- Tables in memory. -/
import Derived.Test.YtjkcglgkdclidaaVTableP
import Derived.Test.YtjkcglgkdclidaaVMiniLa
import Derived.Test.YtjkcglgkdclidaaVMiniFa
set_option linter.unusedVariables false
set_option linter.unusedSimpArgs false
namespace Go.Proofs.Ytjkcglgkdclidaa
open Go Go.RowKit Go.Proofs
def RowsI (w : World) (v : Value) (T : List (List Int)) : Prop :=
 ∃ a cap, v = .slice a T.length cap /\ T.length <= cap /\ cap <= maxLen /\ (a = none -> cap = 0) /\ ∀ i, i < T.length -> ∃ b off u, a = some ⟨b, off, none⟩ /\ w.cell? ⟨b, off + i, none⟩ = some u /\ ReadsI w u (T.getD i []).length (T.getD i [])
section
variable {w w' : World} {v : Value} {T : List (List Int)}
theorem RowsI.same (h : RowsI w v T) (hk : ∀ b o x, w.cell? ⟨b, o, none⟩ = some x -> w'.cell? ⟨b, o, none⟩ = some x) : RowsI w' v T := by
 obtain ⟨a, cap, h1, h2, h3, h4, h5⟩ := h
 refine ⟨a, cap, h1, h2, h3, h4, fun i hi => ?_⟩
 obtain ⟨b, off, u, e1, e2, e3⟩ := h5 i hi
 exact ⟨b, off, u, e1, hk _ _ _ e2, e3.same hk⟩
theorem RowsI.below (h : RowsI w v T) (hb : Below w.heap.size w w') : RowsI w' v T := h.same fun b o x hx => bel_m hb hx
theorem RowsI.form (h : RowsI w v T) : ∃ a cap, v = .slice a T.length cap /\ T.length <= cap /\ cap <= 9223372036854775807 := by
 obtain ⟨a, cap, h1, h2, h3, _⟩ := h
 exact ⟨a, cap, h1, h2, by unfold maxLen at h3; exact h3⟩
theorem RowsI.at_ {a : Option Addr} {n cap : Nat} (h : RowsI w (.slice a n cap) T) {i : Nat} (hi : i < T.length) : ∃ b off A m c, a = some ⟨b, off, none⟩ /\ m = (T.getD i []).length /\ w.cell? ⟨b, off + i, none⟩ = some (.slice A m c) /\ ReadsI w (.slice A m c) m (T.getD i []) /\ m <= c /\ c <= 9223372036854775807 := by
 obtain ⟨a', cap', h1, h2, h3, h4, h5⟩ := h
 obtain ⟨b, off, u, e1, e2, e3⟩ := h5 i hi
 obtain ⟨A, c, e4, l1, l2, -⟩ := e3.form
 subst e4
 simp only [Value.slice.injEq] at h1
 obtain ⟨rfl, -, rfl⟩ := h1
 exact ⟨b, off, A, _, c, e1, rfl, e2, e3, l1, l2⟩
theorem RowsI.nil (w : World) : RowsI w (.slice none 0 0) [] := ⟨none, 0, rfl, Nat.le_refl _, Nat.zero_le _, fun _ => rfl, fun i hi => by simp at hi⟩
theorem NextR.rowsI {N : List (List Nat)} (h : NextR w v N) : RowsI w v (N.map intsN) := by
 obtain ⟨a, cap, h1, h2, h3, h4, h5⟩ := h
 refine ⟨a, cap, by rw [List.length_map]; exact h1, by rw [List.length_map]; exact h2, h3, h4, fun i hi => ?_⟩
 rw [List.length_map] at hi
 obtain ⟨b, off, u, e1, e2, e3⟩ := h5 i hi
 refine ⟨b, off, u, e1, e2, ?_⟩
 have e : (N.map intsN).getD i [] = intsN (N.getD i []) := by simp [List.getD_eq_getElem?_getD, List.getElem?_eq_getElem hi]
 rw [e, show (intsN (N.getD i [])).length = (N.getD i []).length by simp [intsN]]
 exact e3
end
structure TabR (w : World) (vc vl vbn vbo vfn vfe : Value) (t : Tab) : Prop where
 c : ReadsI w vc t.cuts.length t.cuts
 l : ReadsI w vl t.letters.length t.letters
 bn : RowsI w vbn t.bn
 bo : ReadsI w vbo t.bo.length t.bo
 fn : RowsI w vfn t.fn
 fe : EmitR w vfe t.fe
def tabV (vc vl vbn vbo vfn vfe : Value) : Value := .agg #[vc, vl, vbn, vbo, vfn, vfe]
theorem TabR.below {w w' : World} {vc vl vbn vbo vfn vfe : Value} {t : Tab} (h : TabR w vc vl vbn vbo vfn vfe t) (hb : Below w.heap.size w w') : TabR w' vc vl vbn vbo vfn vfe t :=
 ⟨h.c.below hb, h.l.below hb, h.bn.below hb, h.bo.below hb, h.fn.below hb, h.fe.below hb⟩
end Go.Proofs.Ytjkcglgkdclidaa
