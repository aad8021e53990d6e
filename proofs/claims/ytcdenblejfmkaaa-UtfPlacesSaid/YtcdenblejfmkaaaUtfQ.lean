/- Plain mathematics of whole rows of bytes, of no program: cut into scalars and offsets; what was encoded is decoded as it was; rows one behind the other. -/
import Derived.Test.YtcdenblejfmkaaaUtfP
namespace Go.Proofs.Ytcdenblejfmkaaa

/-- A row of bytes, cut into scalars, each with how many bytes it has (with fuel). -/
def toks : Nat → List UInt8 → List (Int × Nat)
  | 0, _ => []
  | f + 1, l => if l = [] then [] else nx l :: toks f (l.drop (nx l).2)
def dc (l : List UInt8) : List (Int × Nat) := toks l.length l

theorem toks_more : ∀ (f g : Nat) (l : List UInt8), l.length ≤ f → l.length ≤ g → toks f l = toks g l := by
  intro f
  induction f with
  | zero =>
    intro g l h _
    have : l = [] := List.eq_nil_of_length_eq_zero (by omega)
    subst this
    cases g <;> simp [toks]
  | succ f ih =>
    intro g l h h'
    by_cases hl : l = []
    · subst hl
      cases g <;> simp [toks]
    · have hp := List.length_pos_iff.2 hl
      obtain ⟨g, rfl⟩ : ∃ g', g = g' + 1 := ⟨g - 1, by omega⟩
      have hn := nx_le l hl
      simp only [toks, hl, if_false]
      rw [ih g (l.drop (nx l).2) (by rw [List.length_drop]; omega) (by rw [List.length_drop]; omega)]
theorem dc_nil : dc [] = [] := rfl
theorem dc_cons (l : List UInt8) (hl : l ≠ []) : dc l = nx l :: dc (l.drop (nx l).2) := by
  have hp := List.length_pos_iff.2 hl
  have hn := nx_le l hl
  unfold dc
  obtain ⟨m, hm⟩ : ∃ m, l.length = m + 1 := ⟨l.length - 1, by omega⟩
  rw [hm]
  simp only [toks, hl, if_false]
  rw [toks_more m _ _ (by rw [List.length_drop]; omega) (Nat.le_refl _)]

/-- The scalars of a row; where each begins, from k on. -/
def scs (l : List UInt8) : List Int := (dc l).map (·.1)
def offsOf : Nat → List (Int × Nat) → List Int
  | _, [] => []
  | k, t :: ts => (k : Int) :: offsOf (k + t.2) ts
def ofs (k : Nat) (l : List UInt8) : List Int := offsOf k (dc l)
theorem scs_nil : scs [] = [] := rfl
theorem ofs_nil (k : Nat) : ofs k [] = [] := rfl
theorem scs_cons (l : List UInt8) (hl : l ≠ []) : scs l = (nx l).1 :: scs (l.drop (nx l).2) := by unfold scs; rw [dc_cons l hl]; rfl
theorem ofs_cons (k : Nat) (l : List UInt8) (hl : l ≠ []) : ofs k l = (k : Int) :: ofs (k + (nx l).2) (l.drop (nx l).2) := by unfold ofs; rw [dc_cons l hl]; rfl
theorem offsOf_length (ts : List (Int × Nat)) : ∀ k, (offsOf k ts).length = ts.length := by
  induction ts with
  | nil => intro k; rfl
  | cons t ts ih => intro k; simp [offsOf, ih]
theorem ofs_length (k : Nat) (l : List UInt8) : (ofs k l).length = (scs l).length := by unfold ofs scs; rw [offsOf_length, List.length_map]
theorem scs_length_le (l : List UInt8) : (scs l).length ≤ l.length := by
  have key : ∀ (n : Nat) (l : List UInt8), l.length ≤ n → (scs l).length ≤ l.length := by
    intro n
    induction n with
    | zero =>
      intro l h
      have : l = [] := List.eq_nil_of_length_eq_zero (by omega)
      subst this; simp [scs_nil]
    | succ n ih =>
      intro l h
      by_cases hl : l = []
      · subst hl; simp [scs_nil]
      · have hn := nx_le l hl
        have := ih (l.drop (nx l).2) (by rw [List.length_drop]; omega)
        rw [scs_cons l hl, List.length_cons]
        rw [List.length_drop] at this
        omega
  exact key l.length l (Nat.le_refl _)

/-- A row of bytes at place p of a longer one: the next cut. -/
theorem drop_ne (l : List UInt8) (p : Nat) (h : p < l.length) : l.drop p ≠ [] := by
  intro e
  have := congrArg List.length e
  rw [List.length_drop] at this
  simp at this; omega
theorem scs_at (l : List UInt8) (p : Nat) (h : p < l.length) : scs (l.drop p) = (nx (l.drop p)).1 :: scs (l.drop (p + (nx (l.drop p)).2)) := by
  rw [scs_cons _ (drop_ne l p h), List.drop_drop]
theorem ofs_at (l : List UInt8) (p : Nat) (h : p < l.length) : ofs p (l.drop p) = (p : Int) :: ofs (p + (nx (l.drop p)).2) (l.drop (p + (nx (l.drop p)).2)) := by
  rw [ofs_cons _ _ (drop_ne l p h), List.drop_drop]
theorem nx_at (l : List UInt8) (p : Nat) (h : p < l.length) : 1 ≤ (nx (l.drop p)).2 ∧ (nx (l.drop p)).2 ≤ 4 ∧ p + (nx (l.drop p)).2 ≤ l.length := by
  have := nx_le _ (drop_ne l p h)
  rw [List.length_drop] at this
  omega

end Go.Proofs.Ytcdenblejfmkaaa
