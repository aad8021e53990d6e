/- Contract of set.join: ranges that touch are made one; a scope with two labels. -/
import Derived.Test.YthbnhdocjnhhlaaSetE
import Derived.Test.YthbnhdocjnhhlaaScope2
import Derived.BigRegion
namespace Go.Proofs.Ythbnhdocjnhhlaa
open Go Go.RowKit
set_option linter.unusedVariables false

/-- What touches is joined, from a range on. -/
def joinW : Int × Int → List (Int × Int) → List (Int × Int)
  | x, [] => [x]
  | x, r :: l => if r.1 ≤ x.2 + 1 then joinW (x.1, max x.2 r.2) l else x :: joinW r l
def joinF : List (Int × Int) → List (Int × Int)
  | [] => []
  | r :: l => joinW r l
theorem joinW_nil (x : Int × Int) : joinW x [] = [x] := rfl
theorem joinW_cons (a h c d : Int) (l : List (Int × Int)) : joinW (a, h) ((c, d) :: l) = if c ≤ h + 1 then joinW (a, max h d) l else (a, h) :: joinF ((c, d) :: l) := rfl
theorem joinF_cons (r : Int × Int) (l : List (Int × Int)) : joinF (r :: l) = joinW r l := rfl
theorem joinW_len (l : List (Int × Int)) : ∀ x, (joinW x l).length ≤ l.length + 1 := by
  induction l with
  | nil => intro x; simp [joinW]
  | cons r l ih =>
    intro x
    unfold joinW
    split
    · have := ih (x.1, max x.2 r.2); simp only [List.length_cons]; omega
    · have := ih r; simp only [List.length_cons]; omega
theorem joinF_len (l : List (Int × Int)) : (joinF l).length ≤ l.length := by
  cases l with
  | nil => simp [joinF]
  | cons r l => have := joinW_len l r; simp only [joinF, List.length_cons]; omega
theorem joinW_is (l : List (Int × Int)) : ∀ (lo : Int) (x : Int × Int), lo ≤ x.1 → x.1 ≤ x.2 → x.2 ≤ 1114111 → (∀ r ∈ l, x.1 ≤ r.1 ∧ r.1 ≤ r.2 ∧ r.2 ≤ 1114111) → ByLo l →
    RtFrom lo (joinW x l) ∧ ∀ n, inS (joinW x l) n ↔ (x.1 ≤ n ∧ n ≤ x.2) ∨ inS l n := by
  induction l with
  | nil =>
    intro lo x h1 h2 h3 _ _
    exact ⟨⟨h1, h2, h3, trivial⟩, fun n => by rw [joinW_nil, inS_cons]⟩
  | cons r l ih =>
    intro lo x h1 h2 h3 hf hb
    obtain ⟨f1, f2, f3⟩ := hf r List.mem_cons_self
    have hf' := fun q hq => hf q (List.mem_cons_of_mem _ hq)
    obtain ⟨b1, b2⟩ := List.pairwise_cons.1 hb
    unfold joinW
    split
    · rename_i hc
      obtain ⟨p, q⟩ := ih lo (x.1, max x.2 r.2) h1 (by simp only; omega) (by simp only; omega) hf' b2
      refine ⟨p, fun n => ?_⟩
      rw [q, inS_cons]
      simp only
      constructor
      · rintro (h | h)
        · by_cases e : n ≤ x.2
          · exact .inl ⟨h.1, e⟩
          · exact .inr (.inl (by omega))
        · exact .inr (.inr h)
      · rintro (h | h | h)
        · exact .inl (by omega)
        · exact .inl (by omega)
        · exact .inr h
    · rename_i hc
      obtain ⟨p, q⟩ := ih (x.2 + 2) r (by omega) f2 f3 (fun y hy => ⟨b1 y hy, (hf' y hy).2⟩) b2
      exact ⟨⟨h1, h2, h3, p⟩, fun n => by rw [inS_cons, q, inS_cons]⟩
/-- Each range has numbers, all from 0 to the last one; they are sorted: they are normed. -/
theorem joinF_norm {l : List (Int × Int)} (hf : Full l) (hb : ByLo l) : joinF l = normL l := by
  refine normL_eq ?_
  cases l with
  | nil => exact ⟨trivial, fun n => ⟨fun h => absurd h (inS_nil n), fun h => absurd h.1 (inS_nil n)⟩⟩
  | cons r l =>
    obtain ⟨f1, f2, f3⟩ := hf r List.mem_cons_self
    obtain ⟨b1, b2⟩ := List.pairwise_cons.1 hb
    obtain ⟨p, q⟩ := joinW_is l 0 r f1 f2 f3 (fun y hy => ⟨b1 y hy, (hf y (List.mem_cons_of_mem _ hy)).2⟩) b2
    refine ⟨p, fun n => ?_⟩
    rw [joinF_cons, q, inS_cons]
    constructor
    · intro h
      refine ⟨h, ?_⟩
      rcases h with h | ⟨y, hy, h⟩
      · omega
      · have := hf y (List.mem_cons_of_mem _ hy); omega
    · intro h; exact h.1

theorem OwnP.stored_other {w : World} {B g j m : Nat} {u : Value} {l : List (Int × Int)} (h : OwnP w B u m l) (hne : some g ≠ u.ownBlock) (x : Value) : OwnP (w.setCell ⟨g, j, none⟩ x) B u m l := by
  obtain ⟨h1, h2⟩ := h
  refine ⟨h1, ?_⟩
  rcases h2 with h2 | ⟨g', cap, cur, rfl, hg, hh, r⟩
  · exact .inl h2
  · refine .inr ⟨g', cap, cur, rfl, hg, ?_, r⟩
    rw [heap_setCell_other w ⟨g, j, none⟩ g' x (fun e => hne (by simp [Value.ownBlock, e]))]
    exact hh

theorem Full.tl {r : Int × Int} {l : List (Int × Int)} (h : Full (r :: l)) : Full l := fun q hq => h q (List.mem_cons_of_mem _ hq)
theorem ReadsP.zero {w : World} {a : Addr} {c : Nat} (h : c ≤ maxLen) : ReadsP w (.slice (some a) 0 c) 0 [] := ⟨rfl, some a, c, rfl, Nat.zero_le _, h, (fun e => by cases e), fun i hi => absurd hi (by omega)⟩
/-- What holds at label 0, of the slots 0 and 3. -/
def JA (w : World) (n : Nat) (l : List (Int × Int)) (s0 s3 : Value) (wr : World) : Prop :=
  ∃ (n' m' : Nat) (l' G : List (Int × Int)), m' + n' ≤ n ∧ ReadsP w s0 n' l' ∧ Full l' ∧ joinF l = G ++ joinF l' ∧ OwnP wr w.heap.size s3 m' G ∧ Below w.heap.size w wr
/-- .. at label 1, of the slots 0, 3 and 4. -/
def JB (w : World) (n : Nat) (l : List (Int × Int)) (s0 s3 s4 : Value) (wr : World) : Prop :=
  ∃ (n' m' p : Nat) (a h : Int) (x : Int × Int) (l' G : List (Int × Int)), m' + n' ≤ n ∧ ReadsP w s0 n' (x :: l') ∧ Full l' ∧ joinF l = G ++ joinW (a, h) l' ∧ OwnP wr w.heap.size s3 m' G ∧ Below w.heap.size w wr ∧
    s4 = .pointer (some ⟨p, 0, none⟩) ∧ wr.cell? ⟨p, 0, none⟩ = some (.int .i64 a) ∧ wr.cell? ⟨p, 1, none⟩ = some (.int .i64 h) ∧ wr.frozen? ⟨p, 1, none⟩ = false ∧ some p ≠ s3.ownBlock ∧ w.heap.size ≤ p ∧ 0 ≤ a ∧ 0 ≤ h ∧ h ≤ 1114111
def FA (w : World) (n : Nat) (l : List (Int × Int)) (a : Act) (wr : World) : Prop := ∃ (s0 s3 s4 u5 u6 u7 u8 u9 u10 u11 u12 u13 u14 u15 u16 u17 u18 u19 u20 u21 u22 u23 u24 u25 u26 u27 u28 u29 u30 u31 u32 u33 u34 u35 u36 u37 u38 : Value), a = { tmps := #[s0, undef, .slice none 0 0, s3, s4, u5, u6, u7, u8, u9, u10, u11, u12, u13, u14, u15, u16, u17, u18, u19, u20, u21, u22, u23, u24, u25, u26, u27, u28, u29, u30, u31, u32, u33, u34, u35, u36, u37, u38], defers := [] } ∧ JA w n l s0 s3 wr
def FB (w : World) (n : Nat) (l : List (Int × Int)) (a : Act) (wr : World) : Prop := ∃ (s0 s3 s4 u5 u6 u7 u8 u9 u10 u11 u12 u13 u14 u15 u16 u17 u18 u19 u20 u21 u22 u23 u24 u25 u26 u27 u28 u29 u30 u31 u32 u33 u34 u35 u36 u37 u38 : Value), a = { tmps := #[s0, undef, .slice none 0 0, s3, s4, u5, u6, u7, u8, u9, u10, u11, u12, u13, u14, u15, u16, u17, u18, u19, u20, u21, u22, u23, u24, u25, u26, u27, u28, u29, u30, u31, u32, u33, u34, u35, u36, u37, u38], defers := [] } ∧ JB w n l s0 s3 s4 wr
def muJ (a : Act) (_ : World) : Nat := lenV (a.tmps.getD 0 undef)

end Go.Proofs.Ythbnhdocjnhhlaa
