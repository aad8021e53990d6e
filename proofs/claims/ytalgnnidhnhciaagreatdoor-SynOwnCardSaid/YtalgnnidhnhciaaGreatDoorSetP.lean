/- Plain mathematics of sets of numbers as rows of ranges, of no program: right rows are known by their numbers alone; what is in none; how many numbers there are. -/
import Derived.Lib.Hide
namespace Go.Proofs.YtalgnnidhnhciaaGreatDoor

/-- A row of ranges; the number n is in one of them. -/
def inS (l : List (Int × Int)) (n : Int) : Prop := ∃ r ∈ l, r.1 ≤ n ∧ n ≤ r.2
theorem inS_nil (n : Int) : ¬ inS [] n := by rintro ⟨r, h, _⟩; cases h
theorem inS_cons (r : Int × Int) (l : List (Int × Int)) (n : Int) : inS (r :: l) n ↔ (r.1 ≤ n ∧ n ≤ r.2) ∨ inS l n := by simp [inS]
theorem inS_append (l m : List (Int × Int)) (n : Int) : inS (l ++ m) n ↔ inS l n ∨ inS m n := by
  unfold inS
  constructor
  · rintro ⟨r, h, g⟩
    rcases List.mem_append.1 h with h | h
    · exact .inl ⟨r, h, g⟩
    · exact .inr ⟨r, h, g⟩
  · rintro (⟨r, h, g⟩ | ⟨r, h, g⟩)
    · exact ⟨r, List.mem_append.2 (.inl h), g⟩
    · exact ⟨r, List.mem_append.2 (.inr h), g⟩
theorem inS_one (a b n : Int) : inS [(a, b)] n ↔ a ≤ n ∧ n ≤ b := by simp [inS]
instance (l : List (Int × Int)) (n : Int) : Decidable (inS l n) := by unfold inS; infer_instance

/-- A right row, all of it from lo on. -/
def RtFrom : Int → List (Int × Int) → Prop
  | _, [] => True
  | lo, r :: l => lo ≤ r.1 ∧ r.1 ≤ r.2 ∧ r.2 ≤ 1114111 ∧ RtFrom (r.2 + 2) l
def Rt (l : List (Int × Int)) : Prop := RtFrom 0 l
instance : (lo : Int) → (l : List (Int × Int)) → Decidable (RtFrom lo l)
  | _, [] => isTrue trivial
  | lo, r :: l =>
    have := instDecidableRtFrom (r.2 + 2) l
    by unfold RtFrom; infer_instance
instance (l : List (Int × Int)) : Decidable (Rt l) := by unfold Rt; infer_instance

theorem RtFrom.le {lo lo' : Int} {l : List (Int × Int)} (h : RtFrom lo l) (hl : lo' ≤ lo) : RtFrom lo' l := by
  cases l with
  | nil => trivial
  | cons r l => exact ⟨by have := h.1; omega, h.2⟩
theorem RtFrom.mem {l : List (Int × Int)} : ∀ {lo : Int}, RtFrom lo l → ∀ r ∈ l, lo ≤ r.1 ∧ r.1 ≤ r.2 ∧ r.2 ≤ 1114111 := by
  induction l with
  | nil => intro lo _ r hr; cases hr
  | cons x l ih =>
    intro lo h r hr
    obtain ⟨h1, h2, h3, h4⟩ := h
    rcases List.mem_cons.1 hr with rfl | hr
    · exact ⟨h1, h2, h3⟩
    · have := ih h4 r hr
      exact ⟨by omega, this.2⟩
theorem RtFrom.num {lo n : Int} {l : List (Int × Int)} (h : RtFrom lo l) (hn : inS l n) : lo ≤ n ∧ n ≤ 1114111 := by
  obtain ⟨r, hr, h1, h2⟩ := hn
  have := h.mem r hr
  omega
theorem Rt.num {n : Int} {l : List (Int × Int)} (h : Rt l) (hn : inS l n) : 0 ≤ n ∧ n ≤ 1114111 := RtFrom.num h hn

/-- Right rows of the same numbers are the same. -/
theorem canon_from (l : List (Int × Int)) : ∀ (m : List (Int × Int)) (lo lo' : Int), RtFrom lo l → RtFrom lo' m → (∀ n, inS l n ↔ inS m n) → l = m := by
  induction l with
  | nil =>
    intro m lo lo' _ hm he
    cases m with
    | nil => rfl
    | cons r m =>
      exact absurd ((he r.1).2 ((inS_cons r m _).2 (.inl ⟨Int.le_refl _, hm.2.1⟩))) (inS_nil _)
  | cons x l ih =>
    intro m lo lo' hl hm he
    cases m with
    | nil => exact absurd ((he x.1).1 ((inS_cons x l _).2 (.inl ⟨Int.le_refl _, hl.2.1⟩))) (inS_nil _)
    | cons y m =>
      obtain ⟨x1, x2⟩ := x
      obtain ⟨y1, y2⟩ := y
      obtain ⟨a1, a2, a3, a4⟩ := hl
      obtain ⟨b1, b2, b3, b4⟩ := hm
      simp only at a1 a2 a3 a4 b1 b2 b3 b4
      have e1 : x1 = y1 := by
        have p := (he x1).1 ((inS_cons _ l _).2 (.inl ⟨Int.le_refl _, a2⟩))
        have q := (he y1).2 ((inS_cons _ m _).2 (.inl ⟨Int.le_refl _, b2⟩))
        rw [inS_cons] at p q
        simp only at p q
        have p' : y1 ≤ x1 := by
          rcases p with p | p
          · exact p.1
          · have := b4.num p; omega
        have q' : x1 ≤ y1 := by
          rcases q with q | q
          · exact q.1
          · have := a4.num q; omega
        omega
      have e2 : x2 = y2 := by
        rcases Int.lt_trichotomy x2 y2 with h | h | h
        · have p := (he (x2 + 1)).2 ((inS_cons _ m _).2 (.inl ⟨by simp only; omega, by simp only; omega⟩))
          rw [inS_cons] at p
          simp only at p
          rcases p with p | p
          · omega
          · have := a4.num p; omega
        · exact h
        · have p := (he (y2 + 1)).1 ((inS_cons _ l _).2 (.inl ⟨by simp only; omega, by simp only; omega⟩))
          rw [inS_cons] at p
          simp only at p
          rcases p with p | p
          · omega
          · have := b4.num p; omega
      subst e1 e2
      congr 1
      refine ih m _ _ a4 b4 fun n => ?_
      have hn := he n
      rw [inS_cons, inS_cons] at hn
      simp only at hn
      constructor
      · intro h
        have h1 := a4.num h
        rcases hn.1 (.inr h) with h2 | h2
        · omega
        · exact h2
      · intro h
        have h1 := b4.num h
        rcases hn.2 (.inr h) with h2 | h2
        · omega
        · exact h2
theorem canon {l m : List (Int × Int)} (hl : Rt l) (hm : Rt m) (he : ∀ n, inS l n ↔ inS m n) : l = m := canon_from l m 0 0 hl hm he

/-- A right row, and one range more behind it. -/
theorem RtFrom_snoc (l : List (Int × Int)) (a b : Int) : ∀ lo, RtFrom lo (l ++ [(a, b)]) ↔ RtFrom lo l ∧ lo ≤ a ∧ (∀ r ∈ l, r.2 + 2 ≤ a) ∧ a ≤ b ∧ b ≤ 1114111 := by
  induction l with
  | nil => intro lo; simp [RtFrom]
  | cons x l ih =>
    intro lo
    rw [List.cons_append]
    simp only [RtFrom]
    rw [ih]
    constructor
    · rintro ⟨h1, h2, h3, h4, h5, h6, h7, h8⟩
      refine ⟨⟨h1, h2, h3, h4⟩, by omega, fun r hr => ?_, h7, h8⟩
      rcases List.mem_cons.1 hr with rfl | hr
      · exact h5
      · exact h6 r hr
    · rintro ⟨⟨h1, h2, h3, h4⟩, h5, h6, h7, h8⟩
      exact ⟨h1, h2, h3, h4, h6 x List.mem_cons_self, fun r hr => h6 r (List.mem_cons_of_mem _ hr), h7, h8⟩
theorem Rt_snoc (l : List (Int × Int)) (a b : Int) : Rt (l ++ [(a, b)]) ↔ Rt l ∧ 0 ≤ a ∧ (∀ r ∈ l, r.2 + 2 ≤ a) ∧ a ≤ b ∧ b ≤ 1114111 := RtFrom_snoc l a b 0

/-- The ranges between those of a row, from at on up to the last number. -/
def gaps : Int → List (Int × Int) → List (Int × Int)
  | at_, [] => if at_ ≤ 1114111 then [(at_, 1114111)] else []
  | at_, r :: l => if at_ < r.1 then (at_, r.1 - 1) :: gaps (r.2 + 1) l else gaps (r.2 + 1) l
theorem gaps_right (l : List (Int × Int)) : ∀ (lo at_ : Int), RtFrom lo l → at_ ≤ lo → RtFrom at_ (gaps at_ l) := by
  induction l with
  | nil =>
    intro lo at_ _ _
    unfold gaps
    split
    · exact ⟨Int.le_refl _, by simp only; omega, by simp only; omega, trivial⟩
    · trivial
  | cons r l ih =>
    intro lo at_ h hle
    obtain ⟨h1, h2, h3, h4⟩ := h
    have := ih (r.2 + 2) (r.2 + 1) h4 (by omega)
    unfold gaps
    split
    · exact ⟨Int.le_refl _, by simp only; omega, by simp only; omega, this.le (by simp only; omega)⟩
    · exact this.le (by omega)
theorem gaps_num (l : List (Int × Int)) : ∀ (lo at_ : Int), RtFrom lo l → at_ ≤ lo → ∀ n, inS (gaps at_ l) n ↔ at_ ≤ n ∧ n ≤ 1114111 ∧ ¬ inS l n := by
  induction l with
  | nil =>
    intro lo at_ _ _ n
    unfold gaps
    split
    · rw [inS_one]
      exact ⟨fun h => ⟨h.1, h.2, inS_nil n⟩, fun h => ⟨h.1, h.2.1⟩⟩
    · exact ⟨fun h => absurd h (inS_nil n), fun h => by omega⟩
  | cons r l ih =>
    intro lo at_ h hle n
    obtain ⟨h1, h2, h3, h4⟩ := h
    have hi := ih (r.2 + 2) (r.2 + 1) h4 (by omega) n
    have hnum : inS l n → r.2 + 2 ≤ n := fun hn => (h4.num hn).1
    unfold gaps
    rw [inS_cons]
    split
    · rw [inS_cons, hi]
      simp only
      constructor
      · rintro (⟨p, q⟩ | ⟨p, q, s⟩)
        · exact ⟨p, by omega, fun hh => by
            rcases hh with hh | hh
            · omega
            · have := hnum hh; omega⟩
        · exact ⟨by omega, q, fun hh => by
            rcases hh with hh | hh
            · omega
            · exact s hh⟩
      · rintro ⟨p, q, s⟩
        by_cases hn : n < r.1
        · exact .inl ⟨p, by omega⟩
        · right
          exact ⟨by
            rcases Int.lt_or_le n (r.2 + 1) with g | g
            · exact absurd (Or.inl ⟨by omega, by omega⟩) s
            · exact g, q, fun hh => s (.inr hh)⟩
    · rw [hi]
      constructor
      · rintro ⟨p, q, s⟩
        exact ⟨by omega, q, fun hh => by
          rcases hh with hh | hh
          · omega
          · exact s hh⟩
      · rintro ⟨p, q, s⟩
        exact ⟨by
          rcases Int.lt_or_le n (r.2 + 1) with g | g
          · exact absurd (Or.inl ⟨by omega, by omega⟩) s
          · exact g, q, fun hh => s (.inr hh)⟩
end Go.Proofs.YtalgnnidhnhciaaGreatDoor
