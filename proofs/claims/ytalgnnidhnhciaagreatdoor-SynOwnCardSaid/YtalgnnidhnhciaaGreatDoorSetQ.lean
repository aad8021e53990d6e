/- Plain mathematics of norming a row of ranges: sorting by insertion, joining what touches. -/
import Derived.Test.YtalgnnidhnhciaaGreatDoorSetP
namespace Go.Proofs.YtalgnnidhnhciaaGreatDoor

/-- Each range has numbers, all from 0 to the last one. -/
def Full (l : List (Int × Int)) : Prop := ∀ r ∈ l, 0 ≤ r.1 ∧ r.1 ≤ r.2 ∧ r.2 ≤ 1114111
/-- By their beginnings. -/
def ByLo (l : List (Int × Int)) : Prop := l.Pairwise fun x y => x.1 ≤ y.1
theorem Full.nil : Full [] := fun r h => by cases h
theorem ByLo.nil : ByLo [] := List.Pairwise.nil
theorem Rt.full {l : List (Int × Int)} (h : Rt l) : Full l := fun r hr => RtFrom.mem h r hr
/-- A range, put where it belongs. -/
theorem put_in {l : List (Int × Int)} {x : Int × Int} (k : Nat) (hl : ByLo l) (hf : Full l) (hx : 0 ≤ x.1 ∧ x.1 ≤ x.2 ∧ x.2 ≤ 1114111) (h1 : ∀ r ∈ l.take k, r.1 ≤ x.1) (h2 : ∀ r ∈ l.drop k, x.1 ≤ r.1) :
    ByLo (l.take k ++ x :: l.drop k) ∧ Full (l.take k ++ x :: l.drop k) ∧ ∀ n, inS (l.take k ++ x :: l.drop k) n ↔ inS l n ∨ (x.1 ≤ n ∧ n ≤ x.2) := by
  have hp : ByLo (l.take k ++ l.drop k) := by rw [List.take_append_drop]; exact hl
  obtain ⟨p1, p2, p3⟩ := List.pairwise_append.1 hp
  refine ⟨List.pairwise_append.2 ⟨p1, List.Pairwise.cons h2 p2, fun a ha b hb => ?_⟩, fun r hr => ?_, fun n => ?_⟩
  · rcases List.mem_cons.1 hb with rfl | hb
    · exact h1 a ha
    · exact p3 a ha b hb
  · rcases List.mem_append.1 hr with hr | hr
    · exact hf r (List.mem_of_mem_take hr)
    · rcases List.mem_cons.1 hr with rfl | hr
      · exact hx
      · exact hf r (List.mem_of_mem_drop hr)
  · have hs : inS l n ↔ inS (l.take k) n ∨ inS (l.drop k) n := by rw [← inS_append, List.take_append_drop]
    rw [inS_append, inS_cons, hs]
    constructor
    · rintro (h | h | h)
      · exact .inl (.inl h)
      · exact .inr h
      · exact .inl (.inr h)
    · rintro ((h | h) | h)
      · exact .inl h
      · exact .inr (.inr h)
      · exact .inr (.inl h)

/-- What touches the last range is joined to it. -/
theorem join_last {l : List (Int × Int)} {a h c d : Int} (hl : Rt (l ++ [(a, h)])) (h1 : a ≤ c) (h2 : c ≤ h + 1) (h3 : c ≤ d) (h4 : d ≤ 1114111) :
    Rt (l ++ [(a, max h d)]) ∧ ∀ n, inS (l ++ [(a, max h d)]) n ↔ inS (l ++ [(a, h)]) n ∨ (c ≤ n ∧ n ≤ d) := by
  obtain ⟨p1, p2, p3, p4, p5⟩ := (Rt_snoc l a h).1 hl
  refine ⟨(Rt_snoc l a _).2 ⟨p1, p2, p3, by omega, by omega⟩, fun n => ?_⟩
  rw [inS_append, inS_append, inS_one, inS_one]
  constructor
  · rintro (g | g)
    · exact .inl (.inl g)
    · by_cases e : n ≤ h
      · exact .inl (.inr ⟨g.1, e⟩)
      · exact .inr ⟨by omega, by omega⟩
  · rintro ((g | g) | g)
    · exact .inl g
    · exact .inr ⟨g.1, by omega⟩
    · exact .inr ⟨by omega, by omega⟩
/-- What lies beyond is a range of its own. -/
theorem new_last {l : List (Int × Int)} {c d : Int} (hl : Rt l) (h0 : 0 ≤ c) (h1 : ∀ r ∈ l, r.2 + 2 ≤ c) (h3 : c ≤ d) (h4 : d ≤ 1114111) :
    Rt (l ++ [(c, d)]) ∧ ∀ n, inS (l ++ [(c, d)]) n ↔ inS l n ∨ (c ≤ n ∧ n ≤ d) :=
  ⟨(Rt_snoc l c d).2 ⟨hl, h0, h1, h3, h4⟩, fun n => by rw [inS_append, inS_one]⟩
/-- In a right row the last range's end is the greatest. -/
theorem last_most {l : List (Int × Int)} {a h : Int} (hl : Rt (l ++ [(a, h)])) : ∀ r ∈ l ++ [(a, h)], r.1 ≤ a ∧ r.2 ≤ h := by
  obtain ⟨p1, p2, p3, p4, p5⟩ := (Rt_snoc l a h).1 hl
  intro r hr
  rcases List.mem_append.1 hr with hr | hr
  · have h1 := p3 r hr
    have h2 := RtFrom.mem p1 r hr
    omega
  · obtain rfl : r = (a, h) := by simpa using hr
    exact ⟨Int.le_refl _, Int.le_refl _⟩

/-- The numbers of a row that was normed: what a row m bears, clipped. -/
def NormOf (m R : List (Int × Int)) : Prop := Rt R ∧ ∀ n, inS R n ↔ inS m n ∧ 0 ≤ n ∧ n ≤ 1114111
theorem NormOf.unique {m R R' : List (Int × Int)} (h : NormOf m R) (h' : NormOf m R') : R = R' :=
  canon h.1 h'.1 fun _ => by rw [h.2, h'.2]
theorem NormOf.self {R : List (Int × Int)} (h : Rt R) : NormOf R R := ⟨h, fun _ => ⟨fun hn => ⟨hn, h.num hn⟩, fun hn => hn.1⟩⟩
theorem NormOf.same {m R : List (Int × Int)} (h : NormOf m R) (hm : Rt m) : R = m := h.unique (NormOf.self hm)

end Go.Proofs.YtalgnnidhnhciaaGreatDoor
