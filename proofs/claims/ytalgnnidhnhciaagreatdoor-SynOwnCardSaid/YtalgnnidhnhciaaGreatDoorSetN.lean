/- Plain mathematics: the normed row, the rows of what is in any, in both, in none, as functions of rows; the laws of sets. -/
import Derived.Test.YtalgnnidhnhciaaGreatDoorSetQ
namespace Go.Proofs.YtalgnnidhnhciaaGreatDoor

/-- A range more, laid into a right row. -/
def addR : Int × Int → List (Int × Int) → List (Int × Int)
  | x, [] => [x]
  | x, y :: l => if x.2 + 1 < y.1 then x :: y :: l else if y.2 + 1 < x.1 then y :: addR x l else addR (min x.1 y.1, max x.2 y.2) l
theorem addR_right (l : List (Int × Int)) : ∀ (lo : Int) (x : Int × Int), RtFrom lo l → lo ≤ x.1 → x.1 ≤ x.2 → x.2 ≤ 1114111 →
    RtFrom lo (addR x l) ∧ ∀ n, inS (addR x l) n ↔ inS l n ∨ (x.1 ≤ n ∧ n ≤ x.2) := by
  induction l with
  | nil =>
    intro lo x _ h1 h2 h3
    unfold addR
    exact ⟨⟨h1, h2, h3, trivial⟩, fun n => by rw [inS_cons]; exact or_comm⟩
  | cons y l ih =>
    intro lo x h h1 h2 h3
    obtain ⟨a1, a2, a3, a4⟩ := h
    unfold addR
    split
    · rename_i hc
      exact ⟨⟨h1, h2, h3, by omega, a2, a3, a4⟩, fun n => by rw [inS_cons]; exact or_comm⟩
    · split
      · rename_i hc hd
        obtain ⟨p, q⟩ := ih (y.2 + 2) x a4 (by omega) h2 h3
        exact ⟨⟨a1, a2, a3, p⟩, fun n => by rw [inS_cons, inS_cons, q]; exact or_assoc.symm⟩
      · rename_i hc hd
        have a4' : RtFrom (min x.1 y.1) l := a4.le (by omega)
        obtain ⟨p, q⟩ := ih (min x.1 y.1) (min x.1 y.1, max x.2 y.2) a4' (Int.le_refl _) (by simp only; omega) (by simp only; omega)
        refine ⟨p.le (by omega), fun n => ?_⟩
        rw [q, inS_cons]
        simp only
        constructor
        · rintro (g | g)
          · exact .inl (.inr g)
          · by_cases e : x.1 ≤ n ∧ n ≤ x.2
            · exact .inr e
            · exact .inl (.inl (by omega))
        · rintro ((g | g) | g)
          · exact .inr (by omega)
          · exact .inl g
          · exact .inr (by omega)

/-- The normed row. -/
def normL : List (Int × Int) → List (Int × Int)
  | [] => []
  | r :: l => if max r.1 0 ≤ min r.2 1114111 then addR (max r.1 0, min r.2 1114111) (normL l) else normL l
theorem normL_is (l : List (Int × Int)) : NormOf l (normL l) := by
  induction l with
  | nil => exact ⟨trivial, fun n => ⟨fun h => absurd h (inS_nil n), fun h => absurd h.1 (inS_nil n)⟩⟩
  | cons r l ih =>
    obtain ⟨h1, h2⟩ := ih
    unfold normL
    split
    · rename_i hc
      obtain ⟨p, q⟩ := addR_right (normL l) 0 (max r.1 0, min r.2 1114111) h1 (by simp only; omega) (by simp only; omega) (by simp only; omega)
      refine ⟨p, fun n => ?_⟩
      rw [q, h2, inS_cons]
      simp only
      constructor
      · rintro (⟨g, g2⟩ | g)
        · exact ⟨.inr g, g2⟩
        · exact ⟨.inl (by omega), by omega⟩
      · rintro ⟨g | g, g2⟩
        · exact .inr (by omega)
        · exact .inl ⟨g, g2⟩
    · rename_i hc
      refine ⟨h1, fun n => ?_⟩
      rw [h2, inS_cons]
      constructor
      · rintro ⟨g, g2⟩
        exact ⟨.inr g, g2⟩
      · rintro ⟨g | g, g2⟩
        · omega
        · exact ⟨g, g2⟩
theorem normL_rt (l : List (Int × Int)) : Rt (normL l) := (normL_is l).1
theorem normL_in (l : List (Int × Int)) (n : Int) : inS (normL l) n ↔ inS l n ∧ 0 ≤ n ∧ n ≤ 1114111 := (normL_is l).2 n
theorem normL_eq {l R : List (Int × Int)} (h : NormOf l R) : R = normL l := h.unique (normL_is l)
/-- In none; in both; in the one, not in the other; in any. -/
def notL (a : List (Int × Int)) : List (Int × Int) := gaps 0 a
def orL (a b : List (Int × Int)) : List (Int × Int) := normL (a ++ b)
def andL (a b : List (Int × Int)) : List (Int × Int) := notL (orL (notL a) (notL b))
def lessL (a b : List (Int × Int)) : List (Int × Int) := andL a (notL b)
theorem notL_rt {a : List (Int × Int)} (h : Rt a) : Rt (notL a) := gaps_right a 0 0 h (Int.le_refl _)
theorem notL_in {a : List (Int × Int)} (h : Rt a) (n : Int) : inS (notL a) n ↔ 0 ≤ n ∧ n ≤ 1114111 ∧ ¬ inS a n := gaps_num a 0 0 h (Int.le_refl _) n
theorem orL_rt (a b : List (Int × Int)) : Rt (orL a b) := normL_rt _
theorem orL_in {a b : List (Int × Int)} (ha : Rt a) (hb : Rt b) (n : Int) : inS (orL a b) n ↔ inS a n ∨ inS b n := by
  unfold orL
  rw [normL_in, inS_append]
  exact ⟨fun h => h.1, fun h => ⟨h, by rcases h with h | h; exact ha.num h; exact hb.num h⟩⟩
theorem andL_rt {a b : List (Int × Int)} : Rt (andL a b) := notL_rt (orL_rt _ _)
theorem andL_in {a b : List (Int × Int)} (ha : Rt a) (hb : Rt b) (n : Int) : inS (andL a b) n ↔ inS a n ∧ inS b n := by
  unfold andL
  rw [notL_in (orL_rt _ _), orL_in (notL_rt ha) (notL_rt hb), notL_in ha, notL_in hb]
  constructor
  · rintro ⟨h0, h1, h2⟩
    have h3 := Classical.not_not.1 (fun h => h2 (.inl ⟨h0, h1, h⟩))
    have h4 := Classical.not_not.1 (fun h => h2 (.inr ⟨h0, h1, h⟩))
    exact ⟨h3, h4⟩
  · rintro ⟨h3, h4⟩
    have := ha.num h3
    exact ⟨this.1, this.2, fun h => by rcases h with h | h; exact h.2.2 h3; exact h.2.2 h4⟩
theorem lessL_rt {a b : List (Int × Int)} : Rt (lessL a b) := andL_rt
/-- How many ranges a right row can have. -/
theorem RtFrom.short (l : List (Int × Int)) : ∀ lo : Int, RtFrom lo l → lo ≤ 1114113 → 2 * (l.length : Int) ≤ 1114113 - lo := by
  induction l with
  | nil => intro lo _ h; simp; omega
  | cons r l ih =>
    intro lo h h0
    obtain ⟨h1, h2, h3, h4⟩ := h
    have := ih (r.2 + 2) h4 (by omega)
    simp only [List.length_cons]
    omega
theorem Rt.short {l : List (Int × Int)} (h : Rt l) : l.length ≤ 557056 := by
  have := RtFrom.short l 0 h (by omega)
  omega
theorem Rt.at {l : List (Int × Int)} (h : Rt l) (i : Nat) (hi : i < l.length) : 0 ≤ (l[i]'hi).1 ∧ (l[i]'hi).1 ≤ (l[i]'hi).2 ∧ (l[i]'hi).2 ≤ 1114111 := RtFrom.mem h _ (List.getElem_mem hi)

/-- Each end fits an int. -/
def Wf2 (l : List (Int × Int)) : Prop := ∀ r ∈ l, (-9223372036854775808 ≤ r.1 ∧ r.1 ≤ 9223372036854775807) ∧ (-9223372036854775808 ≤ r.2 ∧ r.2 ≤ 9223372036854775807)
theorem Rt.wf {l : List (Int × Int)} (h : Rt l) : Wf2 l := fun r hr => by have := RtFrom.mem h r hr; omega
theorem Wf2.append {l m : List (Int × Int)} (h : Wf2 l) (h' : Wf2 m) : Wf2 (l ++ m) := fun r hr => by
  rcases List.mem_append.1 hr with hr | hr
  · exact h r hr
  · exact h' r hr

end Go.Proofs.YtalgnnidhnhciaaGreatDoor
