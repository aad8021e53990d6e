/- Plain mathematics of sets of numbers as rows of ranges, of no program: right rows are known by their numbers alone; what is in none; how many numbers there are. Plain mathematics of norming a row of ranges: sorting by insertion, joining what touches. Plain mathematics: the normed row, the rows of what is in any, in both, in none, as functions of rows; the laws of sets. -/
import Derived.Lib.Hide
set_option linter.unusedVariables false
set_option linter.unusedSimpArgs false
namespace Go.Proofs.YtalgnnidhnhciaaGreatDoor
def inS (l : List (Int × Int)) (n : Int) : Prop := ∃ r ∈ l, r.1 <= n /\ n <= r.2
theorem inS_nil (n : Int) : ¬ inS [] n := by rintro ⟨r, h, _⟩; cases h
theorem inS_cons (r : Int × Int) (l : List (Int × Int)) (n : Int) : inS (r :: l) n ↔ (r.1 <= n /\ n <= r.2) \/ inS l n := by simp [inS]
theorem inS_append (l m : List (Int × Int)) (n : Int) : inS (l ++ m) n ↔ inS l n \/ inS m n := by
 unfold inS
 constructor
 ·rintro ⟨r, h, g⟩
  rcases List.mem_append.1 h with h | h
  ·exact .inl ⟨r, h, g⟩
  ·exact .inr ⟨r, h, g⟩
 ·rintro (⟨r, h, g⟩ | ⟨r, h, g⟩)
  ·exact ⟨r, List.mem_append.2 (.inl h), g⟩
  ·exact ⟨r, List.mem_append.2 (.inr h), g⟩
theorem inS_one (a b n : Int) : inS [(a, b)] n ↔ a <= n /\ n <= b := by simp [inS]
instance (l : List (Int × Int)) (n : Int) : Decidable (inS l n) := by unfold inS; infer_instance
def RtFrom : Int -> List (Int × Int) -> Prop
 | _, [] => True
 | lo, r :: l => lo <= r.1 /\ r.1 <= r.2 /\ r.2 <= 1114111 /\ RtFrom (r.2 + 2) l
def Rt (l : List (Int × Int)) : Prop := RtFrom 0 l
instance : (lo : Int) -> (l : List (Int × Int)) -> Decidable (RtFrom lo l)
 | _, [] => isTrue trivial
 | lo, r :: l =>
   have := instDecidableRtFrom (r.2 + 2) l
   by unfold RtFrom; infer_instance
instance (l : List (Int × Int)) : Decidable (Rt l) := by unfold Rt; infer_instance
theorem RtFrom.le {lo lo' : Int} {l : List (Int × Int)} (h : RtFrom lo l) (hl : lo' <= lo) : RtFrom lo' l := by
 cases l with
 | nil => trivial
 | cons r l => exact ⟨by have := h.1; omega, h.2⟩
theorem RtFrom.mem {l : List (Int × Int)} : ∀ {lo : Int}, RtFrom lo l -> ∀ r ∈ l, lo <= r.1 /\ r.1 <= r.2 /\ r.2 <= 1114111 := by
 induction l with
 | nil => intro lo _ r hr; cases hr
 | cons x l ih =>
   intro lo h r hr
   obtain ⟨h1, h2, h3, h4⟩ := h
   rcases List.mem_cons.1 hr with rfl | hr
   ·exact ⟨h1, h2, h3⟩
   ·have := ih h4 r hr
    exact ⟨by omega, this.2⟩
theorem RtFrom.num {lo n : Int} {l : List (Int × Int)} (h : RtFrom lo l) (hn : inS l n) : lo <= n /\ n <= 1114111 := by
 obtain ⟨r, hr, h1, h2⟩ := hn
 have := h.mem r hr
 omega
theorem Rt.num {n : Int} {l : List (Int × Int)} (h : Rt l) (hn : inS l n) : 0 <= n /\ n <= 1114111 := RtFrom.num h hn
theorem canon_from (l : List (Int × Int)) : ∀ (m : List (Int × Int)) (lo lo' : Int), RtFrom lo l -> RtFrom lo' m -> (∀ n, inS l n ↔ inS m n) -> l = m := by
 induction l with
 | nil =>
   intro m lo lo' _ hm he
   cases m with
   | nil => rfl
   | cons r m =>
     exact absurd ((he r.1).2 ((inS_cons r m _).2 (.inl ⟨Int.le_refl _, hm.2.1⟩))) (inS_nil _)
 | cons x l ih =>
   intro m lo lo' hl hm he
   cases m with
   | nil => exact absurd ((he x.1).1 ((inS_cons x l _).2 (.inl ⟨Int.le_refl _, hl.2.1⟩))) (inS_nil _)
   | cons y m =>
     obtain ⟨x1, x2⟩ := x
     obtain ⟨y1, y2⟩ := y
     obtain ⟨a1, a2, a3, a4⟩ := hl
     obtain ⟨b1, b2, b3, b4⟩ := hm
     simp only at a1 a2 a3 a4 b1 b2 b3 b4
     have e1 : x1 = y1 := by
      have p := (he x1).1 ((inS_cons _ l _).2 (.inl ⟨Int.le_refl _, a2⟩))
      have q := (he y1).2 ((inS_cons _ m _).2 (.inl ⟨Int.le_refl _, b2⟩))
      rw [inS_cons] at p q
      simp only at p q
      have p' : y1 <= x1 := by
       rcases p with p | p
       ·exact p.1
       ·have := b4.num p; omega
      have q' : x1 <= y1 := by
       rcases q with q | q
       ·exact q.1
       ·have := a4.num q; omega
      omega
     have e2 : x2 = y2 := by
      rcases Int.lt_trichotomy x2 y2 with h | h | h
      ·have p := (he (x2 + 1)).2 ((inS_cons _ m _).2 (.inl ⟨by simp only; omega, by simp only; omega⟩))
       rw [inS_cons] at p
       simp only at p
       rcases p with p | p
       ·omega
       ·have := a4.num p; omega
      ·exact h
      ·have p := (he (y2 + 1)).1 ((inS_cons _ l _).2 (.inl ⟨by simp only; omega, by simp only; omega⟩))
       rw [inS_cons] at p
       simp only at p
       rcases p with p | p
       ·omega
       ·have := b4.num p; omega
     subst e1 e2
     congr 1
     refine ih m _ _ a4 b4 fun n => ?_
     have hn := he n
     rw [inS_cons, inS_cons] at hn
     simp only at hn
     constructor
     ·intro h
      have h1 := a4.num h
      rcases hn.1 (.inr h) with h2 | h2
      ·omega
      ·exact h2
     ·intro h
      have h1 := b4.num h
      rcases hn.2 (.inr h) with h2 | h2
      ·omega
      ·exact h2
theorem canon {l m : List (Int × Int)} (hl : Rt l) (hm : Rt m) (he : ∀ n, inS l n ↔ inS m n) : l = m := canon_from l m 0 0 hl hm he
theorem RtFrom_snoc (l : List (Int × Int)) (a b : Int) : ∀ lo, RtFrom lo (l ++ [(a, b)]) ↔ RtFrom lo l /\ lo <= a /\ (∀ r ∈ l, r.2 + 2 <= a) /\ a <= b /\ b <= 1114111 := by
 induction l with
 | nil => intro lo; simp [RtFrom]
 | cons x l ih =>
   intro lo
   rw [List.cons_append]
   simp only [RtFrom]
   rw [ih]
   constructor
   ·rintro ⟨h1, h2, h3, h4, h5, h6, h7, h8⟩
    refine ⟨⟨h1, h2, h3, h4⟩, by omega, fun r hr => ?_, h7, h8⟩
    rcases List.mem_cons.1 hr with rfl | hr
    ·exact h5
    ·exact h6 r hr
   ·rintro ⟨⟨h1, h2, h3, h4⟩, h5, h6, h7, h8⟩
    exact ⟨h1, h2, h3, h4, h6 x List.mem_cons_self, fun r hr => h6 r (List.mem_cons_of_mem _ hr), h7, h8⟩
theorem Rt_snoc (l : List (Int × Int)) (a b : Int) : Rt (l ++ [(a, b)]) ↔ Rt l /\ 0 <= a /\ (∀ r ∈ l, r.2 + 2 <= a) /\ a <= b /\ b <= 1114111 := RtFrom_snoc l a b 0
def gaps : Int -> List (Int × Int) -> List (Int × Int)
 | at_, [] => if at_ <= 1114111 then [(at_, 1114111)] else []
 | at_, r :: l => if at_ < r.1 then (at_, r.1 - 1) :: gaps (r.2 + 1) l else gaps (r.2 + 1) l
theorem gaps_right (l : List (Int × Int)) : ∀ (lo at_ : Int), RtFrom lo l -> at_ <= lo -> RtFrom at_ (gaps at_ l) := by
 induction l with
 | nil =>
   intro lo at_ _ _
   unfold gaps
   split
   ·exact ⟨Int.le_refl _, by simp only; omega, by simp only; omega, trivial⟩
   ·trivial
 | cons r l ih =>
   intro lo at_ h hle
   obtain ⟨h1, h2, h3, h4⟩ := h
   have := ih (r.2 + 2) (r.2 + 1) h4 (by omega)
   unfold gaps
   split
   ·exact ⟨Int.le_refl _, by simp only; omega, by simp only; omega, this.le (by simp only; omega)⟩
   ·exact this.le (by omega)
theorem gaps_num (l : List (Int × Int)) : ∀ (lo at_ : Int), RtFrom lo l -> at_ <= lo -> ∀ n, inS (gaps at_ l) n ↔ at_ <= n /\ n <= 1114111 /\ ¬ inS l n := by
 induction l with
 | nil =>
   intro lo at_ _ _ n
   unfold gaps
   split
   ·rw [inS_one]
    exact ⟨fun h => ⟨h.1, h.2, inS_nil n⟩, fun h => ⟨h.1, h.2.1⟩⟩
   ·exact ⟨fun h => absurd h (inS_nil n), fun h => by omega⟩
 | cons r l ih =>
   intro lo at_ h hle n
   obtain ⟨h1, h2, h3, h4⟩ := h
   have hi := ih (r.2 + 2) (r.2 + 1) h4 (by omega) n
   have hnum : inS l n -> r.2 + 2 <= n := fun hn => (h4.num hn).1
   unfold gaps
   rw [inS_cons]
   split
   ·rw [inS_cons, hi]
    simp only
    constructor
    ·rintro (⟨p, q⟩ | ⟨p, q, s⟩)
     ·exact ⟨p, by omega, fun hh => by
       rcases hh with hh | hh
       ·omega
       ·have := hnum hh; omega⟩
     ·exact ⟨by omega, q, fun hh => by
       rcases hh with hh | hh
       ·omega
       ·exact s hh⟩
    ·rintro ⟨p, q, s⟩
     by_cases hn : n < r.1
     ·exact .inl ⟨p, by omega⟩
     ·right
      exact ⟨by
       rcases Int.lt_or_le n (r.2 + 1) with g | g
       ·exact absurd (Or.inl ⟨by omega, by omega⟩) s
       ·exact g, q, fun hh => s (.inr hh)⟩
   ·rw [hi]
    constructor
    ·rintro ⟨p, q, s⟩
     exact ⟨by omega, q, fun hh => by
      rcases hh with hh | hh
      ·omega
      ·exact s hh⟩
    ·rintro ⟨p, q, s⟩
     exact ⟨by
      rcases Int.lt_or_le n (r.2 + 1) with g | g
      ·exact absurd (Or.inl ⟨by omega, by omega⟩) s
      ·exact g, q, fun hh => s (.inr hh)⟩
end Go.Proofs.YtalgnnidhnhciaaGreatDoor

namespace Go.Proofs.YtalgnnidhnhciaaGreatDoor
def Full (l : List (Int × Int)) : Prop := ∀ r ∈ l, 0 <= r.1 /\ r.1 <= r.2 /\ r.2 <= 1114111
def ByLo (l : List (Int × Int)) : Prop := l.Pairwise fun x y => x.1 <= y.1
theorem Full.nil : Full [] := fun r h => by cases h
theorem ByLo.nil : ByLo [] := List.Pairwise.nil
theorem Rt.full {l : List (Int × Int)} (h : Rt l) : Full l := fun r hr => RtFrom.mem h r hr
theorem put_in {l : List (Int × Int)} {x : Int × Int} (k : Nat) (hl : ByLo l) (hf : Full l) (hx : 0 <= x.1 /\ x.1 <= x.2 /\ x.2 <= 1114111) (h1 : ∀ r ∈ l.take k, r.1 <= x.1) (h2 : ∀ r ∈ l.drop k, x.1 <= r.1) :
  ByLo (l.take k ++ x :: l.drop k) /\ Full (l.take k ++ x :: l.drop k) /\ ∀ n, inS (l.take k ++ x :: l.drop k) n ↔ inS l n \/ (x.1 <= n /\ n <= x.2) := by
  have hp : ByLo (l.take k ++ l.drop k) := by rw [List.take_append_drop]; exact hl
  obtain ⟨p1, p2, p3⟩ := List.pairwise_append.1 hp
  refine ⟨List.pairwise_append.2 ⟨p1, List.Pairwise.cons h2 p2, fun a ha b hb => ?_⟩, fun r hr => ?_, fun n => ?_⟩
  ·rcases List.mem_cons.1 hb with rfl | hb
   ·exact h1 a ha
   ·exact p3 a ha b hb
  ·rcases List.mem_append.1 hr with hr | hr
   ·exact hf r (List.mem_of_mem_take hr)
   ·rcases List.mem_cons.1 hr with rfl | hr
    ·exact hx
    ·exact hf r (List.mem_of_mem_drop hr)
  ·have hs : inS l n ↔ inS (l.take k) n \/ inS (l.drop k) n := by rw [<- inS_append, List.take_append_drop]
   rw [inS_append, inS_cons, hs]
   constructor
   ·rintro (h | h | h)
    ·exact .inl (.inl h)
    ·exact .inr h
    ·exact .inl (.inr h)
   ·rintro ((h | h) | h)
    ·exact .inl h
    ·exact .inr (.inr h)
    ·exact .inr (.inl h)
theorem join_last {l : List (Int × Int)} {a h c d : Int} (hl : Rt (l ++ [(a, h)])) (h1 : a <= c) (h2 : c <= h + 1) (h3 : c <= d) (h4 : d <= 1114111) :
  Rt (l ++ [(a, max h d)]) /\ ∀ n, inS (l ++ [(a, max h d)]) n ↔ inS (l ++ [(a, h)]) n \/ (c <= n /\ n <= d) := by
  obtain ⟨p1, p2, p3, p4, p5⟩ := (Rt_snoc l a h).1 hl
  refine ⟨(Rt_snoc l a _).2 ⟨p1, p2, p3, by omega, by omega⟩, fun n => ?_⟩
  rw [inS_append, inS_append, inS_one, inS_one]
  constructor
  ·rintro (g | g)
   ·exact .inl (.inl g)
   ·by_cases e : n <= h
    ·exact .inl (.inr ⟨g.1, e⟩)
    ·exact .inr ⟨by omega, by omega⟩
  ·rintro ((g | g) | g)
   ·exact .inl g
   ·exact .inr ⟨g.1, by omega⟩
   ·exact .inr ⟨by omega, by omega⟩
theorem new_last {l : List (Int × Int)} {c d : Int} (hl : Rt l) (h0 : 0 <= c) (h1 : ∀ r ∈ l, r.2 + 2 <= c) (h3 : c <= d) (h4 : d <= 1114111) :
  Rt (l ++ [(c, d)]) /\ ∀ n, inS (l ++ [(c, d)]) n ↔ inS l n \/ (c <= n /\ n <= d) :=
  ⟨(Rt_snoc l c d).2 ⟨hl, h0, h1, h3, h4⟩, fun n => by rw [inS_append, inS_one]⟩
def NormOf (m R : List (Int × Int)) : Prop := Rt R /\ ∀ n, inS R n ↔ inS m n /\ 0 <= n /\ n <= 1114111
theorem NormOf.unique {m R R' : List (Int × Int)} (h : NormOf m R) (h' : NormOf m R') : R = R' :=
 canon h.1 h'.1 fun _ => by rw [h.2, h'.2]
theorem NormOf.self {R : List (Int × Int)} (h : Rt R) : NormOf R R := ⟨h, fun _ => ⟨fun hn => ⟨hn, h.num hn⟩, fun hn => hn.1⟩⟩
theorem NormOf.same {m R : List (Int × Int)} (h : NormOf m R) (hm : Rt m) : R = m := h.unique (NormOf.self hm)
end Go.Proofs.YtalgnnidhnhciaaGreatDoor

namespace Go.Proofs.YtalgnnidhnhciaaGreatDoor
def addR : Int × Int -> List (Int × Int) -> List (Int × Int)
 | x, [] => [x]
 | x, y :: l => if x.2 + 1 < y.1 then x :: y :: l else if y.2 + 1 < x.1 then y :: addR x l else addR (min x.1 y.1, max x.2 y.2) l
theorem addR_right (l : List (Int × Int)) : ∀ (lo : Int) (x : Int × Int), RtFrom lo l -> lo <= x.1 -> x.1 <= x.2 -> x.2 <= 1114111 ->
  RtFrom lo (addR x l) /\ ∀ n, inS (addR x l) n ↔ inS l n \/ (x.1 <= n /\ n <= x.2) := by
  induction l with
  | nil =>
    intro lo x _ h1 h2 h3
    unfold addR
    exact ⟨⟨h1, h2, h3, trivial⟩, fun n => by rw [inS_cons]; exact or_comm⟩
  | cons y l ih =>
    intro lo x h h1 h2 h3
    obtain ⟨a1, a2, a3, a4⟩ := h
    unfold addR
    split
    ·rename_i hc
     exact ⟨⟨h1, h2, h3, by omega, a2, a3, a4⟩, fun n => by rw [inS_cons]; exact or_comm⟩
    ·split
     ·rename_i hc hd
      obtain ⟨p, q⟩ := ih (y.2 + 2) x a4 (by omega) h2 h3
      exact ⟨⟨a1, a2, a3, p⟩, fun n => by rw [inS_cons, inS_cons, q]; exact or_assoc.symm⟩
     ·rename_i hc hd
      have a4' : RtFrom (min x.1 y.1) l := a4.le (by omega)
      obtain ⟨p, q⟩ := ih (min x.1 y.1) (min x.1 y.1, max x.2 y.2) a4' (Int.le_refl _) (by simp only; omega) (by simp only; omega)
      refine ⟨p.le (by omega), fun n => ?_⟩
      rw [q, inS_cons]
      simp only
      constructor
      ·rintro (g | g)
       ·exact .inl (.inr g)
       ·by_cases e : x.1 <= n /\ n <= x.2
        ·exact .inr e
        ·exact .inl (.inl (by omega))
      ·rintro ((g | g) | g)
       ·exact .inr (by omega)
       ·exact .inl g
       ·exact .inr (by omega)
def normL : List (Int × Int) -> List (Int × Int)
 | [] => []
 | r :: l => if max r.1 0 <= min r.2 1114111 then addR (max r.1 0, min r.2 1114111) (normL l) else normL l
theorem normL_is (l : List (Int × Int)) : NormOf l (normL l) := by
 induction l with
 | nil => exact ⟨trivial, fun n => ⟨fun h => absurd h (inS_nil n), fun h => absurd h.1 (inS_nil n)⟩⟩
 | cons r l ih =>
   obtain ⟨h1, h2⟩ := ih
   unfold normL
   split
   ·rename_i hc
    obtain ⟨p, q⟩ := addR_right (normL l) 0 (max r.1 0, min r.2 1114111) h1 (by simp only; omega) (by simp only; omega) (by simp only; omega)
    refine ⟨p, fun n => ?_⟩
    rw [q, h2, inS_cons]
    simp only
    constructor
    ·rintro (⟨g, g2⟩ | g)
     ·exact ⟨.inr g, g2⟩
     ·exact ⟨.inl (by omega), by omega⟩
    ·rintro ⟨g | g, g2⟩
     ·exact .inr (by omega)
     ·exact .inl ⟨g, g2⟩
   ·rename_i hc
    refine ⟨h1, fun n => ?_⟩
    rw [h2, inS_cons]
    constructor
    ·rintro ⟨g, g2⟩
     exact ⟨.inr g, g2⟩
    ·rintro ⟨g | g, g2⟩
     ·omega
     ·exact ⟨g, g2⟩
theorem normL_rt (l : List (Int × Int)) : Rt (normL l) := (normL_is l).1
theorem normL_in (l : List (Int × Int)) (n : Int) : inS (normL l) n ↔ inS l n /\ 0 <= n /\ n <= 1114111 := (normL_is l).2 n
theorem normL_eq {l R : List (Int × Int)} (h : NormOf l R) : R = normL l := h.unique (normL_is l)
def notL (a : List (Int × Int)) : List (Int × Int) := gaps 0 a
def orL (a b : List (Int × Int)) : List (Int × Int) := normL (a ++ b)
def andL (a b : List (Int × Int)) : List (Int × Int) := notL (orL (notL a) (notL b))
def lessL (a b : List (Int × Int)) : List (Int × Int) := andL a (notL b)
theorem notL_rt {a : List (Int × Int)} (h : Rt a) : Rt (notL a) := gaps_right a 0 0 h (Int.le_refl _)
theorem notL_in {a : List (Int × Int)} (h : Rt a) (n : Int) : inS (notL a) n ↔ 0 <= n /\ n <= 1114111 /\ ¬ inS a n := gaps_num a 0 0 h (Int.le_refl _) n
theorem orL_rt (a b : List (Int × Int)) : Rt (orL a b) := normL_rt _
theorem orL_in {a b : List (Int × Int)} (ha : Rt a) (hb : Rt b) (n : Int) : inS (orL a b) n ↔ inS a n \/ inS b n := by
 unfold orL
 rw [normL_in, inS_append]
 exact ⟨fun h => h.1, fun h => ⟨h, by rcases h with h | h; exact ha.num h; exact hb.num h⟩⟩
theorem andL_rt {a b : List (Int × Int)} : Rt (andL a b) := notL_rt (orL_rt _ _)
theorem andL_in {a b : List (Int × Int)} (ha : Rt a) (hb : Rt b) (n : Int) : inS (andL a b) n ↔ inS a n /\ inS b n := by
 unfold andL
 rw [notL_in (orL_rt _ _), orL_in (notL_rt ha) (notL_rt hb), notL_in ha, notL_in hb]
 constructor
 ·rintro ⟨h0, h1, h2⟩
  have h3 := Classical.not_not.1 (fun h => h2 (.inl ⟨h0, h1, h⟩))
  have h4 := Classical.not_not.1 (fun h => h2 (.inr ⟨h0, h1, h⟩))
  exact ⟨h3, h4⟩
 ·rintro ⟨h3, h4⟩
  have := ha.num h3
  exact ⟨this.1, this.2, fun h => by rcases h with h | h; exact h.2.2 h3; exact h.2.2 h4⟩
theorem lessL_rt {a b : List (Int × Int)} : Rt (lessL a b) := andL_rt
theorem RtFrom.short (l : List (Int × Int)) : ∀ lo : Int, RtFrom lo l -> lo <= 1114113 -> 2 * (l.length : Int) <= 1114113 - lo := by
 induction l with
 | nil => intro lo _ h; simp; omega
 | cons r l ih =>
   intro lo h h0
   obtain ⟨h1, h2, h3, h4⟩ := h
   have := ih (r.2 + 2) h4 (by omega)
   simp only [List.length_cons]
   omega
theorem Rt.short {l : List (Int × Int)} (h : Rt l) : l.length <= 557056 := by
 have := RtFrom.short l 0 h (by omega)
 omega
theorem Rt.at {l : List (Int × Int)} (h : Rt l) (i : Nat) (hi : i < l.length) : 0 <= (l[i]'hi).1 /\ (l[i]'hi).1 <= (l[i]'hi).2 /\ (l[i]'hi).2 <= 1114111 := RtFrom.mem h _ (List.getElem_mem hi)
def Wf2 (l : List (Int × Int)) : Prop := ∀ r ∈ l, (-9223372036854775808 <= r.1 /\ r.1 <= 9223372036854775807) /\ (-9223372036854775808 <= r.2 /\ r.2 <= 9223372036854775807)
theorem Rt.wf {l : List (Int × Int)} (h : Rt l) : Wf2 l := fun r hr => by have := RtFrom.mem h r hr; omega
theorem Wf2.append {l m : List (Int × Int)} (h : Wf2 l) (h' : Wf2 m) : Wf2 (l ++ m) := fun r hr => by
 rcases List.mem_append.1 hr with hr | hr
 ·exact h r hr
 ·exact h' r hr
end Go.Proofs.YtalgnnidhnhciaaGreatDoor
