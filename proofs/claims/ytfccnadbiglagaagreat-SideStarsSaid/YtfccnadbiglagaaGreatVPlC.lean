/- Plain mathematics of sets of numbers as rows of ranges, of no program: right rows are known by their numbers alone; what is in none; how many numbers there are. Plain mathematics of norming a row of ranges: sorting by insertion, joining what touches. Plain mathematics: the normed row, the rows of what is in any, in both, in none, as functions of rows; the laws of sets. Plain mathematics of letters: where a key changes; letters numbered as they first come; what only hangs on which keys are the same. Plain mathematics of letters: the cuts of some right sets; sorting and compacting the edges; the letter of a number. Plain mathematics of letters: keys as numbers; counting letters; the rows of what is in; sets that part alike. -/
import Derived.Lib.Hide
import Derived.Lib.SlicesCompact
set_option linter.unusedVariables false
set_option linter.unusedSimpArgs false
namespace Go.Proofs.YtfccnadbiglagaaGreat
def inS (l : List (Int × Int)) (n : Int) : Prop := ∃ r ∈ l, r.1 <= n /\ n <= r.2
theorem inS_nil (n : Int) : ¬ inS [] n := by rintro ⟨r, h, _⟩; cases h
theorem inS_cons (r : Int × Int) (l : List (Int × Int)) (n : Int) : inS (r :: l) n ↔ (r.1 <= n /\ n <= r.2) \/ inS l n := by simp [inS]
theorem inS_append (l m : List (Int × Int)) (n : Int) : inS (l ++ m) n ↔ inS l n \/ inS m n := by
 unfold inS
 constructor
 ·rintro ⟨r, h, g⟩
  rcases List.mem_append.1 h with h | h
  ·exact .inl ⟨r, h, g⟩
  ·exact .inr ⟨r, h, g⟩
 ·rintro (⟨r, h, g⟩ | ⟨r, h, g⟩)
  ·exact ⟨r, List.mem_append.2 (.inl h), g⟩
  ·exact ⟨r, List.mem_append.2 (.inr h), g⟩
theorem inS_one (a b n : Int) : inS [(a, b)] n ↔ a <= n /\ n <= b := by simp [inS]
instance (l : List (Int × Int)) (n : Int) : Decidable (inS l n) := by unfold inS; infer_instance
def RtFrom : Int -> List (Int × Int) -> Prop
 | _, [] => True
 | lo, r :: l => lo <= r.1 /\ r.1 <= r.2 /\ r.2 <= 1114111 /\ RtFrom (r.2 + 2) l
def Rt (l : List (Int × Int)) : Prop := RtFrom 0 l
instance : (lo : Int) -> (l : List (Int × Int)) -> Decidable (RtFrom lo l)
 | _, [] => isTrue trivial
 | lo, r :: l =>
   have := instDecidableRtFrom (r.2 + 2) l
   by unfold RtFrom; infer_instance
instance (l : List (Int × Int)) : Decidable (Rt l) := by unfold Rt; infer_instance
theorem RtFrom.le {lo lo' : Int} {l : List (Int × Int)} (h : RtFrom lo l) (hl : lo' <= lo) : RtFrom lo' l := by
 cases l with
 | nil => trivial
 | cons r l => exact ⟨by have := h.1; omega, h.2⟩
theorem RtFrom.mem {l : List (Int × Int)} : ∀ {lo : Int}, RtFrom lo l -> ∀ r ∈ l, lo <= r.1 /\ r.1 <= r.2 /\ r.2 <= 1114111 := by
 induction l with
 | nil => intro lo _ r hr; cases hr
 | cons x l ih =>
   intro lo h r hr
   obtain ⟨h1, h2, h3, h4⟩ := h
   rcases List.mem_cons.1 hr with rfl | hr
   ·exact ⟨h1, h2, h3⟩
   ·have := ih h4 r hr
    exact ⟨by omega, this.2⟩
theorem RtFrom.num {lo n : Int} {l : List (Int × Int)} (h : RtFrom lo l) (hn : inS l n) : lo <= n /\ n <= 1114111 := by
 obtain ⟨r, hr, h1, h2⟩ := hn
 have := h.mem r hr
 omega
theorem Rt.num {n : Int} {l : List (Int × Int)} (h : Rt l) (hn : inS l n) : 0 <= n /\ n <= 1114111 := RtFrom.num h hn
theorem canon_from (l : List (Int × Int)) : ∀ (m : List (Int × Int)) (lo lo' : Int), RtFrom lo l -> RtFrom lo' m -> (∀ n, inS l n ↔ inS m n) -> l = m := by
 induction l with
 | nil =>
   intro m lo lo' _ hm he
   cases m with
   | nil => rfl
   | cons r m =>
     exact absurd ((he r.1).2 ((inS_cons r m _).2 (.inl ⟨Int.le_refl _, hm.2.1⟩))) (inS_nil _)
 | cons x l ih =>
   intro m lo lo' hl hm he
   cases m with
   | nil => exact absurd ((he x.1).1 ((inS_cons x l _).2 (.inl ⟨Int.le_refl _, hl.2.1⟩))) (inS_nil _)
   | cons y m =>
     obtain ⟨x1, x2⟩ := x
     obtain ⟨y1, y2⟩ := y
     obtain ⟨a1, a2, a3, a4⟩ := hl
     obtain ⟨b1, b2, b3, b4⟩ := hm
     simp only at a1 a2 a3 a4 b1 b2 b3 b4
     have e1 : x1 = y1 := by
      have p := (he x1).1 ((inS_cons _ l _).2 (.inl ⟨Int.le_refl _, a2⟩))
      have q := (he y1).2 ((inS_cons _ m _).2 (.inl ⟨Int.le_refl _, b2⟩))
      rw [inS_cons] at p q
      simp only at p q
      have p' : y1 <= x1 := by
       rcases p with p | p
       ·exact p.1
       ·have := b4.num p; omega
      have q' : x1 <= y1 := by
       rcases q with q | q
       ·exact q.1
       ·have := a4.num q; omega
      omega
     have e2 : x2 = y2 := by
      rcases Int.lt_trichotomy x2 y2 with h | h | h
      ·have p := (he (x2 + 1)).2 ((inS_cons _ m _).2 (.inl ⟨by simp only; omega, by simp only; omega⟩))
       rw [inS_cons] at p
       simp only at p
       rcases p with p | p
       ·omega
       ·have := a4.num p; omega
      ·exact h
      ·have p := (he (y2 + 1)).1 ((inS_cons _ l _).2 (.inl ⟨by simp only; omega, by simp only; omega⟩))
       rw [inS_cons] at p
       simp only at p
       rcases p with p | p
       ·omega
       ·have := b4.num p; omega
     subst e1 e2
     congr 1
     refine ih m _ _ a4 b4 fun n => ?_
     have hn := he n
     rw [inS_cons, inS_cons] at hn
     simp only at hn
     constructor
     ·intro h
      have h1 := a4.num h
      rcases hn.1 (.inr h) with h2 | h2
      ·omega
      ·exact h2
     ·intro h
      have h1 := b4.num h
      rcases hn.2 (.inr h) with h2 | h2
      ·omega
      ·exact h2
theorem canon {l m : List (Int × Int)} (hl : Rt l) (hm : Rt m) (he : ∀ n, inS l n ↔ inS m n) : l = m := canon_from l m 0 0 hl hm he
theorem RtFrom_snoc (l : List (Int × Int)) (a b : Int) : ∀ lo, RtFrom lo (l ++ [(a, b)]) ↔ RtFrom lo l /\ lo <= a /\ (∀ r ∈ l, r.2 + 2 <= a) /\ a <= b /\ b <= 1114111 := by
 induction l with
 | nil => intro lo; simp [RtFrom]
 | cons x l ih =>
   intro lo
   rw [List.cons_append]
   simp only [RtFrom]
   rw [ih]
   constructor
   ·rintro ⟨h1, h2, h3, h4, h5, h6, h7, h8⟩
    refine ⟨⟨h1, h2, h3, h4⟩, by omega, fun r hr => ?_, h7, h8⟩
    rcases List.mem_cons.1 hr with rfl | hr
    ·exact h5
    ·exact h6 r hr
   ·rintro ⟨⟨h1, h2, h3, h4⟩, h5, h6, h7, h8⟩
    exact ⟨h1, h2, h3, h4, h6 x List.mem_cons_self, fun r hr => h6 r (List.mem_cons_of_mem _ hr), h7, h8⟩
theorem Rt_snoc (l : List (Int × Int)) (a b : Int) : Rt (l ++ [(a, b)]) ↔ Rt l /\ 0 <= a /\ (∀ r ∈ l, r.2 + 2 <= a) /\ a <= b /\ b <= 1114111 := RtFrom_snoc l a b 0
def gaps : Int -> List (Int × Int) -> List (Int × Int)
 | at_, [] => if at_ <= 1114111 then [(at_, 1114111)] else []
 | at_, r :: l => if at_ < r.1 then (at_, r.1 - 1) :: gaps (r.2 + 1) l else gaps (r.2 + 1) l
theorem gaps_right (l : List (Int × Int)) : ∀ (lo at_ : Int), RtFrom lo l -> at_ <= lo -> RtFrom at_ (gaps at_ l) := by
 induction l with
 | nil =>
   intro lo at_ _ _
   unfold gaps
   split
   ·exact ⟨Int.le_refl _, by simp only; omega, by simp only; omega, trivial⟩
   ·trivial
 | cons r l ih =>
   intro lo at_ h hle
   obtain ⟨h1, h2, h3, h4⟩ := h
   have := ih (r.2 + 2) (r.2 + 1) h4 (by omega)
   unfold gaps
   split
   ·exact ⟨Int.le_refl _, by simp only; omega, by simp only; omega, this.le (by simp only; omega)⟩
   ·exact this.le (by omega)
theorem gaps_num (l : List (Int × Int)) : ∀ (lo at_ : Int), RtFrom lo l -> at_ <= lo -> ∀ n, inS (gaps at_ l) n ↔ at_ <= n /\ n <= 1114111 /\ ¬ inS l n := by
 induction l with
 | nil =>
   intro lo at_ _ _ n
   unfold gaps
   split
   ·rw [inS_one]
    exact ⟨fun h => ⟨h.1, h.2, inS_nil n⟩, fun h => ⟨h.1, h.2.1⟩⟩
   ·exact ⟨fun h => absurd h (inS_nil n), fun h => by omega⟩
 | cons r l ih =>
   intro lo at_ h hle n
   obtain ⟨h1, h2, h3, h4⟩ := h
   have hi := ih (r.2 + 2) (r.2 + 1) h4 (by omega) n
   have hnum : inS l n -> r.2 + 2 <= n := fun hn => (h4.num hn).1
   unfold gaps
   rw [inS_cons]
   split
   ·rw [inS_cons, hi]
    simp only
    constructor
    ·rintro (⟨p, q⟩ | ⟨p, q, s⟩)
     ·exact ⟨p, by omega, fun hh => by
       rcases hh with hh | hh
       ·omega
       ·have := hnum hh; omega⟩
     ·exact ⟨by omega, q, fun hh => by
       rcases hh with hh | hh
       ·omega
       ·exact s hh⟩
    ·rintro ⟨p, q, s⟩
     by_cases hn : n < r.1
     ·exact .inl ⟨p, by omega⟩
     ·right
      exact ⟨by
       rcases Int.lt_or_le n (r.2 + 1) with g | g
       ·exact absurd (Or.inl ⟨by omega, by omega⟩) s
       ·exact g, q, fun hh => s (.inr hh)⟩
   ·rw [hi]
    constructor
    ·rintro ⟨p, q, s⟩
     exact ⟨by omega, q, fun hh => by
      rcases hh with hh | hh
      ·omega
      ·exact s hh⟩
    ·rintro ⟨p, q, s⟩
     exact ⟨by
      rcases Int.lt_or_le n (r.2 + 1) with g | g
      ·exact absurd (Or.inl ⟨by omega, by omega⟩) s
      ·exact g, q, fun hh => s (.inr hh)⟩
end Go.Proofs.YtfccnadbiglagaaGreat
namespace Go.Proofs.YtfccnadbiglagaaGreat
def Full (l : List (Int × Int)) : Prop := ∀ r ∈ l, 0 <= r.1 /\ r.1 <= r.2 /\ r.2 <= 1114111
def ByLo (l : List (Int × Int)) : Prop := l.Pairwise fun x y => x.1 <= y.1
theorem Full.nil : Full [] := fun r h => by cases h
theorem ByLo.nil : ByLo [] := List.Pairwise.nil
theorem put_in {l : List (Int × Int)} {x : Int × Int} (k : Nat) (hl : ByLo l) (hf : Full l) (hx : 0 <= x.1 /\ x.1 <= x.2 /\ x.2 <= 1114111) (h1 : ∀ r ∈ l.take k, r.1 <= x.1) (h2 : ∀ r ∈ l.drop k, x.1 <= r.1) :
  ByLo (l.take k ++ x :: l.drop k) /\ Full (l.take k ++ x :: l.drop k) /\ ∀ n, inS (l.take k ++ x :: l.drop k) n ↔ inS l n \/ (x.1 <= n /\ n <= x.2) := by
  have hp : ByLo (l.take k ++ l.drop k) := by rw [List.take_append_drop]; exact hl
  obtain ⟨p1, p2, p3⟩ := List.pairwise_append.1 hp
  refine ⟨List.pairwise_append.2 ⟨p1, List.Pairwise.cons h2 p2, fun a ha b hb => ?_⟩, fun r hr => ?_, fun n => ?_⟩
  ·rcases List.mem_cons.1 hb with rfl | hb
   ·exact h1 a ha
   ·exact p3 a ha b hb
  ·rcases List.mem_append.1 hr with hr | hr
   ·exact hf r (List.mem_of_mem_take hr)
   ·rcases List.mem_cons.1 hr with rfl | hr
    ·exact hx
    ·exact hf r (List.mem_of_mem_drop hr)
  ·have hs : inS l n ↔ inS (l.take k) n \/ inS (l.drop k) n := by rw [<- inS_append, List.take_append_drop]
   rw [inS_append, inS_cons, hs]
   constructor
   ·rintro (h | h | h)
    ·exact .inl (.inl h)
    ·exact .inr h
    ·exact .inl (.inr h)
   ·rintro ((h | h) | h)
    ·exact .inl h
    ·exact .inr (.inr h)
    ·exact .inr (.inl h)
theorem join_last {l : List (Int × Int)} {a h c d : Int} (hl : Rt (l ++ [(a, h)])) (h1 : a <= c) (h2 : c <= h + 1) (h3 : c <= d) (h4 : d <= 1114111) :
  Rt (l ++ [(a, max h d)]) /\ ∀ n, inS (l ++ [(a, max h d)]) n ↔ inS (l ++ [(a, h)]) n \/ (c <= n /\ n <= d) := by
  obtain ⟨p1, p2, p3, p4, p5⟩ := (Rt_snoc l a h).1 hl
  refine ⟨(Rt_snoc l a _).2 ⟨p1, p2, p3, by omega, by omega⟩, fun n => ?_⟩
  rw [inS_append, inS_append, inS_one, inS_one]
  constructor
  ·rintro (g | g)
   ·exact .inl (.inl g)
   ·by_cases e : n <= h
    ·exact .inl (.inr ⟨g.1, e⟩)
    ·exact .inr ⟨by omega, by omega⟩
  ·rintro ((g | g) | g)
   ·exact .inl g
   ·exact .inr ⟨g.1, by omega⟩
   ·exact .inr ⟨by omega, by omega⟩
theorem new_last {l : List (Int × Int)} {c d : Int} (hl : Rt l) (h0 : 0 <= c) (h1 : ∀ r ∈ l, r.2 + 2 <= c) (h3 : c <= d) (h4 : d <= 1114111) :
  Rt (l ++ [(c, d)]) /\ ∀ n, inS (l ++ [(c, d)]) n ↔ inS l n \/ (c <= n /\ n <= d) :=
  ⟨(Rt_snoc l c d).2 ⟨hl, h0, h1, h3, h4⟩, fun n => by rw [inS_append, inS_one]⟩
def NormOf (m R : List (Int × Int)) : Prop := Rt R /\ ∀ n, inS R n ↔ inS m n /\ 0 <= n /\ n <= 1114111
theorem NormOf.unique {m R R' : List (Int × Int)} (h : NormOf m R) (h' : NormOf m R') : R = R' :=
 canon h.1 h'.1 fun _ => by rw [h.2, h'.2]
theorem NormOf.self {R : List (Int × Int)} (h : Rt R) : NormOf R R := ⟨h, fun _ => ⟨fun hn => ⟨hn, h.num hn⟩, fun hn => hn.1⟩⟩
theorem NormOf.same {m R : List (Int × Int)} (h : NormOf m R) (hm : Rt m) : R = m := h.unique (NormOf.self hm)
end Go.Proofs.YtfccnadbiglagaaGreat
namespace Go.Proofs.YtfccnadbiglagaaGreat
def addR : Int × Int -> List (Int × Int) -> List (Int × Int)
 | x, [] => [x]
 | x, y :: l => if x.2 + 1 < y.1 then x :: y :: l else if y.2 + 1 < x.1 then y :: addR x l else addR (min x.1 y.1, max x.2 y.2) l
theorem addR_right (l : List (Int × Int)) : ∀ (lo : Int) (x : Int × Int), RtFrom lo l -> lo <= x.1 -> x.1 <= x.2 -> x.2 <= 1114111 ->
  RtFrom lo (addR x l) /\ ∀ n, inS (addR x l) n ↔ inS l n \/ (x.1 <= n /\ n <= x.2) := by
  induction l with
  | nil =>
    intro lo x _ h1 h2 h3
    unfold addR
    exact ⟨⟨h1, h2, h3, trivial⟩, fun n => by rw [inS_cons]; exact or_comm⟩
  | cons y l ih =>
    intro lo x h h1 h2 h3
    obtain ⟨a1, a2, a3, a4⟩ := h
    unfold addR
    split
    ·rename_i hc
     exact ⟨⟨h1, h2, h3, by omega, a2, a3, a4⟩, fun n => by rw [inS_cons]; exact or_comm⟩
    ·split
     ·rename_i hc hd
      obtain ⟨p, q⟩ := ih (y.2 + 2) x a4 (by omega) h2 h3
      exact ⟨⟨a1, a2, a3, p⟩, fun n => by rw [inS_cons, inS_cons, q]; exact or_assoc.symm⟩
     ·rename_i hc hd
      have a4' : RtFrom (min x.1 y.1) l := a4.le (by omega)
      obtain ⟨p, q⟩ := ih (min x.1 y.1) (min x.1 y.1, max x.2 y.2) a4' (Int.le_refl _) (by simp only; omega) (by simp only; omega)
      refine ⟨p.le (by omega), fun n => ?_⟩
      rw [q, inS_cons]
      simp only
      constructor
      ·rintro (g | g)
       ·exact .inl (.inr g)
       ·by_cases e : x.1 <= n /\ n <= x.2
        ·exact .inr e
        ·exact .inl (.inl (by omega))
      ·rintro ((g | g) | g)
       ·exact .inr (by omega)
       ·exact .inl g
       ·exact .inr (by omega)
def normL : List (Int × Int) -> List (Int × Int)
 | [] => []
 | r :: l => if max r.1 0 <= min r.2 1114111 then addR (max r.1 0, min r.2 1114111) (normL l) else normL l
theorem normL_is (l : List (Int × Int)) : NormOf l (normL l) := by
 induction l with
 | nil => exact ⟨trivial, fun n => ⟨fun h => absurd h (inS_nil n), fun h => absurd h.1 (inS_nil n)⟩⟩
 | cons r l ih =>
   obtain ⟨h1, h2⟩ := ih
   unfold normL
   split
   ·rename_i hc
    obtain ⟨p, q⟩ := addR_right (normL l) 0 (max r.1 0, min r.2 1114111) h1 (by simp only; omega) (by simp only; omega) (by simp only; omega)
    refine ⟨p, fun n => ?_⟩
    rw [q, h2, inS_cons]
    simp only
    constructor
    ·rintro (⟨g, g2⟩ | g)
     ·exact ⟨.inr g, g2⟩
     ·exact ⟨.inl (by omega), by omega⟩
    ·rintro ⟨g | g, g2⟩
     ·exact .inr (by omega)
     ·exact .inl ⟨g, g2⟩
   ·rename_i hc
    refine ⟨h1, fun n => ?_⟩
    rw [h2, inS_cons]
    constructor
    ·rintro ⟨g, g2⟩
     exact ⟨.inr g, g2⟩
    ·rintro ⟨g | g, g2⟩
     ·omega
     ·exact ⟨g, g2⟩
theorem normL_rt (l : List (Int × Int)) : Rt (normL l) := (normL_is l).1
theorem normL_in (l : List (Int × Int)) (n : Int) : inS (normL l) n ↔ inS l n /\ 0 <= n /\ n <= 1114111 := (normL_is l).2 n
theorem normL_eq {l R : List (Int × Int)} (h : NormOf l R) : R = normL l := h.unique (normL_is l)
def notL (a : List (Int × Int)) : List (Int × Int) := gaps 0 a
def orL (a b : List (Int × Int)) : List (Int × Int) := normL (a ++ b)
def andL (a b : List (Int × Int)) : List (Int × Int) := notL (orL (notL a) (notL b))
def lessL (a b : List (Int × Int)) : List (Int × Int) := andL a (notL b)
theorem notL_rt {a : List (Int × Int)} (h : Rt a) : Rt (notL a) := gaps_right a 0 0 h (Int.le_refl _)
theorem notL_in {a : List (Int × Int)} (h : Rt a) (n : Int) : inS (notL a) n ↔ 0 <= n /\ n <= 1114111 /\ ¬ inS a n := gaps_num a 0 0 h (Int.le_refl _) n
theorem orL_rt (a b : List (Int × Int)) : Rt (orL a b) := normL_rt _
theorem orL_in {a b : List (Int × Int)} (ha : Rt a) (hb : Rt b) (n : Int) : inS (orL a b) n ↔ inS a n \/ inS b n := by
 unfold orL
 rw [normL_in, inS_append]
 exact ⟨fun h => h.1, fun h => ⟨h, by rcases h with h | h; exact ha.num h; exact hb.num h⟩⟩
theorem andL_rt {a b : List (Int × Int)} : Rt (andL a b) := notL_rt (orL_rt _ _)
theorem andL_in {a b : List (Int × Int)} (ha : Rt a) (hb : Rt b) (n : Int) : inS (andL a b) n ↔ inS a n /\ inS b n := by
 unfold andL
 rw [notL_in (orL_rt _ _), orL_in (notL_rt ha) (notL_rt hb), notL_in ha, notL_in hb]
 constructor
 ·rintro ⟨h0, h1, h2⟩
  have h3 := Classical.not_not.1 (fun h => h2 (.inl ⟨h0, h1, h⟩))
  have h4 := Classical.not_not.1 (fun h => h2 (.inr ⟨h0, h1, h⟩))
  exact ⟨h3, h4⟩
 ·rintro ⟨h3, h4⟩
  have := ha.num h3
  exact ⟨this.1, this.2, fun h => by rcases h with h | h; exact h.2.2 h3; exact h.2.2 h4⟩
theorem lessL_rt {a b : List (Int × Int)} : Rt (lessL a b) := andL_rt
theorem RtFrom.short (l : List (Int × Int)) : ∀ lo : Int, RtFrom lo l -> lo <= 1114113 -> 2 * (l.length : Int) <= 1114113 - lo := by
 induction l with
 | nil => intro lo _ h; simp; omega
 | cons r l ih =>
   intro lo h h0
   obtain ⟨h1, h2, h3, h4⟩ := h
   have := ih (r.2 + 2) h4 (by omega)
   simp only [List.length_cons]
   omega
theorem Rt.short {l : List (Int × Int)} (h : Rt l) : l.length <= 557056 := by
 have := RtFrom.short l 0 h (by omega)
 omega
theorem Rt.at {l : List (Int × Int)} (h : Rt l) (i : Nat) (hi : i < l.length) : 0 <= (l[i]'hi).1 /\ (l[i]'hi).1 <= (l[i]'hi).2 /\ (l[i]'hi).2 <= 1114111 := RtFrom.mem h _ (List.getElem_mem hi)
def Wf2 (l : List (Int × Int)) : Prop := ∀ r ∈ l, (-9223372036854775808 <= r.1 /\ r.1 <= 9223372036854775807) /\ (-9223372036854775808 <= r.2 /\ r.2 <= 9223372036854775807)
theorem Rt.wf {l : List (Int × Int)} (h : Rt l) : Wf2 l := fun r hr => by have := RtFrom.mem h r hr; omega
theorem Wf2.append {l m : List (Int × Int)} (h : Wf2 l) (h' : Wf2 m) : Wf2 (l ++ m) := fun r hr => by
 rcases List.mem_append.1 hr with hr | hr
 ·exact h r hr
 ·exact h' r hr
end Go.Proofs.YtfccnadbiglagaaGreat
namespace Go.Proofs.YtfccnadbiglagaaGreat
section
variable {κ : Type}
def CutAt (key : Int -> κ) (n : Int) : Prop := 0 <= n /\ n <= 1114111 /\ (n = 0 \/ key n ≠ key (n - 1))
def IsCuts (key : Int -> κ) (c : List Int) : Prop := c.Pairwise (· < ·) /\ ∀ n, n ∈ c ↔ CutAt key n
theorem rising_unique : ∀ (c d : List Int), c.Pairwise (· < ·) -> d.Pairwise (· < ·) -> (∀ n, n ∈ c ↔ n ∈ d) -> c = d
 | [], [], _, _, _ => rfl
 | [], y :: d, _, _, h => absurd ((h y).2 List.mem_cons_self) (by simp)
 | x :: c, [], _, _, h => absurd ((h x).1 List.mem_cons_self) (by simp)
 | x :: c, y :: d, hc, hd, h => by
   obtain ⟨h1, h2⟩ := List.pairwise_cons.1 hc
   obtain ⟨g1, g2⟩ := List.pairwise_cons.1 hd
   have e : x = y := by
    have p := (h x).1 List.mem_cons_self
    have q := (h y).2 List.mem_cons_self
    rcases List.mem_cons.1 p with p | p
    ·exact p
    ·rcases List.mem_cons.1 q with q | q
     ·exact q.symm
     ·have := g1 x p; have := h1 y q; omega
   subst e
   congr 1
   refine rising_unique c d h2 g2 fun n => ?_
   constructor
   ·intro hn
    have hlt := h1 n hn
    rcases List.mem_cons.1 ((h n).1 (List.mem_cons_of_mem _ hn)) with p | p
    ·omega
    ·exact p
   ·intro hn
    have hlt := g1 n hn
    rcases List.mem_cons.1 ((h n).2 (List.mem_cons_of_mem _ hn)) with p | p
    ·omega
    ·exact p
theorem IsCuts.unique {key : Int -> κ} {c d : List Int} (h : IsCuts key c) (h' : IsCuts key d) : c = d := rising_unique c d h.1 h'.1 fun n => by rw [h.2, h'.2]
theorem key_stays (key : Int -> κ) (a : Int) (h0 : 0 <= a) : ∀ (d : Nat), a + d <= 1114111 -> (∀ n, a < n -> n <= a + d -> ¬ CutAt key n) -> key (a + d) = key a
 | 0, _, _ => by simp
 | d + 1, hd, h => by
   have ih := key_stays key a h0 d (by omega) (fun n h1 h2 => h n h1 (by omega))
   have hn := h (a + (d + 1 : Nat)) (by omega) (Int.le_refl _)
   have : key (a + (d + 1 : Nat)) = key (a + (d + 1 : Nat) - 1) := by
    refine Classical.byContradiction fun hne => hn ⟨by omega, hd, .inr hne⟩
   rw [this, show a + ((d + 1 : Nat) : Int) - 1 = a + (d : Int) by omega, ih]
end
section
variable {κ : Type} [DecidableEq κ]
def firsts (ks : List κ) : List κ := ks.foldl (fun s k => if k ∈ s then s else s ++ [k]) []
theorem firsts_snoc (ks : List κ) (k : κ) : firsts (ks ++ [k]) = if k ∈ firsts ks then firsts ks else firsts ks ++ [k] := by
 unfold firsts; rw [List.foldl_append]; rfl
def ix (s : List κ) (k : κ) : Nat := s.idxOf k
def lets (ks : List κ) : List Nat := ks.map fun k => ix (firsts ks) k
theorem ix_append (s t : List κ) (k : κ) : ix (s ++ t) k = if k ∈ s then ix s k else ix t k + s.length := List.idxOf_append
theorem ix_lt {s : List κ} {k : κ} : ix s k < s.length ↔ k ∈ s := List.idxOf_lt_length_iff
theorem ix_self (k : κ) : ix [k] k = 0 := by simp [ix]
theorem ix_get {s : List κ} {k : κ} (h : k ∈ s) : s[ix s k]'(ix_lt.2 h) = k := List.getElem_idxOf _
theorem ix_getD {s : List κ} {k d : κ} (h : k ∈ s) : s.getD (ix s k) d = k := by
 rw [List.getD, List.getElem?_eq_getElem (ix_lt.2 h)]; exact ix_get h
end
theorem snoc_induct {α : Type} {P : List α -> Prop} (h0 : P []) (h1 : ∀ l a, P l -> P (l ++ [a])) : ∀ l, P l := by
 intro l
 have : ∀ n (l : List α), l.length = n -> P l := by
  intro n
  induction n with
  | zero => intro l hl; rw [List.eq_nil_of_length_eq_zero hl]; exact h0
  | succ n ih =>
    intro l hl
    rcases List.eq_nil_or_concat l with rfl | ⟨m, a, rfl⟩
    ·simp at hl
    ·rw [List.concat_eq_append] at hl ⊢
     exact h1 m a (ih m (by simpa using hl))
 exact this _ l rfl
section
variable {κ : Type} [DecidableEq κ]
theorem firsts_mem (ks : List κ) : ∀ k, k ∈ firsts ks ↔ k ∈ ks := by
 induction ks using snoc_induct with
 | h0 => intro k; simp [firsts]
 | h1 ks a ih =>
   intro k
   rw [firsts_snoc]
   split
   ·rename_i h
    rw [ih, List.mem_append, List.mem_singleton]
    constructor
    ·exact .inl
    ·rintro (g | rfl)
     ·exact g
     ·exact (ih _).1 h
   ·rw [List.mem_append, List.mem_append, ih]
theorem firsts_nodup (ks : List κ) : (firsts ks).Nodup := by
 induction ks using snoc_induct with
 | h0 => simp [firsts]
 | h1 ks a ih =>
   rw [firsts_snoc]
   split
   ·exact ih
   ·rename_i h
    rw [List.nodup_append]
    refine ⟨ih, by simp, ?_⟩
    intro x hx y hy e
    have : y = a := by simpa using hy
    subst this; subst e
    exact h hx
theorem firsts_idx_snoc (ks : List κ) (a k : κ) (h : k ∈ ks) : ix (firsts (ks ++ [a])) k = ix (firsts ks) k := by
 rw [firsts_snoc]
 split
 ·rfl
 ·rw [ix_append, if_pos ((firsts_mem ks k).2 h)]
theorem lets_snoc (ks : List κ) (k : κ) : lets (ks ++ [k]) = lets ks ++ [if k ∈ ks then ix (firsts ks) k else (firsts ks).length] := by
 unfold lets
 rw [List.map_append]
 congr 1
 ·refine List.map_congr_left fun x hx => firsts_idx_snoc ks k x hx
 ·simp only [List.map_cons, List.map_nil]
  congr 1
  split
  ·rename_i h
   exact firsts_idx_snoc ks k k h
  ·rename_i h
   rw [firsts_snoc, if_neg (fun g => h ((firsts_mem ks k).1 g)), ix_append, if_neg (fun g => h ((firsts_mem ks k).1 g)), ix_self, Nat.zero_add]
theorem lets_alike {α ρ : Type} [DecidableEq ρ] (f : α -> κ) (g : α -> ρ) (cs : List α) (h : ∀ a ∈ cs, ∀ b ∈ cs, f a = f b ↔ g a = g b) :
  (firsts (cs.map f)).length = (firsts (cs.map g)).length /\ ∀ a ∈ cs, ix (firsts (cs.map f)) (f a) = ix (firsts (cs.map g)) (g a) := by
  induction cs using snoc_induct with
  | h0 => exact ⟨rfl, fun a ha => by cases ha⟩
  | h1 cs x ih =>
    obtain ⟨i1, i2⟩ := ih fun a ha b hb => h a (List.mem_append.2 (.inl ha)) b (List.mem_append.2 (.inl hb))
    have hiff : f x ∈ firsts (cs.map f) ↔ g x ∈ firsts (cs.map g) := by
     rw [firsts_mem, firsts_mem, List.mem_map, List.mem_map]
     constructor
     ·rintro ⟨a, ha, e⟩; exact ⟨a, ha, (h a (List.mem_append.2 (.inl ha)) x (by simp)).1 e⟩
     ·rintro ⟨a, ha, e⟩; exact ⟨a, ha, (h a (List.mem_append.2 (.inl ha)) x (by simp)).2 e⟩
    rw [List.map_append, List.map_append, List.map_cons, List.map_nil, List.map_cons, List.map_nil]
    constructor
    ·rw [firsts_snoc, firsts_snoc]
     by_cases q : f x ∈ firsts (cs.map f)
     ·rw [if_pos q, if_pos (hiff.1 q), i1]
     ·rw [if_neg q, if_neg (fun e => q (hiff.2 e)), List.length_append, List.length_append, i1]; rfl
    ·intro a ha
     have hold : ∀ b ∈ cs, ix (firsts (cs.map f ++ [f x])) (f b) = ix (firsts (cs.map g ++ [g x])) (g b) := fun b hb => by
      rw [firsts_idx_snoc _ _ _ (List.mem_map_of_mem hb), firsts_idx_snoc _ _ _ (List.mem_map_of_mem hb), i2 b hb]
     rcases List.mem_append.1 ha with ha' | ha'
     ·exact hold a ha'
     ·obtain rfl : a = x := by simpa using ha'
      by_cases q : f a ∈ firsts (cs.map f)
      ·obtain ⟨b, hb, e⟩ := List.mem_map.1 ((firsts_mem _ _).1 q)
       have e' := (h b (List.mem_append.2 (.inl hb)) a (by simp)).1 e
       have := hold b hb
       rw [e, e'] at this
       exact this
      ·have q' : g a ∉ firsts (cs.map g) := fun e => q (hiff.2 e)
       rw [firsts_snoc, firsts_snoc, if_neg q, if_neg q', ix_append, ix_append, if_neg q, if_neg q', ix_self, ix_self, i1]
theorem lets_alike' {α ρ : Type} [DecidableEq ρ] (f : α -> κ) (g : α -> ρ) (cs : List α) (h : ∀ a ∈ cs, ∀ b ∈ cs, f a = f b ↔ g a = g b) : lets (cs.map f) = lets (cs.map g) := by
 obtain ⟨_, h2⟩ := lets_alike f g cs h
 unfold lets
 rw [List.map_map, List.map_map]
 exact List.map_congr_left h2
end
end Go.Proofs.YtfccnadbiglagaaGreat
namespace Go.Proofs.YtfccnadbiglagaaGreat
open Go.Lib
theorem compactUpTo_rising (d : Array Int) (hs : ∀ i j, i <= j -> j < d.size -> d[i]! <= d[j]!) : ∀ m, m <= d.size ->
  (compactUpTo d m).Pairwise (· < ·) /\ ∀ x, x ∈ compactUpTo d m ↔ ∃ j, j < m /\ d[j]! = x := by
  intro m
  induction m with
  | zero => intro _; constructor
            ·exact List.Pairwise.nil
            ·intro x; constructor
             ·intro h; cases h
             ·rintro ⟨j, hj, _⟩; omega
  | succ m ih =>
    intro hm
    obtain ⟨i1, i2⟩ := ih (by omega)
    rw [compactUpTo_succ]
    by_cases hk : keeps d m = true
    ·rw [if_pos hk]
     constructor
     ·rw [List.pairwise_append]
      refine ⟨i1, by simp, ?_⟩
      intro a ha b hb
      obtain rfl : b = d[m]! := by simpa using hb
      obtain ⟨j, hj, rfl⟩ := (i2 a).1 ha
      have h1 := hs j (m - 1) (by omega) (by omega)
      have h2 := hs (m - 1) m (by omega) (by omega)
      have h3 : m = 0 \/ d[m]! ≠ d[m - 1]! := by simpa [keeps] using hk
      rcases h3 with h3 | h3 <;> omega
     ·intro x
      rw [List.mem_append, i2]
      constructor
      ·rintro (⟨j, hj, rfl⟩ | h)
       ·exact ⟨j, by omega, rfl⟩
       ·exact ⟨m, by omega, (List.mem_singleton.1 h).symm⟩
      ·rintro ⟨j, hj, rfl⟩
       by_cases e : j = m
       ·subst e; right; simp
       ·left; exact ⟨j, by omega, rfl⟩
    ·rw [if_neg hk, List.append_nil]
     refine ⟨i1, fun x => ?_⟩
     rw [i2]
     have h3 : ¬ (m = 0 \/ d[m]! ≠ d[m - 1]!) := by simpa [keeps] using hk
     constructor
     ·rintro ⟨j, hj, rfl⟩; exact ⟨j, by omega, rfl⟩
     ·rintro ⟨j, hj, rfl⟩
      by_cases e : j = m
      ·subst e
       refine ⟨j - 1, by omega, ?_⟩
       by_cases g : d[j]! = d[j - 1]!
       ·exact g.symm
       ·exact absurd (Or.inr g) h3
      ·exact ⟨j, by omega, rfl⟩
theorem compact_sorted (l : List Int) : (compact (l.mergeSort fun x y => decide (x <= y))).Pairwise (· < ·) /\ ∀ x, x ∈ compact (l.mergeSort fun x y => decide (x <= y)) ↔ x ∈ l := by
 have hp := List.pairwise_mergeSort (le := fun x y : Int => decide (x <= y)) (by intro a b c; simp; omega) (by intro a b; simp; omega) l
 have hm : ∀ x, x ∈ l.mergeSort (fun x y => decide (x <= y)) ↔ x ∈ l := fun x => List.mem_mergeSort
 generalize l.mergeSort (fun x y => decide (x <= y)) = s at *
 have h := compactUpTo_rising s.toArray (fun i j hij hj => by
  have hj' : j < s.length := by simpa using hj
  rw [getElem!_pos s.toArray i (by simp; omega), getElem!_pos s.toArray j (by simpa using hj)]
  by_cases e : i = j
  ·subst e; exact Int.le_refl _
  ·have := List.pairwise_iff_getElem.1 hp i j (by omega) hj' (by omega)
   simpa using this) s.length (by simp)
 refine ⟨h.1, fun x => ?_⟩
 unfold compact
 rw [h.2, <- hm x]
 constructor
 ·rintro ⟨j, hj, rfl⟩
  rw [getElem!_pos s.toArray j (by simpa using hj)]
  simp
 ·intro hx
  obtain ⟨j, hj, rfl⟩ := List.getElem_of_mem hx
  refine ⟨j, hj, ?_⟩
  rw [getElem!_pos s.toArray j (by simpa using hj)]
  simp
def keyL (ss : List (List (Int × Int))) (n : Int) : List Bool := ss.map fun l => decide (inS l n)
theorem keyL_len (ss : List (List (Int × Int))) (n : Int) : (keyL ss n).length = ss.length := by simp [keyL]
def RtAll (ss : List (List (Int × Int))) : Prop := ∀ l ∈ ss, Rt l
theorem keyL_eq {ss : List (List (Int × Int))} {a b : Int} : keyL ss a = keyL ss b ↔ ∀ l ∈ ss, (inS l a ↔ inS l b) := by
 unfold keyL
 rw [List.map_inj_left]
 constructor
 ·intro h l hl; have := h l hl; simpa using this
 ·intro h l hl; simpa using h l hl
theorem keyL_ne {ss : List (List (Int × Int))} {a b : Int} : keyL ss a ≠ keyL ss b ↔ ∃ l ∈ ss, ¬ (inS l a ↔ inS l b) := by
 rw [Ne, keyL_eq]
 constructor
 ·intro h
  apply Classical.byContradiction
  intro g
  exact h fun l hl => Classical.byContradiction fun q => g ⟨l, hl, q⟩
 ·rintro ⟨l, hl, g⟩ h; exact g (h l hl)
def edge1 (l : List (Int × Int)) : List Int := l.flatMap fun r => if r.2 < 1114111 then [r.1, r.2 + 1] else [r.1]
def edgesL (ss : List (List (Int × Int))) : List Int := 0 :: ss.flatMap edge1
def cutsL (ss : List (List (Int × Int))) : List Int := compact ((edgesL ss).mergeSort fun x y => decide (x <= y))
theorem edge1_mem (l : List (Int × Int)) (n : Int) : n ∈ edge1 l ↔ ∃ r ∈ l, n = r.1 \/ (r.2 < 1114111 /\ n = r.2 + 1) := by
 unfold edge1
 rw [List.mem_flatMap]
 constructor
 ·rintro ⟨r, hr, h⟩
  refine ⟨r, hr, ?_⟩
  split at h
  ·rcases List.mem_cons.1 h with h | h
   ·exact .inl h
   ·right; exact ⟨by assumption, by simpa using h⟩
  ·left; simpa using h
 ·rintro ⟨r, hr, h⟩
  refine ⟨r, hr, ?_⟩
  rcases h with h | ⟨h1, h2⟩
  ·subst h; split <;> simp
  ·rw [if_pos h1, h2]; simp
theorem RtFrom.gap {l : List (Int × Int)} : ∀ {lo : Int}, RtFrom lo l -> ∀ r ∈ l, ¬ inS l (r.1 - 1) /\ ¬ inS l (r.2 + 1) := by
 induction l with
 | nil => intro lo _ r hr; cases hr
 | cons x l ih =>
   intro lo h r hr
   obtain ⟨h1, h2, h3, h4⟩ := h
   rw [inS_cons, inS_cons]
   rcases List.mem_cons.1 hr with rfl | hr
   ·constructor
    ·rintro (g | g)
     ·omega
     ·have := h4.num g; omega
    ·rintro (g | g)
     ·omega
     ·have := h4.num g; omega
   ·have hm := h4.mem r hr
    obtain ⟨q1, q2⟩ := ih h4 r hr
    exact ⟨by rintro (g | g); omega; exact q1 g, by rintro (g | g); omega; exact q2 g⟩
theorem edge1_iff {l : List (Int × Int)} (h : Rt l) (n : Int) : n ∈ edge1 l ↔ 0 <= n /\ n <= 1114111 /\ ¬ (inS l n ↔ inS l (n - 1)) := by
 rw [edge1_mem]
 constructor
 ·rintro ⟨r, hr, rfl | ⟨h1, rfl⟩⟩
  ·have hm := RtFrom.mem h r hr
   obtain ⟨q1, q2⟩ := RtFrom.gap h r hr
   exact ⟨hm.1, by omega, fun e => q1 (e.1 ⟨r, hr, Int.le_refl _, hm.2.1⟩)⟩
  ·have hm := RtFrom.mem h r hr
   obtain ⟨q1, q2⟩ := RtFrom.gap h r hr
   exact ⟨by omega, by omega, fun e => q2 (e.2 ⟨r, hr, by omega, by omega⟩)⟩
 ·rintro ⟨h0, h1, h2⟩
  by_cases g : inS l n
  ·obtain ⟨r, hr, g1, g2⟩ := g
   refine ⟨r, hr, .inl ?_⟩
   apply Classical.byContradiction
   intro hne
   exact h2 ⟨fun _ => ⟨r, hr, by omega, by omega⟩, fun _ => ⟨r, hr, g1, g2⟩⟩
  ·have g' : inS l (n - 1) := Classical.byContradiction fun q => h2 ⟨fun h => absurd h g, fun h => absurd h q⟩
   obtain ⟨r, hr, g1, g2⟩ := g'
   have hlt : r.2 < n := by
    apply Classical.byContradiction
    intro hne
    exact g ⟨r, hr, by omega, by omega⟩
   exact ⟨r, hr, .inr ⟨by omega, by omega⟩⟩
theorem edges_iff {ss : List (List (Int × Int))} (h : RtAll ss) (n : Int) : n ∈ edgesL ss ↔ CutAt (keyL ss) n := by
 unfold edgesL CutAt
 rw [List.mem_cons, List.mem_flatMap, keyL_ne]
 constructor
 ·rintro (rfl | ⟨l, hl, g⟩)
  ·exact ⟨by omega, by omega, .inl rfl⟩
  ·obtain ⟨g1, g2, g3⟩ := (edge1_iff (h l hl) n).1 g
   exact ⟨g1, g2, .inr ⟨l, hl, g3⟩⟩
 ·rintro ⟨h1, h2, h3 | ⟨l, hl, g⟩⟩
  ·exact .inl h3
  ·exact .inr ⟨l, hl, (edge1_iff (h l hl) n).2 ⟨h1, h2, g⟩⟩
theorem cutsL_is {ss : List (List (Int × Int))} (h : RtAll ss) : IsCuts (keyL ss) (cutsL ss) := by
 obtain ⟨h1, h2⟩ := compact_sorted (edgesL ss)
 exact ⟨h1, fun n => by unfold cutsL; rw [h2, edges_iff h]⟩
def keysL (ss : List (List (Int × Int))) : List (List Bool) := (cutsL ss).map (keyL ss)
def letsL (ss : List (List (Int × Int))) : List Int := (lets (keysL ss)).map fun (k : Nat) => (k : Int)
def kindsL (ss : List (List (Int × Int))) : List (List Bool) := firsts (keysL ss)
def letOf (ss : List (List (Int × Int))) (n : Int) : Nat := ix (kindsL ss) (keyL ss n)
theorem cutsL_zero {ss : List (List (Int × Int))} (h : RtAll ss) : 0 ∈ cutsL ss := ((cutsL_is h).2 0).2 ⟨by omega, by omega, .inl rfl⟩
theorem cutsL_bd {ss : List (List (Int × Int))} (h : RtAll ss) (n : Int) (hn : n ∈ cutsL ss) : 0 <= n /\ n <= 1114111 := by
 have := ((cutsL_is h).2 n).1 hn; exact ⟨this.1, this.2.1⟩
theorem rising_count {c : List Int} (h : c.Pairwise (· < ·)) (n : Int) : ∃ k : Nat, k = c.countP (fun x => decide (x <= n)) /\ k <= c.length /\ (∀ t, t < k -> c.getD t 0 <= n) /\ (∀ t, k <= t -> t < c.length -> n < c.getD t 0) := by
 induction c with
 | nil => exact ⟨0, rfl, Nat.le_refl _, fun t ht => absurd ht (Nat.not_lt_zero t), fun t _ ht => absurd ht (Nat.not_lt_zero t)⟩
 | cons x c ih =>
   obtain ⟨h1, h2⟩ := List.pairwise_cons.1 h
   obtain ⟨k, e, k1, k2, k3⟩ := ih h2
   by_cases hx : x <= n
   ·refine ⟨k + 1, by rw [List.countP_cons_of_pos (by simpa using hx), <- e], by simp; omega, fun t ht => ?_, fun t ht htl => ?_⟩
    ·cases t with
     | zero => exact hx
     | succ t => rw [List.getD_cons_succ]; exact k2 t (by omega)
    ·cases t with
     | zero => omega
     | succ t => rw [List.getD_cons_succ]; exact k3 t (by omega) (by simpa using htl)
   ·have hall : ∀ y ∈ c, ¬ y <= n := fun y hy => by have := h1 y hy; omega
    refine ⟨0, ?_, Nat.zero_le _, fun t ht => absurd ht (Nat.not_lt_zero t), fun t _ htl => ?_⟩
    ·rw [List.countP_cons_of_neg (by simpa using hx), List.countP_eq_zero.2 (fun y hy => by simpa using hall y hy)]
    ·cases t with
     | zero => simp only [List.getD_cons_zero]; omega
     | succ t =>
       rw [List.getD_cons_succ]
       have ht : t < c.length := by simpa using htl
       have e2 : c.getD t 0 = c[t] := by simp [List.getD, List.getElem?_eq_getElem ht]
       have := hall c[t] (List.getElem_mem _)
       omega
theorem rising_lt {c : List Int} (h : c.Pairwise (· < ·)) {i j : Nat} (hij : i < j) (hj : j < c.length) : c.getD i 0 < c.getD j 0 := by
 have e1 : c.getD i 0 = c[i]'(by omega) := by simp [List.getD, List.getElem?_eq_getElem (show i < c.length by omega)]
 have e2 : c.getD j 0 = c[j] := by simp [List.getD, List.getElem?_eq_getElem hj]
 rw [e1, e2]
 exact List.pairwise_iff_getElem.1 h i j (by omega) hj hij
theorem cut_of {ss : List (List (Int × Int))} (h : RtAll ss) (n : Int) (h0 : 0 <= n) (h1 : n <= 1114111) :
  ∃ k : Nat, (cutsL ss).countP (fun x => decide (x <= n)) = k + 1 /\ k < (cutsL ss).length /\ (cutsL ss).getD k 0 <= n /\ (∀ t, k < t -> t < (cutsL ss).length -> n < (cutsL ss).getD t 0) /\ keyL ss n = keyL ss ((cutsL ss).getD k 0) := by
  have hc := cutsL_is h
  obtain ⟨k, e, k1, k2, k3⟩ := rising_count hc.1 n
  have hz := cutsL_zero h
  have hk : k ≠ 0 := by
   rintro rfl
   obtain ⟨j, hj, ej⟩ := List.getElem_of_mem hz
   have := k3 j (Nat.zero_le _) hj
   have e2 : (cutsL ss).getD j 0 = (cutsL ss)[j] := by simp [List.getD, List.getElem?_eq_getElem hj]
   rw [e2, ej] at this
   omega
  obtain ⟨k, rfl⟩ : ∃ j, k = j + 1 := ⟨k - 1, by omega⟩
  refine ⟨k, e.symm, by omega, k2 k (by omega), fun t ht htl => k3 t (by omega) htl, ?_⟩
  have e2 : (cutsL ss).getD k 0 = (cutsL ss)[k]'(by omega) := by simp [List.getD, List.getElem?_eq_getElem (show k < (cutsL ss).length by omega)]
  have hbd := cutsL_bd h ((cutsL ss).getD k 0) (by rw [e2]; exact List.getElem_mem _)
  have hle := k2 k (by omega)
  have := key_stays (keyL ss) ((cutsL ss).getD k 0) hbd.1 (n - (cutsL ss).getD k 0).toNat (by omega) (fun m hm1 hm2 hcut => by
   have hm := (hc.2 m).2 hcut
   obtain ⟨j, hj, ej⟩ := List.getElem_of_mem hm
   have e3 : (cutsL ss).getD j 0 = m := by rw [<- ej]; simp [List.getD, List.getElem?_eq_getElem hj]
   rcases Nat.lt_or_ge k j with g | g
   ·have := k3 j (by omega) hj; omega
   ·rcases Nat.lt_or_ge j k with g' | g'
    ·have := rising_lt hc.1 g' (by omega); omega
    ·have : j = k := by omega
     subst this; omega)
  rw [<- this]
  congr 1; omega
theorem kinds_mem {ss : List (List (Int × Int))} (h : RtAll ss) (n : Int) (h0 : 0 <= n) (h1 : n <= 1114111) : keyL ss n ∈ kindsL ss := by
 obtain ⟨k, _, k1, _, _, k4⟩ := cut_of h n h0 h1
 unfold kindsL keysL
 rw [firsts_mem, k4]
 refine List.mem_map_of_mem ?_
 have e2 : (cutsL ss).getD k 0 = (cutsL ss)[k] := by simp [List.getD, List.getElem?_eq_getElem k1]
 rw [e2]; exact List.getElem_mem _
theorem letsL_len (ss : List (List (Int × Int))) : (letsL ss).length = (cutsL ss).length := by simp [letsL, lets, keysL]
theorem letsL_at (ss : List (List (Int × Int))) (k : Nat) (hk : k < (cutsL ss).length) : (letsL ss).getD k 0 = (ix (kindsL ss) (keyL ss ((cutsL ss).getD k 0)) : Nat) := by
 have hk' : k < (letsL ss).length := by rw [letsL_len]; exact hk
 have e1 : (letsL ss).getD k 0 = (letsL ss)[k] := by simp [List.getD, List.getElem?_eq_getElem hk']
 have e2 : (cutsL ss).getD k 0 = (cutsL ss)[k] := by simp [List.getD, List.getElem?_eq_getElem hk]
 rw [e1, e2]
 simp [letsL, lets, keysL, kindsL]
theorem letOf_lt {ss : List (List (Int × Int))} (h : RtAll ss) (n : Int) (h0 : 0 <= n) (h1 : n <= 1114111) : letOf ss n < (kindsL ss).length :=
 ix_lt.2 (kinds_mem h n h0 h1)
theorem letOf_kind {ss : List (List (Int × Int))} (h : RtAll ss) (n : Int) (h0 : 0 <= n) (h1 : n <= 1114111) : (kindsL ss).getD (letOf ss n) [] = keyL ss n := ix_getD (kinds_mem h n h0 h1)
end Go.Proofs.YtfccnadbiglagaaGreat
namespace Go.Proofs.YtfccnadbiglagaaGreat
def bitsN : List Bool -> Nat
 | [] => 0
 | b :: ks => (if b then 1 else 0) + 2 * bitsN ks
theorem bitsN_snoc (ks : List Bool) (b : Bool) : bitsN (ks ++ [b]) = bitsN ks + if b then 2 ^ ks.length else 0 := by
 induction ks with
 | nil => cases b <;> rfl
 | cons x ks ih =>
   rw [List.cons_append]
   unfold bitsN
   rw [ih, List.length_cons, Nat.pow_succ]
   cases b <;> simp <;> omega
theorem bitsN_lt (ks : List Bool) : bitsN ks < 2 ^ ks.length := by
 induction ks with
 | nil => decide
 | cons x ks ih =>
   unfold bitsN
   rw [List.length_cons, Nat.pow_succ]
   cases x <;> simp <;> omega
theorem bitsN_inj : ∀ (a b : List Bool), a.length = b.length -> bitsN a = bitsN b -> a = b
 | [], [], _, _ => rfl
 | [], _ :: _, h, _ => by simp at h
 | _ :: _, [], h, _ => by simp at h
 | x :: a, y :: b, h, e => by
   unfold bitsN at e
   have e1 : x = y := by cases x <;> cases y <;> simp at e ⊢ <;> omega
   subst e1
   rw [bitsN_inj a b (by simpa using h) (by omega)]
section
variable {κ : Type} [DecidableEq κ]
theorem firsts_front (ks : List κ) : ∀ k, ∃ s, firsts ks = firsts (ks.take k) ++ s := by
 induction ks using snoc_induct with
 | h0 => intro k; exact ⟨[], by simp [firsts]⟩
 | h1 ks a ih =>
   intro k
   rcases Nat.lt_or_ge ks.length k with h | h
   ·exact ⟨[], by rw [List.take_of_length_le (by simp; omega), List.append_nil]⟩
   ·obtain ⟨s, e⟩ := ih k
    rw [List.take_append_of_le_length h, firsts_snoc]
    split
    ·exact ⟨s, e⟩
    ·exact ⟨s ++ [a], by rw [e, List.append_assoc]⟩
def cnt (ks : List κ) (k : Nat) : Nat := (firsts (ks.take k)).length
theorem cnt_zero (ks : List κ) : cnt ks 0 = 0 := rfl
theorem cnt_all (ks : List κ) (k : Nat) (h : ks.length <= k) : cnt ks k = (firsts ks).length := by unfold cnt; rw [List.take_of_length_le h]
theorem lets_len (ks : List κ) : (lets ks).length = ks.length := by simp [lets]
theorem lets_at (ks : List κ) (k : Nat) (hk : k < ks.length) : (lets ks).getD k 0 = ix (firsts ks) ks[k] := by
 have : k < (lets ks).length := by rw [lets_len]; exact hk
 rw [List.getD, List.getElem?_eq_getElem this]
 simp [lets]
theorem cnt_step (ks : List κ) (k : Nat) (hk : k < ks.length) : ((lets ks).getD k 0 = cnt ks k /\ cnt ks (k + 1) = cnt ks k + 1) \/ ((lets ks).getD k 0 < cnt ks k /\ cnt ks (k + 1) = cnt ks k) := by
 rw [lets_at ks k hk]
 have e0 : ks.take (k + 1) = ks.take k ++ [ks[k]] := List.take_succ_eq_append_getElem hk
 obtain ⟨s, e⟩ := firsts_front ks (k + 1)
 have hm : ks[k] ∈ firsts (ks.take (k + 1)) := by rw [firsts_mem, e0]; exact List.mem_append.2 (.inr (List.mem_singleton.2 rfl))
 have e1 : ix (firsts ks) ks[k] = ix (firsts (ks.take (k + 1))) ks[k] := by rw [e, ix_append, if_pos hm]
 rw [e1]
 unfold cnt
 rw [e0, firsts_snoc]
 by_cases h : ks[k] ∈ firsts (ks.take k)
 ·rw [if_pos h]; exact .inr ⟨ix_lt.2 h, rfl⟩
 ·rw [if_neg h, ix_append, if_neg h, ix_self]; exact .inl ⟨Nat.zero_add _, by simp⟩
theorem lets_key (ks : List κ) (k : Nat) (hk : k < ks.length) (d : κ) : (firsts ks).getD ((lets ks).getD k 0) d = ks[k] := by
 rw [lets_at ks k hk]
 exact ix_getD ((firsts_mem _ _).2 (List.getElem_mem _))
theorem lets_lt (ks : List κ) (k : Nat) (hk : k < ks.length) : (lets ks).getD k 0 < (firsts ks).length := by
 rw [lets_at ks k hk]
 exact ix_lt.2 ((firsts_mem _ _).2 (List.getElem_mem _))
def rowAt (ks : List κ) (f : κ -> Bool) (d : κ) (k : Nat) : List Bool := (List.range (firsts ks).length).map fun j => decide (j < cnt ks k) && f ((firsts ks).getD j d)
theorem rowAt_zero (ks : List κ) (f : κ -> Bool) (d : κ) : rowAt ks f d 0 = List.replicate (firsts ks).length false := by
 unfold rowAt
 rw [cnt_zero]
 apply List.ext_getElem
 ·simp
 ·intro i h1 h2; simp
theorem rowAt_step (ks : List κ) (f : κ -> Bool) (d : κ) (k : Nat) (hk : k < ks.length) : (rowAt ks f d k).set ((lets ks).getD k 0) (f ks[k]) = rowAt ks f d (k + 1) := by
 have hkey := lets_key ks k hk d
 have hlt := lets_lt ks k hk
 apply List.ext_getElem
 ·simp [rowAt]
 ·intro i h1 h2
  have hi : i < (firsts ks).length := by simpa [rowAt] using h2
  have g : ∀ (m : Nat) (hh : i < (rowAt ks f d m).length), (rowAt ks f d m)[i]'hh = (decide (i < cnt ks m) && f ((firsts ks).getD i d)) := fun m hh => by simp [rowAt]
  rw [List.getElem_set, g, g]
  rcases cnt_step ks k hk with ⟨q1, q2⟩ | ⟨q1, q2⟩
  ·split
   ·rename_i e; subst e
    rw [hkey, q2, decide_eq_true (by omega), Bool.true_and]
   ·rename_i e
    have : decide (i < cnt ks k) = decide (i < cnt ks (k + 1)) := by rw [decide_eq_decide]; omega
    rw [this]
  ·rw [q2]
   split
   ·rename_i e; subst e
    rw [hkey, decide_eq_true q1, Bool.true_and]
   ·rfl
theorem rowAt_all (ks : List κ) (f : κ -> Bool) (d : κ) (k : Nat) (h : ks.length <= k) : rowAt ks f d k = (firsts ks).map f := by
 unfold rowAt
 rw [cnt_all ks k h]
 apply List.ext_getElem
 ·simp
 ·intro i h1 h2
  have hi : i < (firsts ks).length := by simpa using h1
  simp [hi]
end
theorem nodup_le {α : Type} [DecidableEq α] : ∀ (a b : List α), a.Nodup -> (∀ x ∈ a, x ∈ b) -> a.length <= b.length
 | [], b, _, _ => Nat.zero_le _
 | x :: a, b, h, hs => by
   obtain ⟨h1, h2⟩ := List.nodup_cons.1 h
   have hx := hs x (by simp)
   have := nodup_le a (b.erase x) h2 fun y hy => (List.mem_erase_of_ne (fun e : y = x => h1 (by rw [<- e]; exact hy))).2 (hs y (by simp [hy]))
   rw [List.length_erase_of_mem hx] at this
   have hb : 0 < b.length := List.length_pos_of_mem hx
   simp only [List.length_cons]
   omega
def InN (n : Int) : Prop := 0 <= n /\ n <= 1114111
def inRow (ss : List (List (Int × Int))) (i : Nat) : List Bool := (kindsL ss).map fun k => k.getD i false
theorem keyL_at (ss : List (List (Int × Int))) (n : Int) (i : Nat) (hi : i < ss.length) : (keyL ss n).getD i false = decide (inS (ss.getD i []) n) := by
 simp [keyL, List.getD, List.getElem?_eq_getElem hi]
theorem inRow_at {ss : List (List (Int × Int))} (h : RtAll ss) (n : Int) (h0 : 0 <= n) (h1 : n <= 1114111) (i : Nat) (hi : i < ss.length) : (inRow ss i).getD (letOf ss n) false = decide (inS (ss.getD i []) n) := by
 rw [<- keyL_at ss n i hi, <- letOf_kind h n h0 h1]
 have := letOf_lt h n h0 h1
 simp [inRow, List.getD, List.getElem?_eq_getElem this]
theorem inRow_len (ss : List (List (Int × Int))) (i : Nat) : (inRow ss i).length = (kindsL ss).length := by simp [inRow]
end Go.Proofs.YtfccnadbiglagaaGreat
