/- What the reader takes is what the plain reader reads. What the reader takes is what the plain reader reads: vecs, emits. -/
import Derived.Test.YtjkcglgkdclidaaVTableO
import Derived.Test.YtjkcglgkdclidaaVTableW
set_option linter.unusedVariables false
set_option linter.unusedSimpArgs false
namespace Go.Proofs.Ytjkcglgkdclidaa
open Go Go.RowKit Go.Proofs
theorem rdK_one : ∀ (k : Nat) (r : List Int), k <= r.length -> rdK rdOne k r = some (r.take k, r.drop k)
 | 0, r, _ => rfl
 | k + 1, [], h => by simp at h
 | k + 1, x :: r, h => by
   have := rdK_one k r (by simpa using h)
   simp only [rdK, rdOne, this, List.take_succ_cons, List.drop_succ_cons]
theorem manyN_none' : manyN none = (0, none) := rfl
theorem listN_none : listN none = ([], none) := rfl
theorem manyN_nil : manyN (some []) = (0, none) := rfl
theorem manyN_cons (n : Int) (r : List Int) : manyN (some (n :: r)) = if 0 <= n /\ n <= (r.length : Int) then (n, some r) else (0, none) := rfl
theorem listN_rd (L : List Int) : (∃ l r, rdN L = some (l, r) /\ listN (some L) = (l, some r)) \/ (rdN L = none /\ (listN (some L)).2 = none) := by
 cases L with
 | nil => exact .inr ⟨rfl, rfl⟩
 | cons n r =>
   by_cases h : 0 <= n /\ n <= (r.length : Int)
   ·refine .inl ⟨r.take n.toNat, r.drop n.toNat, ?_, ?_⟩
    ·simp only [rdN, rdC]
     rw [if_pos ⟨h.1, h.2, fun m hm => by cases hm⟩]
     exact rdK_one _ _ (by omega)
    ·unfold listN
     rw [manyN_cons, if_pos h]
   ·refine .inr ⟨?_, ?_⟩
    ·simp only [rdN, rdC]
     rw [if_neg (fun e => h ⟨e.1, e.2.1⟩)]
    ·unfold listN
     rw [manyN_cons, if_neg h]
theorem itR_none {rest : Option (List Int)} {i : Nat} (h : itR rest i = none) : ∀ j, i <= j -> itR rest j = none := by
 intro j
 induction j with
 | zero => intro hj; have : i = 0 := by omega
           subst this; exact h
 | succ j ih =>
   intro hj
   by_cases e : i = j + 1
   ·subst e; exact h
   ·have := ih (by omega)
    simp only [itR, this]
    rfl
theorem listsN_rd (L : List Int) : (∃ l r, rdRows L = some (l, r) /\ listsN (some L) = (l, some r)) \/ (rdRows L = none /\ (listsN (some L)).2 = none) := by
 cases L with
 | nil => exact .inr ⟨rfl, rfl⟩
 | cons n r =>
   by_cases h : 0 <= n /\ n <= (r.length : Int)
   ·have e0 : manyN (some (n :: r)) = (n, some r) := by rw [manyN_cons, if_pos h]
    have key : ∀ (k i : Nat) (q : List Int), itR (some (n :: r)) i = some q ->
      (∃ l q', rdK rdN k q = some (l, q') /\ itR (some (n :: r)) (i + k) = some q' /\ (List.range k).map (fun j => (listN (itR (some (n :: r)) (i + j))).1) = l) \/ (rdK rdN k q = none /\ itR (some (n :: r)) (i + k) = none) := by
      intro k
      induction k with
      | zero => intro i q hq; exact .inl ⟨[], q, rfl, hq, rfl⟩
      | succ k ih =>
        intro i q hq
        rcases listN_rd q with ⟨l, r1, h1, h2⟩ | ⟨h1, h2⟩
        ·have hi : itR (some (n :: r)) (i + 1) = some r1 := by simp only [itR, hq, h2]
         rcases ih (i + 1) r1 hi with ⟨l2, q', h3, h4, h5⟩ | ⟨h3, h4⟩
         ·refine .inl ⟨l :: l2, q', ?_, ?_, ?_⟩
          ·simp only [rdK, h1, h3]
          ·rw [show i + (k + 1) = i + 1 + k by omega]; exact h4
          ·rw [List.range_succ_eq_map, List.map_cons, List.map_map]
           rw [show i + 0 = i from rfl, hq, h2]
           simp only [List.cons.injEq, true_and]
           rw [<- h5]
           refine List.map_congr_left fun j _ => ?_
           simp only [Function.comp_apply]
           rw [show i + (j + 1) = i + 1 + j by omega]
         ·refine .inr ⟨?_, ?_⟩
          ·simp only [rdK, h1, h3]
          ·rw [show i + (k + 1) = i + 1 + k by omega]; exact h4
        ·have hi : itR (some (n :: r)) (i + 1) = none := by simp only [itR, hq, h2]
         exact .inr ⟨by simp only [rdK, h1], itR_none hi _ (by omega)⟩
    have h0 : itR (some (n :: r)) 0 = some r := by simp only [itR, e0]
    have hrd : rdRows (n :: r) = rdK rdN n.toNat r := by
     simp only [rdRows, rdC]
     rw [if_pos ⟨h.1, h.2, fun m hm => by cases hm⟩]
    rcases key n.toNat 0 r h0 with ⟨l, q', h1, h2, h3⟩ | ⟨h1, h2⟩
    ·refine .inl ⟨l, q', by rw [hrd]; exact h1, ?_⟩
     unfold listsN
     rw [e0]
     simp only [Nat.zero_add] at h2 h3
     rw [h2, h3]
    ·refine .inr ⟨by rw [hrd]; exact h1, ?_⟩
     unfold listsN
     rw [e0]
     simp only [Nat.zero_add] at h2
     exact h2
   ·refine .inr ⟨?_, ?_⟩
    ·simp only [rdRows, rdC]
     rw [if_neg (fun e => h ⟨e.1, e.2.1⟩)]
    ·unfold listsN
     rw [manyN_cons, if_neg h]
     exact itR_none (i := 0) (by simp only [itR, manyN_cons, if_neg h]) _ (Nat.zero_le _)
end Go.Proofs.Ytjkcglgkdclidaa
namespace Go.Proofs.Ytjkcglgkdclidaa
open Go Go.RowKit Go.Proofs
theorem steps_rd {β : Type} {rd : List Int -> Option (β × List Int)} {it : Nat -> Option (List Int)} {val : Nat -> β}
  (hs : ∀ i q, it i = some q -> (∃ l r, rd q = some (l, r) /\ it (i + 1) = some r /\ val i = l) \/ (rd q = none /\ it (i + 1) = none))
  (hn : ∀ i, it i = none -> it (i + 1) = none) :
  ∀ (k i : Nat) (q : List Int), it i = some q -> (∃ l q', rdK rd k q = some (l, q') /\ it (i + k) = some q' /\ (List.range k).map (fun j => val (i + j)) = l) \/ (rdK rd k q = none /\ it (i + k) = none) := by
  have hnn : ∀ k i, it i = none -> it (i + k) = none := by
   intro k
   induction k with
   | zero => intro i h; exact h
   | succ k ih => intro i h; exact hn _ (ih i h)
  intro k
  induction k with
  | zero => intro i q hq; exact .inl ⟨[], q, rfl, hq, rfl⟩
  | succ k ih =>
    intro i q hq
    rcases hs i q hq with ⟨l, r1, h1, hi, hv⟩ | ⟨h1, hi⟩
    ·rcases ih (i + 1) r1 hi with ⟨l2, q', h3, h4, h5⟩ | ⟨h3, h4⟩
     ·refine .inl ⟨l :: l2, q', ?_, ?_, ?_⟩
      ·simp only [rdK, h1, h3]
      ·rw [show i + (k + 1) = i + 1 + k by omega]; exact h4
      ·rw [List.range_succ_eq_map, List.map_cons, List.map_map]
       rw [show i + 0 = i from rfl, hv]
       simp only [List.cons.injEq, true_and]
       rw [<- h5]
       refine List.map_congr_left fun j _ => ?_
       simp only [Function.comp_apply]
       rw [show i + (j + 1) = i + 1 + j by omega]
     ·refine .inr ⟨?_, ?_⟩
      ·simp only [rdK, h1, h3]
      ·rw [show i + (k + 1) = i + 1 + k by omega]; exact h4
    ·refine .inr ⟨by simp only [rdK, h1], ?_⟩
     rw [show i + (k + 1) = i + 1 + k by omega]
     exact hnn k _ hi
theorem count_rd {β : Type} {rd : List Int -> Option (β × List Int)} {it : Nat -> Option (List Int)} {val : Nat -> β} (L : List Int)
  (h0 : it 0 = (manyN (some L)).2)
  (hs : ∀ i q, it i = some q -> (∃ l r, rd q = some (l, r) /\ it (i + 1) = some r /\ val i = l) \/ (rd q = none /\ it (i + 1) = none))
  (hn : ∀ i, it i = none -> it (i + 1) = none) :
  (∃ l r, rdC none rd L = some (l, r) /\ it (manyN (some L)).1.toNat = some r /\ (List.range (manyN (some L)).1.toNat).map val = l) \/ (rdC none rd L = none /\ it (manyN (some L)).1.toNat = none) := by
  cases L with
  | nil => exact .inr ⟨rfl, h0⟩
  | cons n r =>
    by_cases h : 0 <= n /\ n <= (r.length : Int)
    ·have e0 : manyN (some (n :: r)) = (n, some r) := by rw [manyN_cons, if_pos h]
     have hrd : rdC none rd (n :: r) = rdK rd n.toNat r := by
      simp only [rdC]
      rw [if_pos ⟨h.1, h.2, fun m hm => by cases hm⟩]
     rw [e0] at h0 ⊢
     rw [hrd]
     have := steps_rd hs hn n.toNat 0 r h0
     simp only [Nat.zero_add] at this
     exact this
    ·have e0 : manyN (some (n :: r)) = (0, none) := by rw [manyN_cons, if_neg h]
     rw [e0] at h0 ⊢
     refine .inr ⟨?_, h0⟩
     simp only [rdC]
     rw [if_neg (fun e => h ⟨e.1, e.2.1⟩)]
theorem takeN_none : takeN none = (0, none) := rfl
theorem takeN_nil : takeN (some []) = (0, none) := rfl
theorem takeN_cons (x : Int) (L : List Int) : takeN (some (x :: L)) = (x, some L) := rfl
theorem vecsN_none : vecsN none = ([], none) := rfl
theorem emitsN_none : emitsN none = ([], none) := rfl
theorem listsN_none : listsN none = ([], none) := rfl
theorem vecsN_rd (L : List Int) : (∃ l r, rdVecs L = some (l, r) /\ vecsN (some L) = (l, some r)) \/ (rdVecs L = none /\ (vecsN (some L)).2 = none) := by
 have := count_rd (rd := rdVec) (it := itV (some L)) (val := vecV (some L)) L rfl (fun i q hq => by
  simp only [itV, vecV, hq]
  match q with
  | [] => exact .inr ⟨rfl, rfl⟩
  | [_] => exact .inr ⟨rfl, rfl⟩
  | [_, _] => exact .inr ⟨rfl, rfl⟩
  | a :: b :: c :: r => exact .inl ⟨_, _, rfl, rfl, rfl⟩) (fun i hi => by simp only [itV, hi]; rfl)
 rcases this with ⟨l, r, h1, h2, h3⟩ | ⟨h1, h2⟩
 ·exact .inl ⟨l, r, h1, by unfold vecsN; rw [h2, h3]⟩
 ·exact .inr ⟨h1, h2⟩
theorem emitsN_rd (L : List Int) : (∃ l r, rdEmits L = some (l, r) /\ emitsN (some L) = (l, some r)) \/ (rdEmits L = none /\ (emitsN (some L)).2 = none) := by
 have := count_rd (rd := rdVecs) (it := itE (some L)) (val := fun i => (vecsN (itE (some L) i)).1) L rfl (fun i q hq => by
  simp only [itE, hq]
  rcases vecsN_rd q with ⟨l, r, h1, h2⟩ | ⟨h1, h2⟩
  ·exact .inl ⟨l, r, h1, by rw [h2], by rw [h2]⟩
  ·exact .inr ⟨h1, h2⟩) (fun i hi => by simp only [itE, hi]; rfl)
 rcases this with ⟨l, r, h1, h2, h3⟩ | ⟨h1, h2⟩
 ·exact .inl ⟨l, r, h1, by unfold emitsN; rw [h2, h3]⟩
 ·exact .inr ⟨h1, h2⟩
def tableN (rest : Option (List Int)) : (List Int × List Int × List (List Int) × List Int × List (List Int) × List (List V3)) × Option (List Int) :=
 let c := listN rest
 let l := listN c.2
 let bn := listsN l.2
 let bo := listN bn.2
 let fn := listsN bo.2
 let fe := emitsN fn.2
 ((c.1, l.1, bn.1, bo.1, fn.1, fe.1), fe.2)
end Go.Proofs.Ytjkcglgkdclidaa
