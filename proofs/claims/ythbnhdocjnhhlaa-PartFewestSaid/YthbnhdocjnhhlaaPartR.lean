/- Plain mathematics of letters: keys as numbers; counting letters; the rows of what is in; sets that part alike. -/
import Derived.Test.YthbnhdocjnhhlaaPartQ
namespace Go.Proofs.Ythbnhdocjnhhlaa

/-- A key as a number, a bit each set from the lowest on. -/
def bitsN : List Bool → Nat
  | [] => 0
  | b :: ks => (if b then 1 else 0) + 2 * bitsN ks
theorem bitsN_snoc (ks : List Bool) (b : Bool) : bitsN (ks ++ [b]) = bitsN ks + if b then 2 ^ ks.length else 0 := by
  induction ks with
  | nil => cases b <;> rfl
  | cons x ks ih =>
    rw [List.cons_append]
    unfold bitsN
    rw [ih, List.length_cons, Nat.pow_succ]
    cases b <;> simp <;> omega
theorem bitsN_lt (ks : List Bool) : bitsN ks < 2 ^ ks.length := by
  induction ks with
  | nil => decide
  | cons x ks ih =>
    unfold bitsN
    rw [List.length_cons, Nat.pow_succ]
    cases x <;> simp <;> omega
theorem bitsN_inj : ∀ (a b : List Bool), a.length = b.length → bitsN a = bitsN b → a = b
  | [], [], _, _ => rfl
  | [], _ :: _, h, _ => by simp at h
  | _ :: _, [], h, _ => by simp at h
  | x :: a, y :: b, h, e => by
    unfold bitsN at e
    have e1 : x = y := by cases x <;> cases y <;> simp at e ⊢ <;> omega
    subst e1
    rw [bitsN_inj a b (by simpa using h) (by omega)]
/-- .. doubled set by set. -/
def refN (ks : List Bool) : Nat := ks.foldl (fun k b => 2 * k + if b then 1 else 0) 0
theorem refN_snoc (ks : List Bool) (b : Bool) : refN (ks ++ [b]) = 2 * refN ks + if b then 1 else 0 := by unfold refN; rw [List.foldl_append]; rfl
theorem refN_lt (ks : List Bool) : refN ks < 2 ^ ks.length := by
  induction ks using snoc_induct with
  | h0 => decide
  | h1 ks b ih =>
    rw [refN_snoc, List.length_append, List.length_singleton, Nat.pow_succ]
    cases b <;> simp <;> omega
theorem refN_inj (a : List Bool) : ∀ b, a.length = b.length → refN a = refN b → a = b := by
  induction a using snoc_induct with
  | h0 => intro b h _; exact (List.eq_nil_of_length_eq_zero h.symm).symm
  | h1 a x ih =>
    intro b h e
    rcases List.eq_nil_or_concat b with rfl | ⟨c, y, rfl⟩
    · simp at h
    · rw [List.concat_eq_append] at h e ⊢
      rw [refN_snoc, refN_snoc] at e
      have e1 : x = y := by cases x <;> cases y <;> simp at e ⊢ <;> omega
      subst e1
      rw [ih c (by simpa using h) (by omega)]

section
variable {κ : Type} [DecidableEq κ]
/-- The first keys are those of a front, and others. -/
theorem firsts_front (ks : List κ) : ∀ k, ∃ s, firsts ks = firsts (ks.take k) ++ s := by
  induction ks using snoc_induct with
  | h0 => intro k; exact ⟨[], by simp [firsts]⟩
  | h1 ks a ih =>
    intro k
    rcases Nat.lt_or_ge ks.length k with h | h
    · exact ⟨[], by rw [List.take_of_length_le (by simp; omega), List.append_nil]⟩
    · obtain ⟨s, e⟩ := ih k
      rw [List.take_append_of_le_length h, firsts_snoc]
      split
      · exact ⟨s, e⟩
      · exact ⟨s ++ [a], by rw [e, List.append_assoc]⟩
def cnt (ks : List κ) (k : Nat) : Nat := (firsts (ks.take k)).length
theorem cnt_zero (ks : List κ) : cnt ks 0 = 0 := rfl
theorem cnt_all (ks : List κ) (k : Nat) (h : ks.length ≤ k) : cnt ks k = (firsts ks).length := by unfold cnt; rw [List.take_of_length_le h]
theorem cnt_le (ks : List κ) (k : Nat) : cnt ks k ≤ (firsts ks).length := by
  obtain ⟨s, e⟩ := firsts_front ks k
  rw [e, List.length_append]; exact Nat.le_add_right _ _
theorem lets_len (ks : List κ) : (lets ks).length = ks.length := by simp [lets]
theorem lets_at (ks : List κ) (k : Nat) (hk : k < ks.length) : (lets ks).getD k 0 = ix (firsts ks) ks[k] := by
  have : k < (lets ks).length := by rw [lets_len]; exact hk
  rw [List.getD, List.getElem?_eq_getElem this]
  simp [lets]
/-- A letter is an elder one, or the next one. -/
theorem cnt_step (ks : List κ) (k : Nat) (hk : k < ks.length) : ((lets ks).getD k 0 = cnt ks k ∧ cnt ks (k + 1) = cnt ks k + 1) ∨ ((lets ks).getD k 0 < cnt ks k ∧ cnt ks (k + 1) = cnt ks k) := by
  rw [lets_at ks k hk]
  have e0 : ks.take (k + 1) = ks.take k ++ [ks[k]] := List.take_succ_eq_append_getElem hk
  obtain ⟨s, e⟩ := firsts_front ks (k + 1)
  have hm : ks[k] ∈ firsts (ks.take (k + 1)) := by rw [firsts_mem, e0]; exact List.mem_append.2 (.inr (List.mem_singleton.2 rfl))
  have e1 : ix (firsts ks) ks[k] = ix (firsts (ks.take (k + 1))) ks[k] := by rw [e, ix_append, if_pos hm]
  rw [e1]
  unfold cnt
  rw [e0, firsts_snoc]
  by_cases h : ks[k] ∈ firsts (ks.take k)
  · rw [if_pos h]; exact .inr ⟨ix_lt.2 h, rfl⟩
  · rw [if_neg h, ix_append, if_neg h, ix_self]; exact .inl ⟨Nat.zero_add _, by simp⟩
/-- A letter that was given has its key. -/
theorem lets_key (ks : List κ) (k : Nat) (hk : k < ks.length) (d : κ) : (firsts ks).getD ((lets ks).getD k 0) d = ks[k] := by
  rw [lets_at ks k hk]
  exact ix_getD ((firsts_mem _ _).2 (List.getElem_mem _))
theorem lets_lt (ks : List κ) (k : Nat) (hk : k < ks.length) : (lets ks).getD k 0 < (firsts ks).length := by
  rw [lets_at ks k hk]
  exact ix_lt.2 ((firsts_mem _ _).2 (List.getElem_mem _))
/-- Some function of a letter's key, for the letters that k keys have. -/
def rowAt (ks : List κ) (f : κ → Bool) (d : κ) (k : Nat) : List Bool := (List.range (firsts ks).length).map fun j => decide (j < cnt ks k) && f ((firsts ks).getD j d)
theorem rowAt_len (ks : List κ) (f : κ → Bool) (d : κ) (k : Nat) : (rowAt ks f d k).length = (firsts ks).length := by simp [rowAt]
theorem rowAt_zero (ks : List κ) (f : κ → Bool) (d : κ) : rowAt ks f d 0 = List.replicate (firsts ks).length false := by
  unfold rowAt
  rw [cnt_zero]
  apply List.ext_getElem
  · simp
  · intro i h1 h2; simp
theorem rowAt_step (ks : List κ) (f : κ → Bool) (d : κ) (k : Nat) (hk : k < ks.length) : (rowAt ks f d k).set ((lets ks).getD k 0) (f ks[k]) = rowAt ks f d (k + 1) := by
  have hkey := lets_key ks k hk d
  have hlt := lets_lt ks k hk
  apply List.ext_getElem
  · simp [rowAt]
  · intro i h1 h2
    have hi : i < (firsts ks).length := by simpa [rowAt] using h2
    have g : ∀ (m : Nat) (hh : i < (rowAt ks f d m).length), (rowAt ks f d m)[i]'hh = (decide (i < cnt ks m) && f ((firsts ks).getD i d)) := fun m hh => by simp [rowAt]
    rw [List.getElem_set, g, g]
    rcases cnt_step ks k hk with ⟨q1, q2⟩ | ⟨q1, q2⟩
    · split
      · rename_i e; subst e
        rw [hkey, q2, decide_eq_true (by omega), Bool.true_and]
      · rename_i e
        have : decide (i < cnt ks k) = decide (i < cnt ks (k + 1)) := by rw [decide_eq_decide]; omega
        rw [this]
    · rw [q2]
      split
      · rename_i e; subst e
        rw [hkey, decide_eq_true q1, Bool.true_and]
      · rfl
theorem rowAt_all (ks : List κ) (f : κ → Bool) (d : κ) (k : Nat) (h : ks.length ≤ k) : rowAt ks f d k = (firsts ks).map f := by
  unfold rowAt
  rw [cnt_all ks k h]
  apply List.ext_getElem
  · simp
  · intro i h1 h2
    have hi : i < (firsts ks).length := by simpa using h1
    simp [hi]
end

/-- A row without repeats within another one is no longer. -/
theorem nodup_le {α : Type} [DecidableEq α] : ∀ (a b : List α), a.Nodup → (∀ x ∈ a, x ∈ b) → a.length ≤ b.length
  | [], b, _, _ => Nat.zero_le _
  | x :: a, b, h, hs => by
    obtain ⟨h1, h2⟩ := List.nodup_cons.1 h
    have hx := hs x (by simp)
    have := nodup_le a (b.erase x) h2 fun y hy => (List.mem_erase_of_ne (fun e : y = x => h1 (by rw [← e]; exact hy))).2 (hs y (by simp [hy]))
    rw [List.length_erase_of_mem hx] at this
    have hb : 0 < b.length := List.length_pos_of_mem hx
    simp only [List.length_cons]
    omega

/-- The bound, and that two keys are the same. -/
def InN (n : Int) : Prop := 0 ≤ n ∧ n ≤ 1114111
theorem part_alike {s t : List (List (Int × Int))} (hs : RtAll s) (ht : RtAll t) (h : ∀ a b, InN a → InN b → (keyL s a = keyL s b ↔ keyL t a = keyL t b)) : cutsL s = cutsL t ∧ letsL s = letsL t := by
  have e : cutsL s = cutsL t := ((cutsL_is hs).alike fun n h0 h1 => h _ _ ⟨by omega, by omega⟩ ⟨h0, by omega⟩).unique (cutsL_is ht)
  refine ⟨e, ?_⟩
  unfold letsL keysL
  rw [← e]
  congr 1
  exact lets_alike' _ _ _ fun a ha b hb => h a b (cutsL_bd hs a ha) (cutsL_bd hs b hb)
theorem part_order {s t : List (List (Int × Int))} (hs : RtAll s) (h : ∀ l, l ∈ t ↔ l ∈ s) : cutsL s = cutsL t ∧ letsL s = letsL t :=
  part_alike hs (fun l hl => hs l ((h l).1 hl)) fun a b _ _ => by
    rw [keyL_eq, keyL_eq]
    exact ⟨fun g l hl => g l ((h l).1 hl), fun g l hl => g l ((h l).2 hl)⟩
theorem part_not {s : List (List (Int × Int))} (hs : RtAll s) (k : Nat) (hk : k < s.length) : cutsL s = cutsL (s.set k (notL (s.getD k []))) ∧ letsL s = letsL (s.set k (notL (s.getD k []))) := by
  have e : s.getD k [] = s[k] := by simp [List.getD, List.getElem?_eq_getElem hk]
  have hkr : Rt s[k] := hs _ (List.getElem_mem _)
  rw [e]
  have ht : RtAll (s.set k (notL s[k])) := fun l hl => by
    rcases List.mem_or_eq_of_mem_set hl with q | rfl
    · exact hs l q
    · exact notL_rt hkr
  refine part_alike hs ht fun a b ha hb => ?_
  unfold keyL
  rw [List.map_set, List.map_set]
  constructor
  · intro g
    have gk : decide (inS s[k] a) = decide (inS s[k] b) := by
      have := congrArg (fun l : List Bool => l[k]?) g
      simpa [List.getElem?_eq_getElem hk] using this
    rw [g]
    congr 1
    rw [decide_eq_decide] at gk ⊢
    rw [notL_in hkr, notL_in hkr, gk]
    exact ⟨fun q => ⟨hb.1, hb.2, q.2.2⟩, fun q => ⟨ha.1, ha.2, q.2.2⟩⟩
  · intro g
    apply List.ext_getElem?
    intro i
    by_cases hi : i = k
    · subst hi
      have := congrArg (fun l : List Bool => l[i]?) g
      simp only [List.getElem?_set, List.length_map, hk, if_true] at this
      simp only [Option.some.injEq, decide_eq_decide, notL_in hkr] at this
      simp only [List.getElem?_map, List.getElem?_eq_getElem hk, Option.map_some, Option.some.injEq, decide_eq_decide]
      constructor
      · intro q; exact Classical.byContradiction fun n => (this.2 ⟨hb.1, hb.2, n⟩).2.2 q
      · intro q; exact Classical.byContradiction fun n => (this.1 ⟨ha.1, ha.2, n⟩).2.2 q
    · have := congrArg (fun l : List Bool => l[i]?) g
      simpa only [List.getElem?_set, if_neg (Ne.symm hi)] using this
/-- With a set more. -/
theorem keyL_more {s : List (List (Int × Int))} {m : List (Int × Int)} {a b : Int} (h : keyL (s ++ [m]) a = keyL (s ++ [m]) b) : keyL s a = keyL s b := by
  rw [keyL_eq] at h ⊢
  exact fun l hl => h l (List.mem_append.2 (.inl hl))
theorem cuts_more {s : List (List (Int × Int))} {m : List (Int × Int)} (hs : RtAll s) (hm : Rt m) : (cutsL s).length ≤ (cutsL (s ++ [m])).length := by
  have ht : RtAll (s ++ [m]) := fun l hl => by
    rcases List.mem_append.1 hl with q | q
    · exact hs l q
    · obtain rfl : l = m := by simpa using q
      exact hm
  have h1 := cutsL_is hs
  have h2 := cutsL_is ht
  refine nodup_le _ _ (h1.1.imp fun {a b} (g : a < b) => by omega) fun x hx => (h2.2 x).2 ?_
  obtain ⟨g1, g2, g3⟩ := (h1.2 x).1 hx
  refine ⟨g1, g2, ?_⟩
  rcases g3 with g3 | g3
  · exact .inl g3
  · exact .inr fun e => g3 (keyL_more e)
theorem kinds_more {s : List (List (Int × Int))} {m : List (Int × Int)} (hs : RtAll s) (hm : Rt m) : (kindsL s).length ≤ (kindsL (s ++ [m])).length := by
  have ht : RtAll (s ++ [m]) := fun l hl => by
    rcases List.mem_append.1 hl with q | q
    · exact hs l q
    · obtain rfl : l = m := by simpa using q
      exact hm
  have e : ((kindsL (s ++ [m])).map List.dropLast).length = (kindsL (s ++ [m])).length := List.length_map _
  rw [← e]
  refine nodup_le _ _ (firsts_nodup _) fun x hx => ?_
  obtain ⟨c, hc, rfl⟩ := List.mem_map.1 ((firsts_mem _ _).1 hx)
  have hb := cutsL_bd hs c hc
  refine List.mem_map.2 ⟨_, kinds_mem ht c hb.1 hb.2, ?_⟩
  simp [keyL]

/-- Which letters a set has. -/
def inRow (ss : List (List (Int × Int))) (i : Nat) : List Bool := (kindsL ss).map fun k => k.getD i false
theorem keyL_at (ss : List (List (Int × Int))) (n : Int) (i : Nat) (hi : i < ss.length) : (keyL ss n).getD i false = decide (inS (ss.getD i []) n) := by
  simp [keyL, List.getD, List.getElem?_eq_getElem hi]
theorem inRow_at {ss : List (List (Int × Int))} (h : RtAll ss) (n : Int) (h0 : 0 ≤ n) (h1 : n ≤ 1114111) (i : Nat) (hi : i < ss.length) : (inRow ss i).getD (letOf ss n) false = decide (inS (ss.getD i []) n) := by
  rw [← keyL_at ss n i hi, ← letOf_kind h n h0 h1]
  have := letOf_lt h n h0 h1
  simp [inRow, List.getD, List.getElem?_eq_getElem this]
theorem inRow_len (ss : List (List (Int × Int))) (i : Nat) : (inRow ss i).length = (kindsL ss).length := by simp [inRow]
/-- No two letters are in the same sets. -/
theorem kind_len {ss : List (List (Int × Int))} (k : List Bool) (h : k ∈ kindsL ss) : k.length = ss.length := by
  obtain ⟨c, _, rfl⟩ := List.mem_map.1 ((firsts_mem _ _).1 h)
  exact keyL_len ss c
theorem letters_apart {ss : List (List (Int × Int))} (a b : Nat) (ha : a < (kindsL ss).length) (hb : b < a) : ∃ i, i < ss.length ∧ (inRow ss i).getD a false ≠ (inRow ss i).getD b false := by
  apply Classical.byContradiction
  intro hno
  have hnd : (kindsL ss).Nodup := firsts_nodup _
  refine (List.pairwise_iff_getElem.1 hnd b a (by omega) ha hb) ?_
  apply List.ext_getElem
  · rw [kind_len _ (List.getElem_mem _), kind_len _ (List.getElem_mem _)]
  · intro i h1 h2
    have hi : i < ss.length := by rw [kind_len _ (List.getElem_mem _)] at h1; exact h1
    apply Classical.byContradiction
    intro hne
    refine hno ⟨i, hi, ?_⟩
    have hb' : b < (kindsL ss).length := by omega
    intro e
    apply hne
    simpa [inRow, List.getD, List.getElem?_eq_getElem ha, List.getElem?_eq_getElem hb', List.getElem?_eq_getElem h1, List.getElem?_eq_getElem h2] using e.symm
/-- Neighbouring cuts have other letters. -/
theorem lets_next {ss : List (List (Int × Int))} (h : RtAll ss) (k : Nat) (hk : k + 1 < (cutsL ss).length) : (letsL ss).getD (k + 1) 0 ≠ (letsL ss).getD k 0 := by
  have hc := cutsL_is h
  have m1 : (cutsL ss).getD (k + 1) 0 ∈ cutsL ss := by simp [List.getD, List.getElem?_eq_getElem hk]
  have m0 : (cutsL ss).getD k 0 ∈ cutsL ss := by simp [List.getD, List.getElem?_eq_getElem (show k < (cutsL ss).length by omega)]
  have b1 := cutsL_bd h _ m1
  have b0 := cutsL_bd h _ m0
  have hlt := rising_lt hc.1 (show k < k + 1 by omega) hk
  rw [letsL_at ss _ hk, letsL_at ss _ (by omega)]
  intro e
  have e' : letOf ss ((cutsL ss).getD (k + 1) 0) = letOf ss ((cutsL ss).getD k 0) := by unfold letOf; omega
  rw [letOf_inj h _ _ b1.1 b1.2] at e'
  have hcut := (hc.2 _).1 m1
  rcases hcut.2.2 with g | g
  · omega
  · obtain ⟨j, q1, q2, q3, q4, q5⟩ := cut_of h ((cutsL ss).getD (k + 1) 0 - 1) (by omega) (by omega)
    have hj : j = k := by
      rcases Nat.lt_or_ge j k with p | p
      · have := q4 k p (by omega); omega
      · rcases Nat.lt_or_ge k j with p' | p'
        · have : (cutsL ss).getD (k + 1) 0 ≤ (cutsL ss).getD j 0 := by
            by_cases e2 : j = k + 1
            · rw [e2]; exact Int.le_refl _
            · exact Int.le_of_lt (rising_lt hc.1 (by omega) q2)
          omega
        · omega
    rw [hj] at q5
    rw [q5] at g
    exact g e'

end Go.Proofs.Ythbnhdocjnhhlaa
