/- Plain mathematics of letters: the cuts of some right sets; sorting and compacting the edges; the letter of a number. -/
import Derived.Test.YthbnhdocjnhhlaaPartP
import Derived.Test.YthbnhdocjnhhlaaSetN
import Derived.Lib.SlicesCompact
namespace Go.Proofs.Ythbnhdocjnhhlaa
open Go.Lib

/-- A rising row, compacted, rises strictly, and has the same numbers. -/
theorem compactUpTo_rising (d : Array Int) (hs : ∀ i j, i ≤ j → j < d.size → d[i]! ≤ d[j]!) : ∀ m, m ≤ d.size →
    (compactUpTo d m).Pairwise (· < ·) ∧ ∀ x, x ∈ compactUpTo d m ↔ ∃ j, j < m ∧ d[j]! = x := by
  intro m
  induction m with
  | zero => intro _; constructor
            · exact List.Pairwise.nil
            · intro x; constructor
              · intro h; cases h
              · rintro ⟨j, hj, _⟩; omega
  | succ m ih =>
    intro hm
    obtain ⟨i1, i2⟩ := ih (by omega)
    rw [compactUpTo_succ]
    by_cases hk : keeps d m = true
    · rw [if_pos hk]
      constructor
      · rw [List.pairwise_append]
        refine ⟨i1, by simp, ?_⟩
        intro a ha b hb
        obtain rfl : b = d[m]! := by simpa using hb
        obtain ⟨j, hj, rfl⟩ := (i2 a).1 ha
        have h1 := hs j (m - 1) (by omega) (by omega)
        have h2 := hs (m - 1) m (by omega) (by omega)
        have h3 : m = 0 ∨ d[m]! ≠ d[m - 1]! := by simpa [keeps] using hk
        rcases h3 with h3 | h3 <;> omega
      · intro x
        rw [List.mem_append, i2]
        constructor
        · rintro (⟨j, hj, rfl⟩ | h)
          · exact ⟨j, by omega, rfl⟩
          · exact ⟨m, by omega, (List.mem_singleton.1 h).symm⟩
        · rintro ⟨j, hj, rfl⟩
          by_cases e : j = m
          · subst e; right; simp
          · left; exact ⟨j, by omega, rfl⟩
    · rw [if_neg hk, List.append_nil]
      refine ⟨i1, fun x => ?_⟩
      rw [i2]
      have h3 : ¬ (m = 0 ∨ d[m]! ≠ d[m - 1]!) := by simpa [keeps] using hk
      constructor
      · rintro ⟨j, hj, rfl⟩; exact ⟨j, by omega, rfl⟩
      · rintro ⟨j, hj, rfl⟩
        by_cases e : j = m
        · subst e
          refine ⟨j - 1, by omega, ?_⟩
          by_cases g : d[j]! = d[j - 1]!
          · exact g.symm
          · exact absurd (Or.inr g) h3
        · exact ⟨j, by omega, rfl⟩

theorem compact_sorted (l : List Int) : (compact (l.mergeSort fun x y => decide (x ≤ y))).Pairwise (· < ·) ∧ ∀ x, x ∈ compact (l.mergeSort fun x y => decide (x ≤ y)) ↔ x ∈ l := by
  have hp := List.pairwise_mergeSort (le := fun x y : Int => decide (x ≤ y)) (by intro a b c; simp; omega) (by intro a b; simp; omega) l
  have hm : ∀ x, x ∈ l.mergeSort (fun x y => decide (x ≤ y)) ↔ x ∈ l := fun x => List.mem_mergeSort
  generalize l.mergeSort (fun x y => decide (x ≤ y)) = s at *
  have h := compactUpTo_rising s.toArray (fun i j hij hj => by
    have hj' : j < s.length := by simpa using hj
    rw [getElem!_pos s.toArray i (by simp; omega), getElem!_pos s.toArray j (by simpa using hj)]
    by_cases e : i = j
    · subst e; exact Int.le_refl _
    · have := List.pairwise_iff_getElem.1 hp i j (by omega) hj' (by omega)
      simpa using this) s.length (by simp)
  refine ⟨h.1, fun x => ?_⟩
  unfold compact
  rw [h.2, ← hm x]
  constructor
  · rintro ⟨j, hj, rfl⟩
    rw [getElem!_pos s.toArray j (by simpa using hj)]
    simp
  · intro hx
    obtain ⟨j, hj, rfl⟩ := List.getElem_of_mem hx
    refine ⟨j, hj, ?_⟩
    rw [getElem!_pos s.toArray j (by simpa using hj)]
    simp

/-- Which sets a number is in. -/
def keyL (ss : List (List (Int × Int))) (n : Int) : List Bool := ss.map fun l => decide (inS l n)
theorem keyL_len (ss : List (List (Int × Int))) (n : Int) : (keyL ss n).length = ss.length := by simp [keyL]
def RtAll (ss : List (List (Int × Int))) : Prop := ∀ l ∈ ss, Rt l
theorem keyL_eq {ss : List (List (Int × Int))} {a b : Int} : keyL ss a = keyL ss b ↔ ∀ l ∈ ss, (inS l a ↔ inS l b) := by
  unfold keyL
  rw [List.map_inj_left]
  constructor
  · intro h l hl; have := h l hl; simpa using this
  · intro h l hl; simpa using h l hl
theorem keyL_ne {ss : List (List (Int × Int))} {a b : Int} : keyL ss a ≠ keyL ss b ↔ ∃ l ∈ ss, ¬ (inS l a ↔ inS l b) := by
  rw [Ne, keyL_eq]
  constructor
  · intro h
    apply Classical.byContradiction
    intro g
    exact h fun l hl => Classical.byContradiction fun q => g ⟨l, hl, q⟩
  · rintro ⟨l, hl, g⟩ h; exact g (h l hl)

/-- Where one set may be begun, or left. -/
def edge1 (l : List (Int × Int)) : List Int := l.flatMap fun r => if r.2 < 1114111 then [r.1, r.2 + 1] else [r.1]
def edgesL (ss : List (List (Int × Int))) : List Int := 0 :: ss.flatMap edge1
def cutsL (ss : List (List (Int × Int))) : List Int := compact ((edgesL ss).mergeSort fun x y => decide (x ≤ y))

theorem edge1_mem (l : List (Int × Int)) (n : Int) : n ∈ edge1 l ↔ ∃ r ∈ l, n = r.1 ∨ (r.2 < 1114111 ∧ n = r.2 + 1) := by
  unfold edge1
  rw [List.mem_flatMap]
  constructor
  · rintro ⟨r, hr, h⟩
    refine ⟨r, hr, ?_⟩
    split at h
    · rcases List.mem_cons.1 h with h | h
      · exact .inl h
      · right; exact ⟨by assumption, by simpa using h⟩
    · left; simpa using h
  · rintro ⟨r, hr, h⟩
    refine ⟨r, hr, ?_⟩
    rcases h with h | ⟨h1, h2⟩
    · subst h; split <;> simp
    · rw [if_pos h1, h2]; simp
/-- In a right row the number ahead of a range, and the one behind it, are in none. -/
theorem RtFrom.gap {l : List (Int × Int)} : ∀ {lo : Int}, RtFrom lo l → ∀ r ∈ l, ¬ inS l (r.1 - 1) ∧ ¬ inS l (r.2 + 1) := by
  induction l with
  | nil => intro lo _ r hr; cases hr
  | cons x l ih =>
    intro lo h r hr
    obtain ⟨h1, h2, h3, h4⟩ := h
    rw [inS_cons, inS_cons]
    rcases List.mem_cons.1 hr with rfl | hr
    · constructor
      · rintro (g | g)
        · omega
        · have := h4.num g; omega
      · rintro (g | g)
        · omega
        · have := h4.num g; omega
    · have hm := h4.mem r hr
      obtain ⟨q1, q2⟩ := ih h4 r hr
      exact ⟨by rintro (g | g); omega; exact q1 g, by rintro (g | g); omega; exact q2 g⟩
theorem edge1_iff {l : List (Int × Int)} (h : Rt l) (n : Int) : n ∈ edge1 l ↔ 0 ≤ n ∧ n ≤ 1114111 ∧ ¬ (inS l n ↔ inS l (n - 1)) := by
  rw [edge1_mem]
  constructor
  · rintro ⟨r, hr, rfl | ⟨h1, rfl⟩⟩
    · have hm := RtFrom.mem h r hr
      obtain ⟨q1, q2⟩ := RtFrom.gap h r hr
      exact ⟨hm.1, by omega, fun e => q1 (e.1 ⟨r, hr, Int.le_refl _, hm.2.1⟩)⟩
    · have hm := RtFrom.mem h r hr
      obtain ⟨q1, q2⟩ := RtFrom.gap h r hr
      exact ⟨by omega, by omega, fun e => q2 (e.2 ⟨r, hr, by omega, by omega⟩)⟩
  · rintro ⟨h0, h1, h2⟩
    by_cases g : inS l n
    · obtain ⟨r, hr, g1, g2⟩ := g
      refine ⟨r, hr, .inl ?_⟩
      apply Classical.byContradiction
      intro hne
      exact h2 ⟨fun _ => ⟨r, hr, by omega, by omega⟩, fun _ => ⟨r, hr, g1, g2⟩⟩
    · have g' : inS l (n - 1) := Classical.byContradiction fun q => h2 ⟨fun h => absurd h g, fun h => absurd h q⟩
      obtain ⟨r, hr, g1, g2⟩ := g'
      have hlt : r.2 < n := by
        apply Classical.byContradiction
        intro hne
        exact g ⟨r, hr, by omega, by omega⟩
      exact ⟨r, hr, .inr ⟨by omega, by omega⟩⟩
theorem edges_iff {ss : List (List (Int × Int))} (h : RtAll ss) (n : Int) : n ∈ edgesL ss ↔ CutAt (keyL ss) n := by
  unfold edgesL CutAt
  rw [List.mem_cons, List.mem_flatMap, keyL_ne]
  constructor
  · rintro (rfl | ⟨l, hl, g⟩)
    · exact ⟨by omega, by omega, .inl rfl⟩
    · obtain ⟨g1, g2, g3⟩ := (edge1_iff (h l hl) n).1 g
      exact ⟨g1, g2, .inr ⟨l, hl, g3⟩⟩
  · rintro ⟨h1, h2, h3 | ⟨l, hl, g⟩⟩
    · exact .inl h3
    · exact .inr ⟨l, hl, (edge1_iff (h l hl) n).2 ⟨h1, h2, g⟩⟩
theorem cutsL_is {ss : List (List (Int × Int))} (h : RtAll ss) : IsCuts (keyL ss) (cutsL ss) := by
  obtain ⟨h1, h2⟩ := compact_sorted (edgesL ss)
  exact ⟨h1, fun n => by unfold cutsL; rw [h2, edges_iff h]⟩
/-- A strictly rising row of just the edges is it. -/
theorem cutsL_eq {ss : List (List (Int × Int))} {c : List Int} (h1 : c.Pairwise (· < ·)) (h2 : ∀ n, n ∈ c ↔ n ∈ edgesL ss) : c = cutsL ss := by
  obtain ⟨g1, g2⟩ := compact_sorted (edgesL ss)
  exact rising_unique _ _ h1 g1 fun n => by unfold cutsL; rw [g2, h2]

/-- The keys of the cuts; the letters; the letter of a number. -/
def keysL (ss : List (List (Int × Int))) : List (List Bool) := (cutsL ss).map (keyL ss)
def letsL (ss : List (List (Int × Int))) : List Int := (lets (keysL ss)).map fun (k : Nat) => (k : Int)
def kindsL (ss : List (List (Int × Int))) : List (List Bool) := firsts (keysL ss)
def letOf (ss : List (List (Int × Int))) (n : Int) : Nat := ix (kindsL ss) (keyL ss n)
def letAt (c l : List Int) (n : Int) : Int := l.getD ((c.countP fun x => decide (x ≤ n)) - 1) 0

theorem cutsL_zero {ss : List (List (Int × Int))} (h : RtAll ss) : 0 ∈ cutsL ss := ((cutsL_is h).2 0).2 ⟨by omega, by omega, .inl rfl⟩
theorem cutsL_bd {ss : List (List (Int × Int))} (h : RtAll ss) (n : Int) (hn : n ∈ cutsL ss) : 0 ≤ n ∧ n ≤ 1114111 := by
  have := ((cutsL_is h).2 n).1 hn; exact ⟨this.1, this.2.1⟩

/-- In a rising row those up to n are the first ones. -/
theorem rising_count {c : List Int} (h : c.Pairwise (· < ·)) (n : Int) : ∃ k : Nat, k = c.countP (fun x => decide (x ≤ n)) ∧ k ≤ c.length ∧ (∀ t, t < k → c.getD t 0 ≤ n) ∧ (∀ t, k ≤ t → t < c.length → n < c.getD t 0) := by
  induction c with
  | nil => exact ⟨0, rfl, Nat.le_refl _, fun t ht => absurd ht (Nat.not_lt_zero t), fun t _ ht => absurd ht (Nat.not_lt_zero t)⟩
  | cons x c ih =>
    obtain ⟨h1, h2⟩ := List.pairwise_cons.1 h
    obtain ⟨k, e, k1, k2, k3⟩ := ih h2
    by_cases hx : x ≤ n
    · refine ⟨k + 1, by rw [List.countP_cons_of_pos (by simpa using hx), ← e], by simp; omega, fun t ht => ?_, fun t ht htl => ?_⟩
      · cases t with
        | zero => exact hx
        | succ t => rw [List.getD_cons_succ]; exact k2 t (by omega)
      · cases t with
        | zero => omega
        | succ t => rw [List.getD_cons_succ]; exact k3 t (by omega) (by simpa using htl)
    · have hall : ∀ y ∈ c, ¬ y ≤ n := fun y hy => by have := h1 y hy; omega
      refine ⟨0, ?_, Nat.zero_le _, fun t ht => absurd ht (Nat.not_lt_zero t), fun t _ htl => ?_⟩
      · rw [List.countP_cons_of_neg (by simpa using hx), List.countP_eq_zero.2 (fun y hy => by simpa using hall y hy)]
      · cases t with
        | zero => simp only [List.getD_cons_zero]; omega
        | succ t =>
          rw [List.getD_cons_succ]
          have ht : t < c.length := by simpa using htl
          have e2 : c.getD t 0 = c[t] := by simp [List.getD, List.getElem?_eq_getElem ht]
          have := hall c[t] (List.getElem_mem _)
          omega

theorem rising_lt {c : List Int} (h : c.Pairwise (· < ·)) {i j : Nat} (hij : i < j) (hj : j < c.length) : c.getD i 0 < c.getD j 0 := by
  have e1 : c.getD i 0 = c[i]'(by omega) := by simp [List.getD, List.getElem?_eq_getElem (show i < c.length by omega)]
  have e2 : c.getD j 0 = c[j] := by simp [List.getD, List.getElem?_eq_getElem hj]
  rw [e1, e2]
  exact List.pairwise_iff_getElem.1 h i j (by omega) hj hij

/-- From 0 to the last number: the cut of a number, whose key is the number's. -/
theorem cut_of {ss : List (List (Int × Int))} (h : RtAll ss) (n : Int) (h0 : 0 ≤ n) (h1 : n ≤ 1114111) :
    ∃ k : Nat, (cutsL ss).countP (fun x => decide (x ≤ n)) = k + 1 ∧ k < (cutsL ss).length ∧ (cutsL ss).getD k 0 ≤ n ∧ (∀ t, k < t → t < (cutsL ss).length → n < (cutsL ss).getD t 0) ∧ keyL ss n = keyL ss ((cutsL ss).getD k 0) := by
  have hc := cutsL_is h
  obtain ⟨k, e, k1, k2, k3⟩ := rising_count hc.1 n
  have hz := cutsL_zero h
  have hk : k ≠ 0 := by
    rintro rfl
    obtain ⟨j, hj, ej⟩ := List.getElem_of_mem hz
    have := k3 j (Nat.zero_le _) hj
    have e2 : (cutsL ss).getD j 0 = (cutsL ss)[j] := by simp [List.getD, List.getElem?_eq_getElem hj]
    rw [e2, ej] at this
    omega
  obtain ⟨k, rfl⟩ : ∃ j, k = j + 1 := ⟨k - 1, by omega⟩
  refine ⟨k, e.symm, by omega, k2 k (by omega), fun t ht htl => k3 t (by omega) htl, ?_⟩
  have e2 : (cutsL ss).getD k 0 = (cutsL ss)[k]'(by omega) := by simp [List.getD, List.getElem?_eq_getElem (show k < (cutsL ss).length by omega)]
  have hbd := cutsL_bd h ((cutsL ss).getD k 0) (by rw [e2]; exact List.getElem_mem _)
  have hle := k2 k (by omega)
  have := key_stays (keyL ss) ((cutsL ss).getD k 0) hbd.1 (n - (cutsL ss).getD k 0).toNat (by omega) (fun m hm1 hm2 hcut => by
    have hm := (hc.2 m).2 hcut
    obtain ⟨j, hj, ej⟩ := List.getElem_of_mem hm
    have e3 : (cutsL ss).getD j 0 = m := by rw [← ej]; simp [List.getD, List.getElem?_eq_getElem hj]
    rcases Nat.lt_or_ge k j with g | g
    · have := k3 j (by omega) hj; omega
    · rcases Nat.lt_or_ge j k with g' | g'
      · have := rising_lt hc.1 g' (by omega); omega
      · have : j = k := by omega
        subst this; omega)
  rw [← this]
  congr 1; omega

theorem kinds_mem {ss : List (List (Int × Int))} (h : RtAll ss) (n : Int) (h0 : 0 ≤ n) (h1 : n ≤ 1114111) : keyL ss n ∈ kindsL ss := by
  obtain ⟨k, _, k1, _, _, k4⟩ := cut_of h n h0 h1
  unfold kindsL keysL
  rw [firsts_mem, k4]
  refine List.mem_map_of_mem ?_
  have e2 : (cutsL ss).getD k 0 = (cutsL ss)[k] := by simp [List.getD, List.getElem?_eq_getElem k1]
  rw [e2]; exact List.getElem_mem _
theorem letsL_len (ss : List (List (Int × Int))) : (letsL ss).length = (cutsL ss).length := by simp [letsL, lets, keysL]
theorem letsL_at (ss : List (List (Int × Int))) (k : Nat) (hk : k < (cutsL ss).length) : (letsL ss).getD k 0 = (ix (kindsL ss) (keyL ss ((cutsL ss).getD k 0)) : Nat) := by
  have hk' : k < (letsL ss).length := by rw [letsL_len]; exact hk
  have e1 : (letsL ss).getD k 0 = (letsL ss)[k] := by simp [List.getD, List.getElem?_eq_getElem hk']
  have e2 : (cutsL ss).getD k 0 = (cutsL ss)[k] := by simp [List.getD, List.getElem?_eq_getElem hk]
  rw [e1, e2]
  simp [letsL, lets, keysL, kindsL]
/-- What Letter tells is the letter of the number's key. -/
theorem letAt_is {ss : List (List (Int × Int))} (h : RtAll ss) (n : Int) (h0 : 0 ≤ n) (h1 : n ≤ 1114111) : letAt (cutsL ss) (letsL ss) n = (letOf ss n : Nat) := by
  obtain ⟨k, e, k1, _, _, k4⟩ := cut_of h n h0 h1
  unfold letAt letOf
  rw [e, Nat.add_sub_cancel, letsL_at ss k k1, k4]
theorem letOf_lt {ss : List (List (Int × Int))} (h : RtAll ss) (n : Int) (h0 : 0 ≤ n) (h1 : n ≤ 1114111) : letOf ss n < (kindsL ss).length :=
  ix_lt.2 (kinds_mem h n h0 h1)
theorem letOf_inj {ss : List (List (Int × Int))} (h : RtAll ss) (a b : Int) (a0 : 0 ≤ a) (a1 : a ≤ 1114111) : letOf ss a = letOf ss b ↔ keyL ss a = keyL ss b :=
  ⟨fun e => idx_inj (kinds_mem h a a0 a1) e, fun e => by unfold letOf; rw [e]⟩
theorem letOf_kind {ss : List (List (Int × Int))} (h : RtAll ss) (n : Int) (h0 : 0 ≤ n) (h1 : n ≤ 1114111) : (kindsL ss).getD (letOf ss n) [] = keyL ss n := ix_getD (kinds_mem h n h0 h1)

end Go.Proofs.Ythbnhdocjnhhlaa
