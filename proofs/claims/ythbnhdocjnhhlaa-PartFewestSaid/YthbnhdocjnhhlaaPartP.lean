/- Plain mathematics of letters: where a key changes; letters numbered as they first come; what only hangs on which keys are the same. -/
import Derived.Lib.Hide
namespace Go.Proofs.Ythbnhdocjnhhlaa

section
variable {κ : Type}

/-- n is where the key changes, from 0 to the last number. -/
def CutAt (key : Int → κ) (n : Int) : Prop := 0 ≤ n ∧ n ≤ 1114111 ∧ (n = 0 ∨ key n ≠ key (n - 1))
/-- The cuts, rising. -/
def IsCuts (key : Int → κ) (c : List Int) : Prop := c.Pairwise (· < ·) ∧ ∀ n, n ∈ c ↔ CutAt key n
theorem rising_unique : ∀ (c d : List Int), c.Pairwise (· < ·) → d.Pairwise (· < ·) → (∀ n, n ∈ c ↔ n ∈ d) → c = d
  | [], [], _, _, _ => rfl
  | [], y :: d, _, _, h => absurd ((h y).2 List.mem_cons_self) (by simp)
  | x :: c, [], _, _, h => absurd ((h x).1 List.mem_cons_self) (by simp)
  | x :: c, y :: d, hc, hd, h => by
    obtain ⟨h1, h2⟩ := List.pairwise_cons.1 hc
    obtain ⟨g1, g2⟩ := List.pairwise_cons.1 hd
    have e : x = y := by
      have p := (h x).1 List.mem_cons_self
      have q := (h y).2 List.mem_cons_self
      rcases List.mem_cons.1 p with p | p
      · exact p
      · rcases List.mem_cons.1 q with q | q
        · exact q.symm
        · have := g1 x p; have := h1 y q; omega
    subst e
    congr 1
    refine rising_unique c d h2 g2 fun n => ?_
    constructor
    · intro hn
      have hlt := h1 n hn
      rcases List.mem_cons.1 ((h n).1 (List.mem_cons_of_mem _ hn)) with p | p
      · omega
      · exact p
    · intro hn
      have hlt := g1 n hn
      rcases List.mem_cons.1 ((h n).2 (List.mem_cons_of_mem _ hn)) with p | p
      · omega
      · exact p
theorem IsCuts.unique {key : Int → κ} {c d : List Int} (h : IsCuts key c) (h' : IsCuts key d) : c = d := rising_unique c d h.1 h'.1 fun n => by rw [h.2, h'.2]
/-- Cuts hang on which numbers are alike alone. -/
theorem IsCuts.alike {ρ : Type} {key : Int → κ} {key' : Int → ρ} {c : List Int} (h : IsCuts key c) (he : ∀ n, 0 ≤ n → n < 1114111 → (key (n + 1) = key n ↔ key' (n + 1) = key' n)) : IsCuts key' c := by
  refine ⟨h.1, fun n => ?_⟩
  rw [h.2]
  unfold CutAt
  constructor
  · rintro ⟨h1, h2, h3⟩
    refine ⟨h1, h2, ?_⟩
    rcases h3 with h3 | h3
    · exact .inl h3
    · by_cases h0 : n = 0
      · exact .inl h0
      · right; intro e
        have := he (n - 1) (by omega) (by omega)
        rw [show n - 1 + 1 = n by omega] at this
        exact h3 (this.2 e)
  · rintro ⟨h1, h2, h3⟩
    refine ⟨h1, h2, ?_⟩
    rcases h3 with h3 | h3
    · exact .inl h3
    · by_cases h0 : n = 0
      · exact .inl h0
      · right; intro e
        have := he (n - 1) (by omega) (by omega)
        rw [show n - 1 + 1 = n by omega] at this
        exact h3 (this.1 e)
/-- Between two cuts the key stays. -/
theorem key_stays (key : Int → κ) (a : Int) (h0 : 0 ≤ a) : ∀ (d : Nat), a + d ≤ 1114111 → (∀ n, a < n → n ≤ a + d → ¬ CutAt key n) → key (a + d) = key a
  | 0, _, _ => by simp
  | d + 1, hd, h => by
    have ih := key_stays key a h0 d (by omega) (fun n h1 h2 => h n h1 (by omega))
    have hn := h (a + (d + 1 : Nat)) (by omega) (Int.le_refl _)
    have : key (a + (d + 1 : Nat)) = key (a + (d + 1 : Nat) - 1) := by
      refine Classical.byContradiction fun hne => hn ⟨by omega, hd, .inr hne⟩
    rw [this, show a + ((d + 1 : Nat) : Int) - 1 = a + (d : Int) by omega, ih]

end
section
variable {κ : Type} [DecidableEq κ]
/-- The keys as they first come. -/
def firsts (ks : List κ) : List κ := ks.foldl (fun s k => if k ∈ s then s else s ++ [k]) []
theorem firsts_snoc (ks : List κ) (k : κ) : firsts (ks ++ [k]) = if k ∈ firsts ks then firsts ks else firsts ks ++ [k] := by
  unfold firsts; rw [List.foldl_append]; rfl
/-- The place of a key; the letters. -/
def ix (s : List κ) (k : κ) : Nat := s.idxOf k
def lets (ks : List κ) : List Nat := ks.map fun k => ix (firsts ks) k
theorem ix_append (s t : List κ) (k : κ) : ix (s ++ t) k = if k ∈ s then ix s k else ix t k + s.length := List.idxOf_append
theorem ix_lt {s : List κ} {k : κ} : ix s k < s.length ↔ k ∈ s := List.idxOf_lt_length_iff
theorem ix_self (k : κ) : ix [k] k = 0 := by simp [ix]
theorem ix_get {s : List κ} {k : κ} (h : k ∈ s) : s[ix s k]'(ix_lt.2 h) = k := List.getElem_idxOf _
theorem ix_getD {s : List κ} {k d : κ} (h : k ∈ s) : s.getD (ix s k) d = k := by
  rw [List.getD, List.getElem?_eq_getElem (ix_lt.2 h)]; exact ix_get h
theorem ix_of_nodup {s : List κ} (h : s.Nodup) (i : Nat) (hi : i < s.length) : ix s s[i] = i := by
  have h1 : s[i] ∈ s := List.getElem_mem _
  have h2 := ix_lt.2 h1
  apply Classical.byContradiction
  intro hne
  have e := ix_get h1
  rcases Nat.lt_or_gt_of_ne hne with g | g
  · exact (List.pairwise_iff_getElem.1 h _ _ h2 hi g) e
  · exact (List.pairwise_iff_getElem.1 h _ _ hi h2 g) e.symm
end

theorem snoc_induct {α : Type} {P : List α → Prop} (h0 : P []) (h1 : ∀ l a, P l → P (l ++ [a])) : ∀ l, P l := by
  intro l
  have : ∀ n (l : List α), l.length = n → P l := by
    intro n
    induction n with
    | zero => intro l hl; rw [List.eq_nil_of_length_eq_zero hl]; exact h0
    | succ n ih =>
      intro l hl
      rcases List.eq_nil_or_concat l with rfl | ⟨m, a, rfl⟩
      · simp at hl
      · rw [List.concat_eq_append] at hl ⊢
        exact h1 m a (ih m (by simpa using hl))
  exact this _ l rfl

section
variable {κ : Type} [DecidableEq κ]
theorem firsts_mem (ks : List κ) : ∀ k, k ∈ firsts ks ↔ k ∈ ks := by
  induction ks using snoc_induct with
  | h0 => intro k; simp [firsts]
  | h1 ks a ih =>
    intro k
    rw [firsts_snoc]
    split
    · rename_i h
      rw [ih, List.mem_append, List.mem_singleton]
      constructor
      · exact .inl
      · rintro (g | rfl)
        · exact g
        · exact (ih _).1 h
    · rw [List.mem_append, List.mem_append, ih]
theorem firsts_nodup (ks : List κ) : (firsts ks).Nodup := by
  induction ks using snoc_induct with
  | h0 => simp [firsts]
  | h1 ks a ih =>
    rw [firsts_snoc]
    split
    · exact ih
    · rename_i h
      rw [List.nodup_append]
      refine ⟨ih, by simp, ?_⟩
      intro x hx y hy e
      have : y = a := by simpa using hy
      subst this; subst e
      exact h hx
theorem firsts_idx_snoc (ks : List κ) (a k : κ) (h : k ∈ ks) : ix (firsts (ks ++ [a])) k = ix (firsts ks) k := by
  rw [firsts_snoc]
  split
  · rfl
  · rw [ix_append, if_pos ((firsts_mem ks k).2 h)]
theorem lets_snoc (ks : List κ) (k : κ) : lets (ks ++ [k]) = lets ks ++ [if k ∈ ks then ix (firsts ks) k else (firsts ks).length] := by
  unfold lets
  rw [List.map_append]
  congr 1
  · refine List.map_congr_left fun x hx => firsts_idx_snoc ks k x hx
  · simp only [List.map_cons, List.map_nil]
    congr 1
    split
    · rename_i h
      exact firsts_idx_snoc ks k k h
    · rename_i h
      rw [firsts_snoc, if_neg (fun g => h ((firsts_mem ks k).1 g)), ix_append, if_neg (fun g => h ((firsts_mem ks k).1 g)), ix_self, Nat.zero_add]
/-- Two have one letter just where they have one key. -/
theorem idx_inj {s : List κ} {a b : κ} (ha : a ∈ s) (h : ix s a = ix s b) : a = b := by
  have h1 := ix_lt.2 ha
  have hb : b ∈ s := ix_lt.1 (by omega)
  have e1 := ix_get ha
  have e2 := ix_get hb
  rw [← e1, ← e2]
  congr 1
/-- Letters hang on which keys are the same alone. -/
theorem lets_alike {α ρ : Type} [DecidableEq ρ] (f : α → κ) (g : α → ρ) (cs : List α) (h : ∀ a ∈ cs, ∀ b ∈ cs, f a = f b ↔ g a = g b) :
    (firsts (cs.map f)).length = (firsts (cs.map g)).length ∧ ∀ a ∈ cs, ix (firsts (cs.map f)) (f a) = ix (firsts (cs.map g)) (g a) := by
  induction cs using snoc_induct with
  | h0 => exact ⟨rfl, fun a ha => by cases ha⟩
  | h1 cs x ih =>
    obtain ⟨i1, i2⟩ := ih fun a ha b hb => h a (List.mem_append.2 (.inl ha)) b (List.mem_append.2 (.inl hb))
    have hiff : f x ∈ firsts (cs.map f) ↔ g x ∈ firsts (cs.map g) := by
      rw [firsts_mem, firsts_mem, List.mem_map, List.mem_map]
      constructor
      · rintro ⟨a, ha, e⟩; exact ⟨a, ha, (h a (List.mem_append.2 (.inl ha)) x (by simp)).1 e⟩
      · rintro ⟨a, ha, e⟩; exact ⟨a, ha, (h a (List.mem_append.2 (.inl ha)) x (by simp)).2 e⟩
    rw [List.map_append, List.map_append, List.map_cons, List.map_nil, List.map_cons, List.map_nil]
    constructor
    · rw [firsts_snoc, firsts_snoc]
      by_cases q : f x ∈ firsts (cs.map f)
      · rw [if_pos q, if_pos (hiff.1 q), i1]
      · rw [if_neg q, if_neg (fun e => q (hiff.2 e)), List.length_append, List.length_append, i1]; rfl
    · intro a ha
      have hold : ∀ b ∈ cs, ix (firsts (cs.map f ++ [f x])) (f b) = ix (firsts (cs.map g ++ [g x])) (g b) := fun b hb => by
        rw [firsts_idx_snoc _ _ _ (List.mem_map_of_mem hb), firsts_idx_snoc _ _ _ (List.mem_map_of_mem hb), i2 b hb]
      rcases List.mem_append.1 ha with ha' | ha'
      · exact hold a ha'
      · obtain rfl : a = x := by simpa using ha'
        by_cases q : f a ∈ firsts (cs.map f)
        · obtain ⟨b, hb, e⟩ := List.mem_map.1 ((firsts_mem _ _).1 q)
          have e' := (h b (List.mem_append.2 (.inl hb)) a (by simp)).1 e
          have := hold b hb
          rw [e, e'] at this
          exact this
        · have q' : g a ∉ firsts (cs.map g) := fun e => q (hiff.2 e)
          rw [firsts_snoc, firsts_snoc, if_neg q, if_neg q', ix_append, ix_append, if_neg q, if_neg q', ix_self, ix_self, i1]
theorem lets_alike' {α ρ : Type} [DecidableEq ρ] (f : α → κ) (g : α → ρ) (cs : List α) (h : ∀ a ∈ cs, ∀ b ∈ cs, f a = f b ↔ g a = g b) : lets (cs.map f) = lets (cs.map g) := by
  obtain ⟨_, h2⟩ := lets_alike f g cs h
  unfold lets
  rw [List.map_map, List.map_map]
  exact List.map_congr_left h2
end

end Go.Proofs.Ythbnhdocjnhhlaa
