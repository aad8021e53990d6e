/- Plain mathematics of machines: parts as the chapter makes them, round by round. -/
import Derived.Test.YtdcokkgdahbinaaVMiniP
set_option linter.unusedVariables false
set_option linter.unusedSimpArgs false
namespace Go.Proofs.Ytdcokkgdahbinaa
def labF (R : Nat -> Nat -> Bool) (n x : Nat) : Nat := ixN R (onceN R (List.range n)) x
section
variable {R : Nat -> Nat -> Bool}
theorem lab_any (hR : EqvN R) {n x : Nat} (hx : x < n) : (onceN R (List.range n)).any (fun u => R u x) = true := by
 rw [any_once hR]
 exact List.any_eq_true.2 ⟨x, List.mem_range.2 hx, hR.refl x⟩
theorem lab_congr (hR : EqvN R) {n x y : Nat} (h : R x y = true) : labF R n x = labF R n y := by
 unfold labF ixN
 congr 1
 funext u
 rw [Bool.eq_iff_iff]
 exact ⟨fun q => hR.trans _ _ _ q h, fun q => hR.trans _ _ _ q (hR.symm _ _ h)⟩
theorem lab_iff (hR : EqvN R) {n x y : Nat} (hx : x < n) (hy : y < n) : labF R n x = labF R n y ↔ R x y = true := by
 constructor
 ·intro e
  have key : ∀ z, z < n -> ∃ u, (onceN R (List.range n))[labF R n z]? = some u /\ R u z = true := fun z hz => by
   have ha := lab_any hR hz
   have hl : labF R n z < (onceN R (List.range n)).length := by
    obtain ⟨u, hu, e⟩ := List.any_eq_true.1 ha
    exact List.findIdx_lt_length_of_exists ⟨u, hu, e⟩
   exact ⟨_, List.getElem?_eq_getElem hl, List.findIdx_getElem (p := fun u => R u z) (w := hl)⟩
  obtain ⟨u, hu, e1⟩ := key x hx
  obtain ⟨v, hv, e2⟩ := key y hy
  rw [e, hv] at hu
  have : v = u := by simpa using hu
  subst this
  exact hR.trans _ _ _ (hR.symm _ _ e1) e2
 ·exact lab_congr hR
theorem once_range_pre (R : Nat -> Nat -> Bool) {i n : Nat} (h : i <= n) : ∃ s, onceN R (List.range n) = onceN R (List.range i) ++ s := by
 have e : List.range n = List.range i ++ (List.range n).drop i := by
  have := (List.take_append_drop i (List.range n)).symm
  rwa [List.take_range, Nat.min_eq_left h] at this
 rw [e]
 exact onceN_pre R _ _
theorem lab_pre (hR : EqvN R) {n i x : Nat} (hi : i <= n) (hx : x < i) : labF R n x = ixN R (onceN R (List.range i)) x := by
 obtain ⟨s, e⟩ := once_range_pre R hi
 unfold labF
 rw [e]
 have ha := lab_any hR hx
 unfold ixN
 have hlt : (onceN R (List.range i)).findIdx (fun u => R u x) < (onceN R (List.range i)).length := by
  obtain ⟨u, hu, e⟩ := List.any_eq_true.1 ha
  exact List.findIdx_lt_length_of_exists ⟨u, hu, e⟩
 rw [List.findIdx_append, if_pos hlt]
def labC (R : Nat -> Nat -> Bool) (i : Nat) : Nat := (onceN R (List.range i)).length
theorem lab_old (hR : EqvN R) {i k : Nat} (hk : k < i) (h : R k i = true) : labC R (i + 1) = labC R i := by
 unfold labC
 rw [List.range_succ, onceN_snoc]
 unfold addN
 rw [if_pos]
 rw [any_once hR]
 exact List.any_eq_true.2 ⟨k, List.mem_range.2 hk, h⟩
theorem lab_new (hR : EqvN R) {n i : Nat} (hi : i < n) (h : ∀ k, k < i -> R k i = false) : labF R n i = labC R i /\ labC R (i + 1) = labC R i + 1 := by
 have hno : ¬ (onceN R (List.range i)).any (fun u => R u i) = true := by
  rw [any_once hR]
  intro q
  obtain ⟨k, hk, e⟩ := List.any_eq_true.1 q
  rw [h k (List.mem_range.1 hk)] at e; cases e
 have e : onceN R (List.range (i + 1)) = onceN R (List.range i) ++ [i] := by
  rw [List.range_succ, onceN_snoc]
  unfold addN
  rw [if_neg hno]
 refine ⟨?_, by unfold labC; rw [e]; simp⟩
 rw [lab_pre hR (show i + 1 <= n by omega) (Nat.lt_succ_self i), e]
 unfold ixN labC
 have hn : (onceN R (List.range i)).findIdx (fun u => R u i) = (onceN R (List.range i)).length := by
  rw [List.findIdx_eq_length]
  intro x hx
  cases hE' : R x i with
  | false => rfl
  | true => exact absurd (List.any_eq_true.2 ⟨x, hx, hE'⟩) hno
 rw [List.findIdx_append, if_neg (by omega)]
 simp [List.findIdx_cons, hR.refl i]
theorem labC_le (R : Nat -> Nat -> Bool) (i : Nat) : labC R i <= i := by
 induction i with
 | zero => simp [labC, onceN]
 | succ i ih =>
   unfold labC at ih ⊢
   rw [List.range_succ, onceN_snoc]
   unfold addN
   split
   ·omega
   ·simp; omega
end
section
open Classical
variable {α : Type} {T : List (List Nat)} {k : Nat} {g : Nat -> α}
noncomputable def lvR (T : List (List Nat)) (k : Nat) (g : Nat -> α) (r x y : Nat) : Bool := decide (¬ LevN T k g r x y)
theorem lvR_iff {r x y : Nat} : lvR T k g r x y = true ↔ ¬ LevN T k g r x y := by unfold lvR; simp
theorem lvR_eqv (r : Nat) : EqvN (lvR T k g r) := ⟨fun x => by rw [lvR_iff, lev_not]; exact fun w a b => rfl, fun x y h => by rw [lvR_iff, lev_not] at h ⊢; exact fun w a b => (h w a b).symm, fun x y z h h' => by rw [lvR_iff, lev_not] at h h' ⊢; exact fun w a b => (h w a b).trans (h' w a b)⟩
theorem lvR_zero {x y : Nat} : lvR T k g 0 x y = true ↔ g x = g y := by
 rw [lvR_iff, lev_zero]
 exact ⟨fun h => Classical.byContradiction h, fun h q => q h⟩
theorem lvR_succ {r x y : Nat} : lvR T k g (r + 1) x y = true ↔ lvR T k g r x y = true /\ ∀ a, a < k -> lvR T k g r (trN T x a) (trN T y a) = true := by
 simp only [lvR_iff]
 constructor
 ·intro h
  exact ⟨fun q => h (q.mono (by omega)), fun a ha q => h (lev_succ.2 (.inr ⟨a, ha, q⟩))⟩
 ·rintro ⟨h1, h2⟩ q
  rcases lev_succ.1 q with q | ⟨a, ha, q⟩
  ·exact h1 ((lev_zero.2 q).mono (Nat.zero_le _))
  ·exact h2 a ha q
theorem lv_stable (hT : RectN T k) {q : Nat} (hs : ∀ x y, x < T.length -> y < T.length -> lvR T k g q x y = lvR T k g (q + 1) x y) {x y : Nat} (hx : x < T.length) (hy : y < T.length) : lvR T k g q x y = true ↔ AlikeN T k g x y := by
 have hs' : ∀ x y, x < T.length -> y < T.length -> LevN T k g (q + 1) x y -> LevN T k g q x y := fun x y hx hy h => Classical.byContradiction fun n => by
  have := hs x y hx hy
  rw [lvR_iff.2 n] at this
  exact lvR_iff.1 this.symm h
 have hall : ∀ d x y, x < T.length -> y < T.length -> LevN T k g (q + d) x y -> LevN T k g q x y := by
  intro d
  induction d with
  | zero => exact fun x y _ _ h => h
  | succ d ih =>
    intro x y hx hy h
    refine hs' x y hx hy ?_
    have h : LevN T k g (q + d + 1) x y := h
    rw [lev_succ] at h ⊢
    rcases h with h | ⟨a, ha, h⟩
    ·exact .inl h
    ·exact .inr ⟨a, ha, ih _ _ (hT.lt x a hx ha) (hT.lt y a hy ha) h⟩
 rw [lvR_iff]
 constructor
 ·intro h
  apply Classical.byContradiction
  intro n
  obtain ⟨r, hr⟩ := not_alike n
  exact h (hall r x y hx hy (hr.mono (by omega)))
 ·intro h q
  exact q.not_alike h
noncomputable def lvC (T : List (List Nat)) (k : Nat) (g : Nat -> α) (r : Nat) : Nat := cntN T.length (fun x y => lvR T k g r x y = true)
theorem lvC_le (r : Nat) : lvC T k g r <= T.length := cnt_le _ _
theorem lvC_lt {r : Nat} (h : ∃ x y, x < T.length /\ y < T.length /\ lvR T k g r x y ≠ lvR T k g (r + 1) x y) : lvC T k g r < lvC T k g (r + 1) := by
 refine cnt_lt (fun x y h => (lvR_eqv r).symm _ _ h) (fun x y z h h' => (lvR_eqv r).trans _ _ _ h h') (fun x y h => (lvR_eqv (r + 1)).symm _ _ h) (fun x y z h h' => (lvR_eqv (r + 1)).trans _ _ _ h h') (fun x => (lvR_eqv (r + 1)).refl x) (fun x y h => (lvR_succ.1 h).1) ?_
 obtain ⟨x, y, hx, hy, hne⟩ := h
 refine ⟨x, y, hx, hy, ?_⟩
 cases h1 : lvR T k g r x y with
 | true =>
   refine ⟨rfl, fun q => hne (by rw [h1, q])⟩
 | false =>
   refine absurd ?_ hne
   rw [h1]
   cases h2 : lvR T k g (r + 1) x y with
   | false => rfl
   | true => rw [(lvR_succ.1 h2).1] at h1; cases h1
theorem lab_same {R R' : Nat -> Nat -> Bool} (hR : EqvN R) (hR' : EqvN R') {n : Nat} : (∀ x, x < n -> labF R n x = labF R' n x) ↔ ∀ x y, x < n -> y < n -> R x y = R' x y := by
 constructor
 ·intro h x y hx hy
  rw [Bool.eq_iff_iff, <- lab_iff hR hx hy, <- lab_iff hR' hx hy, h x hx, h y hy]
 ·intro h x hx
  have hl : ∀ i, i <= n -> onceN R (List.range i) = onceN R' (List.range i) := by
   intro i
   induction i with
   | zero => intro _; rfl
   | succ i ih =>
     intro hi
     rw [List.range_succ, onceN_snoc, onceN_snoc, ih (by omega)]
     unfold addN
     have e : (onceN R' (List.range i)).any (fun u => R u i) = (onceN R' (List.range i)).any (fun u => R' u i) := by
      rw [Bool.eq_iff_iff, List.any_eq_true, List.any_eq_true]
      have hm : ∀ u ∈ onceN R' (List.range i), u < n := fun u hu => by
       have := List.mem_range.1 (onceN_sub R' _ u hu); omega
      constructor
      ·rintro ⟨u, hu, e⟩; exact ⟨u, hu, by rw [<- h u i (hm u hu) (by omega)]; exact e⟩
      ·rintro ⟨u, hu, e⟩; exact ⟨u, hu, by rw [h u i (hm u hu) (by omega)]; exact e⟩
     rw [e]
  unfold labF ixN
  rw [hl n (Nat.le_refl _)]
  have hm : ∀ u ∈ onceN R' (List.range n), u < n := fun u hu => List.mem_range.1 (onceN_sub R' _ u hu)
  generalize onceN R' (List.range n) = l at *
  clear hl
  induction l with
  | nil => rfl
  | cons u l ih =>
    rw [List.findIdx_cons, List.findIdx_cons, h u x (hm u (List.mem_cons_self ..)) hx, ih (fun v hv => hm v (List.mem_cons_of_mem _ hv))]
end
end Go.Proofs.Ytdcokkgdahbinaa
