/- Groups of states: plain, and in memory. told of a Back. mini.Back, of a machine. -/
import Derived.Test.YtacgakkcpmhgmaaVMiniG
import Derived.Maps.OwnSet
set_option linter.unusedVariables false
set_option linter.unusedSimpArgs false
namespace Go.Proofs.Ytacgakkcpmhgmaa
open Go Go.RowKit Go.Proofs
open Go.Maps (Keyed Tidy)
section
variable {κ : Type} [DecidableEq κ]
def keysG (g : Nat -> κ) : Nat -> List κ
 | 0 => []
 | j + 1 => if g j ∈ keysG g j then keysG g j else keysG g j ++ [g j]
def grpG (g : Nat -> κ) (j : Nat) : List (List Nat) := (keysG g j).map fun q => (List.range j).filter fun x => decide (g x = q)
def ixG (ks : List κ) (x : κ) : Nat := ks.idxOf x
theorem ixG_new {ks : List κ} {x : κ} (h : x ∉ ks) : ixG (ks ++ [x]) x = ks.length := by unfold ixG; rw [List.idxOf_append, if_neg h]; simp
theorem keysG_in {g : Nat -> κ} {j : Nat} {x : κ} (e : g j = x) (h : x ∈ keysG g j) : keysG g (j + 1) = keysG g j := by subst e; exact if_pos h
theorem keysG_new {g : Nat -> κ} {j : Nat} {x : κ} (e : g j = x) (h : x ∉ keysG g j) : keysG g (j + 1) = keysG g j ++ [x] := by subst e; exact if_neg h
theorem keysG_mem (g : Nat -> κ) (q : κ) : ∀ j, q ∈ keysG g j ↔ ∃ x, x < j /\ g x = q
 | 0 => by simp [keysG]
 | j + 1 => by
   have ih := keysG_mem g q j
   unfold keysG
   split
   ·rename_i h
    rw [ih]
    constructor
    ·rintro ⟨x, hx, e⟩; exact ⟨x, by omega, e⟩
    ·rintro ⟨x, hx, e⟩
     rcases Nat.lt_or_ge x j with r | r
     ·exact ⟨x, r, e⟩
     ·have : x = j := by omega
      subst this
      rw [<- ih, <- e]; exact h
   ·rw [List.mem_append, ih, List.mem_singleton]
    constructor
    ·rintro (⟨x, hx, e⟩ | e)
     ·exact ⟨x, by omega, e⟩
     ·exact ⟨j, by omega, e.symm⟩
    ·rintro ⟨x, hx, e⟩
     rcases Nat.lt_or_ge x j with r | r
     ·exact .inl ⟨x, r, e⟩
     ·have : x = j := by omega
      subst this
      exact .inr e.symm
theorem keysG_nodup (g : Nat -> κ) : ∀ j, (keysG g j).Nodup
 | 0 => List.nodup_nil
 | j + 1 => by
   unfold keysG
   split
   ·exact keysG_nodup g j
   ·rename_i h
    exact List.nodup_append.2 ⟨keysG_nodup g j, by simp, fun a ha b hb e => by
     have : b = g j := by simpa using hb
     subst this; subst e; exact h ha⟩
theorem keysG_len (g : Nat -> κ) : ∀ j, (keysG g j).length <= j
 | 0 => Nat.le_refl _
 | j + 1 => by
   have := keysG_len g j
   unfold keysG
   split
   ·omega
   ·simp; omega
theorem grpG_len (g : Nat -> κ) (j : Nat) : (grpG g j).length = (keysG g j).length := by simp [grpG]
theorem grpG_get (g : Nat -> κ) (j : Nat) {i : Nat} (h : i < (keysG g j).length) : (grpG g j).getD i [] = (List.range j).filter fun x => decide (g x = (keysG g j)[i]) := by
 simp [grpG, List.getD, h]
theorem grpG_row (g : Nat -> κ) (j i : Nat) : ((grpG g j).getD i []).Nodup /\ ∀ x ∈ (grpG g j).getD i [], x < j := by
 rcases Nat.lt_or_ge i (keysG g j).length with h | h
 ·rw [grpG_get g j h]
  exact ⟨List.Pairwise.filter _ List.nodup_range, fun x hx => List.mem_range.1 (List.mem_filter.1 hx).1⟩
 ·rw [List.getD_eq_getElem?_getD, List.getElem?_eq_none (by rw [grpG_len]; exact h)]
  exact ⟨List.nodup_nil, fun x hx => by simp at hx⟩
theorem grpG_of (g : Nat -> κ) (n : Nat) : GroupsOf n g (grpG g n) := by
 intro x y hx hy
 rw [grpG_len]
 constructor
 ·intro h
  have hm : g x ∈ keysG g n := (keysG_mem g _ n).2 ⟨x, hx, rfl⟩
  obtain ⟨i, hi, e⟩ := List.getElem_of_mem hm
  have := (h i hi).1 (by rw [grpG_get g n hi]; exact List.mem_filter.2 ⟨List.mem_range.2 hx, by simpa using e.symm⟩)
  rw [grpG_get g n hi] at this
  have h2 := (List.mem_filter.1 this).2
  have h3 : g y = (keysG g n)[i] := by simpa using h2
  rw [h3, e]
 ·intro e i hi
  rw [grpG_get g n hi, List.mem_filter, List.mem_filter, List.mem_range, List.mem_range, e]
  simp [hx, hy]
def grpH (g : Nat -> κ) (j : Nat) : List (List Nat) := if g j ∈ keysG g j then grpG g j else grpG g j ++ [[]]
theorem grpH_in {g : Nat -> κ} {j : Nat} {x : κ} (e : g j = x) (h : x ∈ keysG g j) : grpH g j = grpG g j := by subst e; exact if_pos h
theorem grpH_new {g : Nat -> κ} {j : Nat} {x : κ} (e : g j = x) (h : x ∉ keysG g j) : grpH g j = grpG g j ++ [[]] := by subst e; exact if_neg h
theorem grpH_step (g : Nat -> κ) (j : Nat) : ixG (keysG g (j + 1)) (g j) < (grpH g j).length /\ grpG g (j + 1) = (grpH g j).set (ixG (keysG g (j + 1)) (g j)) ((grpH g j).getD (ixG (keysG g (j + 1)) (g j)) [] ++ [j]) /\ (keysG g (j + 1)).length = (grpH g j).length := by
 unfold ixG
 have hmem : g j ∈ keysG g (j + 1) := (keysG_mem g _ _).2 ⟨j, by omega, rfl⟩
 have hlen : (keysG g (j + 1)).length = (grpH g j).length := by
  unfold grpH
  show (if g j ∈ keysG g j then keysG g j else keysG g j ++ [g j]).length = _
  split <;> simp [grpG_len]
 have hlt : (keysG g (j + 1)).idxOf (g j) < (grpH g j).length := by rw [<- hlen]; exact List.idxOf_lt_length_iff.2 hmem
 refine ⟨hlt, ?_, hlen⟩
 have hget : (keysG g (j + 1))[(keysG g (j + 1)).idxOf (g j)]'(List.idxOf_lt_length_iff.2 hmem) = g j := List.getElem_idxOf _
 have hnd := keysG_nodup g (j + 1)
 have hH : ∀ i (hi : i < (keysG g (j + 1)).length), (grpH g j).getD i [] = (List.range j).filter fun x => decide (g x = (keysG g (j + 1))[i]) := by
  intro i hi
  unfold grpH
  by_cases h : g j ∈ keysG g j
  ·have e : keysG g (j + 1) = keysG g j := if_pos h
   rw [if_pos h]
   simp only [e] at hi ⊢
   exact grpG_get g j hi
  ·have e : keysG g (j + 1) = keysG g j ++ [g j] := if_neg h
   rw [if_neg h]
   simp only [e] at hi ⊢
   rcases Nat.lt_or_ge i (keysG g j).length with q | q
   ·rw [List.getElem_append_left q, <- grpG_get g j q]
    simp [List.getD, List.getElem?_append_left (show i < (grpG g j).length by rw [grpG_len]; exact q)]
   ·have hi2 : i = (keysG g j).length := by simp at hi; omega
    subst hi2
    have e1 : (keysG g j ++ [g j])[(keysG g j).length]'hi = g j := by simp
    rw [e1]
    have e2 : (List.range j).filter (fun x => decide (g x = g j)) = [] := by
     rw [List.filter_eq_nil_iff]
     intro x hx q
     exact h ((keysG_mem g _ _).2 ⟨x, List.mem_range.1 hx, by simpa using q⟩)
    rw [e2]
    simp [List.getD, grpG_len]
 apply List.ext_getElem?
 intro i
 rw [List.getElem?_set]
 by_cases hi : i < (keysG g (j + 1)).length
 ·have h1 : (grpG g (j + 1))[i]? = some ((List.range (j + 1)).filter fun x => decide (g x = (keysG g (j + 1))[i])) := by
   simp [grpG, hi]
  have h2 : (grpH g j)[i]? = some ((List.range j).filter fun x => decide (g x = (keysG g (j + 1))[i])) := by
   have := hH i hi
   rw [List.getD_eq_getElem?_getD, List.getElem?_eq_getElem (by rw [<- hlen]; exact hi)] at this
   rw [List.getElem?_eq_getElem (by rw [<- hlen]; exact hi)]
   simpa using this
  rw [h1, List.range_succ, List.filter_append]
  by_cases e : (keysG g (j + 1)).idxOf (g j) = i
  ·rw [if_pos e, if_pos hlt]
   subst e
   congr 1
   rw [hH _ (List.idxOf_lt_length_iff.2 hmem), hget]
   simp
  ·rw [if_neg e, h2]
   have : ¬ g j = (keysG g (j + 1))[i] := fun q => e (by
    apply Classical.byContradiction
    intro hne
    have h3 := List.idxOf_lt_length_iff.2 hmem
    rcases Nat.lt_or_gt_of_ne hne with r | r
    ·exact (List.pairwise_iff_getElem.1 hnd _ _ h3 hi r) (by rw [hget, q])
    ·exact (List.pairwise_iff_getElem.1 hnd _ _ hi h3 r) (by rw [hget, q]))
   simp [this]
 ·have h1 : (grpG g (j + 1))[i]? = none := List.getElem?_eq_none (by rw [grpG_len]; omega)
  have h2 : (grpH g j)[i]? = none := List.getElem?_eq_none (by rw [<- hlen]; omega)
  have h3 : (keysG g (j + 1)).idxOf (g j) ≠ i := fun e => by have := List.idxOf_lt_length_iff.2 hmem; omega
  rw [h1, if_neg h3, h2]
def MapK (kl : κ -> Lit) (D : DataW Unit) (ks : List κ) : Prop :=
 Tidy D /\ ∀ x : κ, Maps.has D (kl x) = decide (x ∈ ks) /\ (x ∈ ks -> D.atKey (kl x) (.lit (.int .i64 0)) = .lit (.int .i64 (ixG ks x : Nat)))
theorem MapK.nil (kl : κ -> Lit) : MapK kl (.map []) [] := ⟨Maps.tidy_empty, fun j => ⟨rfl, fun h => by cases h⟩⟩
theorem MapK.put {kl : κ -> Lit} {D : DataW Unit} {ks : List κ} (h : MapK kl D ks) (hk : ∀ x, WideAt.IsKeyLit (kl x)) (hinj : ∀ x y, kl x = kl y -> x = y) (x : κ) (hx : x ∉ ks) : MapK kl (D.put (kl x) (.lit (.int .i64 (ks.length : Nat)))) (ks ++ [x]) := by
 obtain ⟨h1, h3⟩ := h
 refine ⟨h1.put (hk x) _, fun y => ?_⟩
 by_cases e : y = x
 ·subst e
  constructor
  ·rw [Maps.has_put_same h1.isMap (hk y)]; simp
  ·intro _
   rw [Maps.atKey_put_same h1.isMap (hk y), ixG_new hx]
 ·have hne : kl y ≠ kl x := fun q => e (hinj _ _ q)
  constructor
  ·rw [Maps.has_put_other hne, (h3 y).1, decide_eq_decide]; simp [e]
  ·intro hy
   have hy' : y ∈ ks := by simpa [e] using hy
   rw [Maps.atKey_put_other hne, (h3 y).2 hy']; unfold ixG; rw [List.idxOf_append, if_pos hy']
end
abbrev MapAtK (w : World) (kt : TypeId) (b n : Nat) (D : DataW Unit) : Prop := w.ownsMap Try.prog kt (plainElem Try.prog 3) b n D
theorem MapAtK.fr {w w' : World} {X : Nat -> Prop} {kt : TypeId} {b n : Nat} {D : DataW Unit} (h : MapAtK w kt b n D) (hf : Fr X w w') (hb : ¬ X b) : MapAtK w' kt b n D := by
 obtain ⟨es, clock, hh, r⟩ := h
 exact ⟨es, clock, by rw [hf.block b (Array.getElem?_eq_some_iff.1 hh).1 hb]; exact hh, r⟩
theorem MapAtK.lt {w : World} {kt : TypeId} {b n : Nat} {D : DataW Unit} (h : MapAtK w kt b n D) : b < w.heap.size := by
 obtain ⟨es, clock, hh, r⟩ := h
 exact (Array.getElem?_eq_some_iff.1 hh).1
section
variable {H : Type} {P : Program} {w : World} {ops : Array Oper} {rest : List Oper} {o : Oper} {a : Act} {Q : Exit -> Act -> World -> Prop}
theorem lookup_known (hg : o.guard = none) (m x : Operand) (t : TypeId) (hop : o.op = Op.lookup t m x true)
  (k e : TypeId) (q : IntKind) (K : Keyed P k) (ht : P.underlying t = some (.map k e)) (he : P.underlying e = some (.int q)) (hz : (zeroValue e).run P w = .ok (.int q 0) w) (b n : Nat) (D : DataW H)
  (hm : a.eval m = .map (some b)) (hown : w.ownsMap P k (plainElem P e) b n D) (key : Value) (kl : Lit) (hx : a.eval x = key) (hkey : keyOf P k key = some kl) (z : Int) (hat : D.atKey kl (.lit (.int q 0)) = .lit (.int q z))
  (hK : wpList P ops Q rest (a.put o.dst (.tuple #[.int q z, .bool (Maps.has D kl)])) w) : wpList P ops Q (o :: rest) a w :=
  wpList_lookup_own_ok_int w hg m x t hop k e q K ht he hz b n D hm hown key kl hx hkey (fun c h1 _ => by
   have : c = z := by rw [hat] at h1; simpa using h1.symm
   subst this; exact hK)
end
structure GrAt (w : World) (B : Nat) (v : Value) (m : Nat) (vals : List Value) (Gs : List (List Nat)) : Prop where
 row : w.ownsRow B 22 1 v m vals
 lv : vals.length = m
 lg : Gs.length = m
 own : ∀ i, i < m -> Own w B (vals.getD i undef) (Gs.getD i []).length (intsN (Gs.getD i []))
 ap : ∀ i j, i < m -> j < m -> i ≠ j -> Apart (vals.getD i undef) (vals.getD j undef)
section
variable {w w' V : World} {B m : Nat} {v : Value} {vals : List Value} {Gs : List (List Nat)}
theorem GrAt.nil (w : World) (B : Nat) : GrAt w B (.slice none 0 0) 0 [] [] := ⟨World.ownsRow_nil _ _ _ _, rfl, rfl, fun i h => by omega, fun i j h => by omega⟩
theorem GrAt.fr {X : Nat -> Prop} (h : GrAt w B v m vals Gs) (hf : Fr X w w') (hX : ∀ q, B <= q -> ¬ X q) : GrAt w' B v m vals Gs := by
 refine ⟨?_, h.lv, h.lg, fun i hi => hf.own (h.own i hi) (fun q hq => hX q ((h.own i hi).lt q hq).1), h.ap⟩
 have hlt := h.row.lt
 obtain ⟨h1, h2⟩ := h.row
 refine ⟨h1, ?_⟩
 rcases h2 with h2 | ⟨g, cap, cur, rfl, hg, hh, r⟩
 ·exact .inl h2
 ·exact .inr ⟨g, cap, cur, rfl, hg, by rw [hf.block g (hlt g rfl).2 (hX g hg)]; exact hh, r⟩
theorem GrAt.bel (h : GrAt w B v m vals Gs) (hb : Below w.heap.size w w') : GrAt w' B v m vals Gs := h.fr (Fr.of_below (X := fun _ => False) hb) (fun _ _ => id)
theorem GrAt.sep (h : GrAt w B v m vals Gs) {i : Nat} (hi : i < m) : ∀ q, (vals.getD i undef).ownBlock = some q -> v.ownBlock ≠ some q := rows_ne (h.own i hi) h.row (by decide)
theorem GrAt.push (h : GrAt w B v m vals Gs) {g cap : Nat} (ho : w'.ownsRow B 22 1 (sl g (m + 1) cap) (m + 1) (vals ++ [.slice none 0 0])) (hg : w.grownBy w' v.ownBlock) : GrAt w' B (sl g (m + 1) cap) (m + 1) (vals ++ [.slice none 0 0]) (Gs ++ [[]]) := by
 have hl := h.lv; have hgl := h.lg
 have e1 : ∀ i, i < m -> (vals ++ [Value.slice none 0 0]).getD i undef = vals.getD i undef := fun i hi => by simp [List.getD, List.getElem?_append_left (show i < vals.length by omega)]
 have e2 : ∀ i, i < m -> (Gs ++ [[]]).getD i [] = Gs.getD i [] := fun i hi => by simp [List.getD, List.getElem?_append_left (show i < Gs.length by omega)]
 have e3 : (vals ++ [Value.slice none 0 0]).getD m undef = .slice none 0 0 := by simp [List.getD, <- hl]
 have e4 : (Gs ++ [[]]).getD m [] = [] := by simp [List.getD, <- hgl]
 refine ⟨ho, by simp [hl], by simp [hgl], fun i hi => ?_, fun i j hi hj hne => ?_⟩
 ·rcases Nat.lt_or_ge i m with q | q
  ·rw [e1 i q, e2 i q]
   exact (h.own i q).kept hg (by
    cases hb : (vals.getD i undef).ownBlock with
    | none => exact .inl rfl
    | some r => exact .inr (fun e => h.sep q r hb e.symm))
  ·have : i = m := by omega
   subst this
   rw [e3, e4]
   exact Own.nil _ _
 ·rcases Nat.lt_or_ge i m with q | q
  ·rcases Nat.lt_or_ge j m with r | r
   ·rw [e1 i q, e1 j r]; exact h.ap i j q r hne
   ·have : j = m := by omega
    subst this
    rw [e3]; exact .inr (.inl rfl)
  ·have : i = m := by omega
   subst this
   rw [e3]; exact .inl rfl
theorem GrAt.store {a g0 c0 : Nat} (h : GrAt w B (sl g0 m c0) m vals Gs) (ha : a < m) {g cap l x : Nat} (hl : (Gs.getD a []).length = l) (hp : Pushed B w w' (vals.getD a undef) g cap l (intsN (Gs.getD a [])) (x : Int)) :
  GrAt (w'.setCell ⟨g0, a, none⟩ (sl g (l + 1) cap)) B (sl g0 m c0) m (vals.set a (sl g (l + 1) cap)) (Gs.set a (Gs.getD a [] ++ [x])) := by
  have hvl := h.lv; have hgl := h.lg
  have hfr : Fr (fun q => (vals.getD a undef).ownBlock = some q) w w' := ((Fr.refl _ w).alloc (.cells #[.int .i64 (x : Int)] 3)).then_ (Fr.of_grown hp.grow (fun q hq => hq)) (fun q _ e => e)
  have hrow : w'.ownsRow B 22 1 (sl g0 m c0) m vals := by
   have hlt := h.row.lt
   obtain ⟨h1, h2⟩ := h.row
   refine ⟨h1, ?_⟩
   rcases h2 with ⟨e, _⟩ | ⟨g', cap', cur, e, hg, hh, r⟩
   ·cases e
   ·have e' := e
    simp only [Value.slice.injEq, Option.some.injEq, Addr.mk.injEq, and_true, true_and] at e'
    obtain ⟨rfl, rfl⟩ := e'
    exact .inr ⟨g0, c0, cur, e, hg, by rw [hfr.block g0 (hlt g0 rfl).2 (fun q => h.sep ha g0 q rfl)]; exact hh, r⟩
  have hg0 : g ≠ g0 := fun e => by
   rcases hp.at_ with q | q
   ·exact h.sep ha g q (by rw [e]; rfl)
   ·have := (h.row.lt g0 rfl).2; omega
  have e1 : ∀ i, i ≠ a -> (vals.set a (sl g (l + 1) cap)).getD i undef = vals.getD i undef := fun i hi => by simp [List.getD, List.getElem?_set_ne (fun e => hi e.symm)]
  have e2 : ∀ i, i ≠ a -> (Gs.set a (Gs.getD a [] ++ [x])).getD i [] = Gs.getD i [] := fun i hi => by simp [List.getD, List.getElem?_set_ne (fun e => hi e.symm)]
  have e3 : (vals.set a (sl g (l + 1) cap)).getD a undef = sl g (l + 1) cap := by simp [List.getD, List.getElem?_set_self (show a < vals.length by omega)]
  have e4 : (Gs.set a (Gs.getD a [] ++ [x])).getD a [] = Gs.getD a [] ++ [x] := by
   rw [List.getD_eq_getElem?_getD, List.getElem?_set_self (by omega)]; rfl
  have hst := (World.ownsRow.stored hrow a (sl g (l + 1) cap)).1
  refine ⟨hst, by simp [hvl], by simp [hgl], fun i hi => ?_, fun i j hi hj hne => ?_⟩
  ·by_cases q : i = a
   ·subst q
    rw [e3, e4]
    have h1 := hp.own
    have e5 : intsN (Gs.getD i []) ++ [(x : Int)] = intsN (Gs.getD i [] ++ [x]) := by simp [intsN]
    rw [e5] at h1
    rw [List.length_append, List.length_singleton, hl]
    exact own_set h1 (p := ⟨g0, i, none⟩) (fun e => hg0 (by simpa [Value.ownBlock] using e)) _
   ·rw [e1 i q, e2 i q]
    refine own_set (hfr.own (h.own i hi) (fun r hr e => ?_)) (p := ⟨g0, a, none⟩) (fun e => h.sep hi g0 e rfl) _
    rcases h.ap i a hi ha q with s | s | s
    ·rw [s] at hr; cases hr
    ·rw [s] at e; cases e
    ·exact s (by rw [hr, e])
  ·have key : ∀ i, i < m -> i ≠ a -> Apart (vals.getD i undef) (sl g (l + 1) cap) := fun i hi q => by
    rcases hp.at_ with r | r
    ·rcases h.ap i a hi ha q with s | s | s
     ·exact .inl s
     ·rw [s] at r; cases r
     ·exact .inr (.inr (fun e => s (by rw [e, r]; rfl)))
    ·cases hv : (vals.getD i undef).ownBlock with
     | none => exact .inl hv
     | some z =>
       refine .inr (.inr (fun e => ?_))
       rw [hv] at e
       have : z = g := by simpa [Value.ownBlock] using e
       have := ((h.own i hi).lt z hv).2
       omega
   by_cases q : i = a
   ·subst q
    rw [e3, e1 j (fun e => hne e.symm)]
    exact (key j hj (fun e => hne e.symm)).symm
   ·by_cases r : j = a
    ·subst r
     rw [e3, e1 i q]; exact key i hi q
    ·rw [e1 i q, e1 j r]; exact h.ap i j hi hj hne
theorem GrAt.form (h : GrAt w B v m vals Gs) : (v = .slice none 0 0 /\ m = 0) \/ ∃ g c, v = sl g m c /\ m <= c /\ c <= 9223372036854775807 := by
 rcases h.row.2 with ⟨e1, e0⟩ | ⟨g, cap, cur, e, _, _, h1, h2, _⟩
 ·exact .inl ⟨e1, e0⟩
 ·unfold maxLen at h2
  exact .inr ⟨g, cap, e, h1, h2⟩
theorem GrAt.formS (h : GrAt w B v m vals Gs) : ∃ A c, v = .slice A m c /\ m <= c /\ c <= 9223372036854775807 := by
 rcases h.form with ⟨e1, e0⟩ | ⟨g, c, e, h1, h2⟩
 ·exact ⟨none, 0, by rw [e1, e0], by omega, by omega⟩
 ·exact ⟨_, c, e, h1, h2⟩
theorem GrAt.cellG {g0 c0 a : Nat} (h : GrAt w B (sl g0 m c0) m vals Gs) (ha : a < m) : w.cell? ⟨g0, a, none⟩ = some (vals.getD a undef) /\ w.frozen? ⟨g0, a, none⟩ = false := by
 have hvl := h.lv
 refine ⟨?_, World.ownsRow.frozenAt h.row a⟩
 rw [World.ownsRow.cellAt h.row a (by omega)]
 simp [List.getD, List.getElem?_eq_getElem (show a < vals.length by omega)]
theorem getD_push {m : Nat} (vals : List Value) (u : Value) (h : vals.length = m) : (vals ++ [u]).getD m undef = u := by simp [List.getD, <- h]
theorem flat1 (l : List Value) : l.flatMap (fun u => [u]) = l := by
 induction l with
 | nil => rfl
 | cons a l ih => rw [List.flatMap_cons, ih]; rfl
theorem GrAt.rowE (h : GrAt w B v m vals Gs) : OwnE (fun u : Value => [u]) 22 1 w B v m vals := by
 unfold OwnE; rw [flat1]; exact h.row
theorem GrAt.pushE (h : GrAt w B v m vals Gs) {g cap : Nat} (hp : PushedE (fun u : Value => [u]) 22 1 B w w' v g cap m vals (.slice none 0 0)) : GrAt w' B (sl g (m + 1) cap) (m + 1) (vals ++ [.slice none 0 0]) (Gs ++ [[]]) := by
 have h1 := hp.own
 unfold OwnE at h1
 rw [flat1] at h1
 exact h.push h1 hp.grow
theorem Fr.of_pushed {g cap n : Nat} {u : Value} {l : List Int} {x : Int} (hp : Pushed B w w' u g cap n l x) : Fr (fun q => u.ownBlock = some q) w w' :=
 ((Fr.refl _ w).alloc (.cells #[.int .i64 x] 3)).then_ (Fr.of_grown hp.grow (fun q hq => hq)) (fun q _ e => e)
theorem GrAt.blk {g0 c0 : Nat} (h : GrAt w B (sl g0 m c0) m vals Gs) : ∃ cs, w.heap[g0]? = some (.cells cs 22 (0, 0)) := by
 rcases h.row.2 with ⟨e, _⟩ | ⟨g, cap, cur, e, _, hh, _⟩
 ·cases e
 ·simp only [Value.slice.injEq, Option.some.injEq, Addr.mk.injEq, and_true, true_and] at e
  obtain ⟨rfl, rfl⟩ := e
  exact ⟨cur, hh⟩
theorem GrAt.cell9 {X : Nat -> Prop} {g0 c0 a : Nat} (h : GrAt w B (sl g0 m c0) m vals Gs) (ha : a < m) (hf : Fr X w w') (hx : ¬ X g0) : w'.cell? ⟨g0, a, none⟩ = some (vals.getD a undef) /\ w'.frozen? ⟨g0, a, none⟩ = false := by
 obtain ⟨h1, h2⟩ := h.cellG ha
 refine ⟨hf.cell h1 hx, ?_⟩
 rw [World.frozen?_of_block (a := ⟨g0, a, none⟩) (hf.block g0 (h.row.lt g0 rfl).2 hx)]
 exact h2
theorem GrAt.next (h : GrAt w B v m vals Gs) (hm : Gs.length = m) : NextR w v Gs := by
 have hvl := h.lv
 subst hm
 rcases h.row.2 with ⟨e1, e0⟩ | ⟨g, cap, cur, e, _, _, h1, h2, _⟩
 ·have : Gs = [] := List.eq_nil_of_length_eq_zero e0
  subst this
  subst e1
  exact ⟨none, 0, rfl, Nat.le_refl _, Nat.zero_le _, fun _ => rfl, fun i hi => absurd hi (by simp)⟩
 ·subst e
  refine ⟨_, cap, rfl, h1, h2, (fun e => by cases e), fun i hi => ⟨g, 0, vals.getD i undef, rfl, ?_, (h.own i hi).readsI⟩⟩
  rw [Nat.zero_add, World.ownsRow.cellAt h.row i (by omega)]
  simp [List.getD, List.getElem?_eq_getElem (show i < vals.length by omega)]
end
end Go.Proofs.Ytacgakkcpmhgmaa
namespace Go.Proofs.Ytacgakkcpmhgmaa
open Go Go.RowKit Go.Proofs
theorem take_step {ss : List Nat} {j : Nat} (h : j < ss.length) (g : Nat -> Int) : (ss.take (j + 1)).map g = (ss.take j).map g ++ [g (ss.getD j 0)] := by
 rw [List.take_add_one, List.getElem?_eq_getElem h, List.map_append, List.getD_eq_getElem?_getD, List.getElem?_eq_getElem h]
 rfl
theorem intsN_at {ss : List Nat} (j : Nat) : (intsN ss).getD j 0 = (ss.getD j 0 : Nat) := by
 simp [intsN, List.getD, List.getElem?_map]
 cases h9 : ss[j]? with
 | none => simp
 | some z => simp
end Go.Proofs.Ytacgakkcpmhgmaa
namespace Go.Proofs.Ytacgakkcpmhgmaa
open Go Go.RowKit Go.Proofs
section
variable {w w' : World} {B : Nat}
theorem rowFr {X : Nat -> Prop} {e : TypeId} {u : Value} {n sz : Nat} {xs : List Value} (h : w.ownsRow B e sz u n xs) (hf : Fr X w w') (hX : ∀ q, u.ownBlock = some q -> ¬ X q) : w'.ownsRow B e sz u n xs := by
 have hlt := h.lt
 obtain ⟨h1, h2⟩ := h
 refine ⟨h1, ?_⟩
 rcases h2 with h2 | ⟨g, cap, cur, rfl, hg, hh, r⟩
 ·exact .inl h2
 ·exact .inr ⟨g, cap, cur, rfl, hg, by rw [hf.block g (hlt g rfl).2 (hX g rfl)]; exact hh, r⟩
theorem OwnLL.keepT {X : Nat -> Prop} {e e' t : TypeId} {k p : Nat} {v : Value} {xss : List (Nat × List Value)} {cs : Array Value} (h : OwnLL w B e e' 1 v k xss) (hf : Fr X w w') (hX : ∀ q, X q -> q = p) (hp : Blk w p t cs) (h1 : t ≠ e) (h2 : t ≠ e') : OwnLL w' B e e' 1 v k xss := by
 obtain ⟨h3, vals, h4, h5⟩ := h
 exact ⟨h3, vals, rowFr h4 hf (fun q hq hx => by have e := hX q hx; subst e; exact blk_ne hp h4 h1 hq), fun i hi => ⟨rowFr (h5 i hi).1 hf (fun q hq hx => by have e := hX q hx; subst e; exact blk_ne hp (h5 i hi).1 h2 hq), (h5 i hi).2⟩⟩
end
structure PB where
 p5 : Nat
 GA : Option Addr
 gc : Nat
 Xn : Option Addr
 xnn : Nat
 xnc : Nat
 FA : Option Addr
 fc : Nat
 gn : Nat
 f : Nat -> Nat
end Go.Proofs.Ytacgakkcpmhgmaa
