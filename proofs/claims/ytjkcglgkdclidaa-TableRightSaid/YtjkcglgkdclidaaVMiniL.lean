/- net.reached. fewest.renamed; names, plain. net.fewest. -/
import Derived.Test.YtjkcglgkdclidaaVMiniJ
import Derived.Test.YtjkcglgkdclidaaVTwoRows
import Derived.Test.YtjkcglgkdclidaaVLL
set_option linter.unusedVariables false
set_option linter.unusedSimpArgs false
namespace Go.Proofs.Ytjkcglgkdclidaa
open Go Go.RowKit Go.Proofs
theorem visit_lt {T : List (List Nat)} {k : Nat} (hT : RectN T k) {s : Nat} (hs : s < T.length) {m : List Nat} (hm : ∀ x ∈ m, x < T.length) (i : Nat) : ∀ x ∈ visitN eqN ((T.getD s []).take i) m, x < T.length := by
 obtain ⟨r, e, hr⟩ := visitN_pre eqN ((T.getD s []).take i) m
 rw [e]
 intro x hx
 rcases List.mem_append.1 hx with q | q
 ·exact hm x q
 ·obtain ⟨a, ha, rfl⟩ := row_mem hT hs (List.mem_of_mem_take (hr x q))
  exact hT.lt s a hs ha
end Go.Proofs.Ytjkcglgkdclidaa
namespace Go.Proofs.Ytjkcglgkdclidaa
open Go Go.RowKit Go.Proofs
def rowZ (n : Nat) (f : Nat -> Int) : List Int := (List.range n).map f
theorem rowZ_len (n : Nat) (f : Nat -> Int) : (rowZ n f).length = n := by simp [rowZ]
theorem rowZ_get {n : Nat} (f : Nat -> Int) {i : Nat} (h : i < n) : (rowZ n f).getD i 0 = f i := by simp [rowZ, h]
theorem rowZ_set (n : Nat) (f : Nat -> Int) (i : Nat) (v : Int) : (rowZ n f).set i v = rowZ n (fun j => if j = i then v else f j) := by
 apply List.ext_getElem
 ·simp [rowZ]
 ·intro j h1 h2
  simp only [rowZ, List.getElem_set, List.getElem_map, List.getElem_range]
  by_cases e : i = j
  ·subst e; simp
  ·rw [if_neg e, if_neg (fun q => e q.symm)]
theorem rowZ_congr {n : Nat} {f f' : Nat -> Int} (h : ∀ i, i < n -> f i = f' i) : rowZ n f = rowZ n f' := by
 unfold rowZ
 exact List.map_congr_left fun i hi => h i (List.mem_range.1 hi)
def renF (nm : Nat -> Int) (ss : List Nat) (i : Nat) : Nat -> Int := fun q => if q < i then nm (ss.getD q 0) else 0
theorem renF_all (nm : Nat -> Int) (ss : List Nat) : rowZ ss.length (renF nm ss ss.length) = ss.map nm := by
 apply List.ext_getElem
 ·simp [rowZ]
 ·intro i h1 h2
  have hi : i < ss.length := by simpa [rowZ] using h1
  simp only [rowZ, renF, List.getElem_map, List.getElem_range]
  rw [if_pos hi]
  simp [List.getD, List.getElem?_eq_getElem hi]
theorem renF_succ (nm : Nat -> Int) (ss : List Nat) (m i : Nat) : (rowZ m (renF nm ss i)).set i (nm (ss.getD i 0)) = rowZ m (renF nm ss (i + 1)) := by
 rw [rowZ_set]
 congr 1
 funext q
 unfold renF
 by_cases e : q = i
 ·subst e; rw [if_pos rfl, if_pos (Nat.lt_succ_self q)]
 ·rw [if_neg e]
  by_cases h : q < i
  ·rw [if_pos h, if_pos (by omega)]
  ·rw [if_neg h, if_neg (by omega)]
theorem renF_zero (nm : Nat -> Int) (ss : List Nat) (m : Nat) : rowZ m (renF nm ss 0) = rowN m fun _ => 0 := by
 unfold rowZ rowN renF
 exact List.map_congr_left fun i _ => by simp
end Go.Proofs.Ytjkcglgkdclidaa
namespace Go.Proofs.Ytjkcglgkdclidaa
open Go Go.RowKit Go.Proofs
theorem blk_ne2 {w : World} {b b' : Nat} {t t' : TypeId} {cs cs' : Array Value} (h : Blk w b t cs) (h' : Blk w b' t' cs') (hne : t ≠ t') : ¬ b = b' := by
 intro e
 subst e
 unfold Blk at h h'
 rw [h] at h'
 injection h' with h'
 injection h' with h1 h2 h3
 exact hne h2
def EF (f : Nat -> Nat) (u t : Nat) : Bool := decide (f u = f t)
theorem EF.eqv (f : Nat -> Nat) : EqvN (EF f) := ⟨fun x => by simp [EF], fun x y h => by simp [EF] at h ⊢; exact h.symm, fun x y z h h' => by simp [EF] at h h' ⊢; exact h.trans h'⟩
theorem EF.step {α : Type} {g : Nat -> α} {T : List (List Nat)} {k : Nat} {f : Nat -> Nat} (hT : RectN T k) (hf : ∀ x y, x < T.length -> y < T.length -> (f x = f y ↔ AlikeN T k g x y)) : StepN T k (EF f) := fun x y a hx hy ha h => by
 simp [EF] at h ⊢
 exact (hf _ _ (hT.lt x a hx ha) (hT.lt y a hy ha)).2 (((hf x y hx hy).1 h).step ha)
theorem add_map (f : Nat -> Nat) (l : List Nat) (s : Nat) : metL (l.map f) (f s) = (addN (EF f) l s).map f := by
 unfold metL addN
 have e : f s ∈ l.map f ↔ l.any (fun u => EF f u s) = true := by
  rw [List.mem_map, List.any_eq_true]
  simp [EF]
 by_cases h : f s ∈ l.map f
 ·rw [if_pos h, if_pos (e.1 h)]
 ·rw [if_neg h, if_neg (fun q => h (e.2 q)), List.map_append]; rfl
theorem idx_map (f : Nat -> Nat) (s : Nat) : ∀ l : List Nat, (l.map f).idxOf (f s) = ixN (EF f) l s
 | [] => rfl
 | x :: l => by
   unfold ixN
   rw [List.map_cons, List.idxOf_cons, List.findIdx_cons]
   have ih := idx_map f s l
   unfold ixN at ih
   by_cases e : f x = f s
   ·have h1 : (f x == f s) = true := by simp [e]
    have h2 : EF f x s = true := by simp [EF, e]
    rw [h1, h2]; rfl
   ·have h1 : (f x == f s) = false := by simpa using e
    have h2 : EF f x s = false := by simp [EF, e]
    rw [h1, h2]
    simp only [cond_false]
    rw [ih]
theorem ix_pre (E : Nat -> Nat -> Bool) (l r : List Nat) (s : Nat) (h : l.any (fun u => E u s) = true) : ixN E (l ++ r) s = ixN E l s := by
 unfold ixN
 rw [List.findIdx_append]
 have : l.findIdx (fun u => E u s) < l.length := by
  rw [List.findIdx_lt_length]
  obtain ⟨u, hu, e⟩ := List.any_eq_true.1 h
  exact ⟨u, hu, e⟩
 rw [if_pos this]
theorem add_any {E : Nat -> Nat -> Bool} (hE : EqvN E) (l : List Nat) (s : Nat) : (addN E l s).any (fun u => E u s) = true := by
 unfold addN
 split
 ·assumption
 ·rw [List.any_append]; simp [hE.refl]
theorem add_new {E : Nat -> Nat -> Bool} (hE : EqvN E) (l : List Nat) (s : Nat) : (ixN E (addN E l s) s = l.length /\ addN E l s = l ++ [s]) \/ (ixN E (addN E l s) s < l.length /\ addN E l s = l) := by
 unfold addN
 split
 ·rename_i h
  refine .inr ⟨?_, rfl⟩
  unfold ixN
  rw [List.findIdx_lt_length]
  obtain ⟨u, hu, e⟩ := List.any_eq_true.1 h
  exact ⟨u, hu, e⟩
 ·rename_i h
  refine .inl ⟨?_, rfl⟩
  unfold ixN
  rw [List.findIdx_append, if_neg]
  ·simp [List.findIdx_cons, hE.refl]
  ·rw [List.findIdx_lt_length]
   rintro ⟨u, hu, e⟩
   exact h (List.any_eq_true.2 ⟨u, hu, e⟩)
def fiL (T : List (List Nat)) (E : Nat -> Nat -> Bool) (j : Nat) : List Nat := onceN E ((metN T).take j)
def naF (T : List (List Nat)) (E : Nat -> Nat -> Bool) (j : Nat) (x : Nat) : Int := if x ∈ (metN T).take j then (ixN E (repN T E) x : Nat) else -1
section
variable {T : List (List Nat)} {k : Nat} {E : Nat -> Nat -> Bool} {j s : Nat}
theorem fiL_succ (hs : (metN T)[j]? = some s) : fiL T E (j + 1) = addN E (fiL T E j) s := by
 unfold fiL
 rw [List.take_add_one, hs]
 exact onceN_snoc E _ s
theorem fiL_all (hT : RectN T k) (hE : EqvN E) (hS : StepN T k E) : fiL T E (metN T).length = repN T E := by
 unfold fiL
 rw [List.take_of_length_le (Nat.le_refl _)]
 exact once_met hT hE hS
theorem fiL_pre (hT : RectN T k) (hE : EqvN E) (hS : StepN T k E) (j : Nat) : ∃ r, repN T E = fiL T E j ++ r := by
 have h := onceN_pre E ((metN T).take j) ((metN T).drop j)
 rw [List.take_append_drop, once_met hT hE hS] at h
 exact h
theorem naF_succ (hs : (metN T)[j]? = some s) (x : Nat) : naF T E (j + 1) x = if x = s then ((ixN E (repN T E) s : Nat) : Int) else naF T E j x := by
 unfold naF
 rw [List.take_add_one, hs]
 by_cases e : x = s
 ·subst e
  rw [if_pos rfl, if_pos]
  simp
 ·rw [if_neg e]
  have : (x ∈ (metN T).take j ++ (some s).toList) ↔ x ∈ (metN T).take j := by simp [e]
  by_cases q : x ∈ (metN T).take j
  ·rw [if_pos q, if_pos (this.2 q)]
  ·rw [if_neg q, if_neg (fun r => q (this.1 r))]
theorem naF_all (x : Nat) : naF T E (metN T).length x = nameN T E x := by
 unfold naF nameN
 rw [List.take_of_length_le (Nat.le_refl _)]
theorem naF_zero (n : Nat) : rowZ n (naF T E 0) = List.replicate n (-1) := by
 apply List.ext_getElem
 ·simp [rowZ]
 ·intro i h1 h2; simp [rowZ, naF]
theorem num_met (hT : RectN T k) (hE : EqvN E) (hS : StepN T k E) (hs : (metN T)[j]? = some s) : ixN E (addN E (fiL T E j) s) s = ixN E (repN T E) s := by
 obtain ⟨r, e⟩ := fiL_pre hT hE hS (j + 1)
 rw [e, fiL_succ hs]
 exact (ix_pre E _ r s (add_any hE _ s)).symm
end
def rowsN (T : List (List Nat)) (E : Nat -> Nat -> Bool) (l : List Nat) : List (List Int) := l.map fun s => (T.getD s []).map (nameN T E)
def xssN (rows : List (List Int)) : List (Nat × List Value) := rows.map fun r => (r.length, r.map (Value.int .i64))
structure FwLo (w9 : World) (p6 bo go3 gn : Nat) : Prop where
 p : p6 < w9.heap.size
 b : bo < w9.heap.size
 g : go3 < w9.heap.size
 n : gn < w9.heap.size
 pb : ¬ p6 = bo
 pg : ¬ p6 = go3
 pn : ¬ p6 = gn
 nb : ¬ gn = bo
 ng : ¬ gn = go3
section
variable {w9 wr w' : World} {B p6 bo go3 gn n c j s k : Nat} {f : Nat -> Nat} {T : List (List Nat)} {vf mv mv' : Value}
end
theorem fiL_len (T : List (List Nat)) (E : Nat -> Nat -> Bool) (j : Nat) : (fiL T E j).length <= (metN T).length := by
 have key : ∀ m : List Nat, (onceN E m).length <= m.length := by
  intro m
  induction m using snocN with
  | h0 => simp [onceN]
  | h1 m x ih =>
    rw [onceN_snoc]
    unfold addN
    split
    ·simp; omega
    ·simp; omega
 exact Nat.le_trans (key _) (by simp; omega)
theorem info_row : (Try.prog.info? 22).map (fun i => (i.zero, i.size, i.bytes)) = some (some (.slice none 0 0), 1, 24) := by kernel_rfl
section
variable {w w' : World} {B k : Nat} {e e' : TypeId} {v : Value} {xss : List (Nat × List Value)}
theorem OwnLL.fr {X : Nat -> Prop} (h : OwnLL w B e e' 1 v k xss) (hf : Fr X w w') (hX : ∀ q, B <= q -> ¬ X q) : OwnLL w' B e e' 1 v k xss := by
 have key : ∀ {e : TypeId} {u : Value} {n : Nat} {xs : List Value}, w.ownsRow B e 1 u n xs -> w'.ownsRow B e 1 u n xs := fun {e u n xs} ho => by
  have hlt := ho.lt
  obtain ⟨h1, h2⟩ := ho
  refine ⟨h1, ?_⟩
  rcases h2 with h2 | ⟨g, cap, cur, rfl, hg, hh, r⟩
  ·exact .inl h2
  ·exact .inr ⟨g, cap, cur, rfl, hg, by rw [hf.block g (hlt g rfl).2 (hX g hg)]; exact hh, r⟩
 obtain ⟨h1, vals, h2, h3⟩ := h
 exact ⟨h1, vals, key h2, fun i hi => ⟨key (h3 i hi).1, (h3 i hi).2⟩⟩
theorem ownsRow_more {e : TypeId} {u : Value} {n B' : Nat} {xs : List Value} (h : w.ownsRow B e 1 u n xs) (hB : B' <= B) : w.ownsRow B' e 1 u n xs := by
 obtain ⟨h1, h2⟩ := h
 refine ⟨h1, ?_⟩
 rcases h2 with h2 | ⟨g, cap, cur, rfl, hg, r⟩
 ·exact .inl h2
 ·exact .inr ⟨g, cap, cur, rfl, by omega, r⟩
theorem OwnLL.more (h : OwnLL w B e e' 1 v k xss) {B' : Nat} (hB : B' <= B) : OwnLL w B' e e' 1 v k xss := by
 obtain ⟨h1, vals, h2, h3⟩ := h
 exact ⟨h1, vals, ownsRow_more h2 hB, fun i hi => ⟨ownsRow_more (h3 i hi).1 hB, (h3 i hi).2⟩⟩
theorem OwnLL.formS (h : OwnLL w B e e' 1 v k xss) : ∃ A n c, v = .slice A n c := by
 rcases h.form with ⟨e, _⟩ | ⟨g, cap, e, _⟩
 ·exact ⟨_, _, _, e⟩
 ·exact ⟨_, _, _, e⟩
theorem OwnLL.pushK (h : OwnLL w B e e' 1 v k xss) : ∃ vals, w.ownsRow B e 1 v k vals /\ ∀ (V V' : World) (g cap : Nat) (u : Value) (n : Nat) (xs : List Value), Below w.heap.size w V -> V'.ownsRow B e 1 (sl g (k + 1) cap) (k + 1) (vals ++ [u]) -> V.grownBy V' v.ownBlock ->
  (v.ownBlock = some g \/ g = V.heap.size) -> V.ownsRow B e' 1 u n xs -> Apart v u -> OwnLL V' B e e' 1 (sl g (k + 1) cap) (k + 1) (xss ++ [(n, xs)]) := by
  obtain ⟨h1, vals, h2, h3⟩ := h
  refine ⟨vals, h2, fun V V' g cap u n xs hb ho hg hat hu hap => ⟨by simp [h1], vals ++ [u], ho, fun i hi => ?_⟩⟩
  have hl : vals.length = k := by have := h2.1; omega
  rcases Nat.lt_or_ge i k with g1 | g1
  ·have e1 : (vals ++ [u]).getD i undef = vals.getD i undef := by simp [List.getD, List.getElem?_append_left (show i < vals.length by omega)]
   have e2 : (xss ++ [(n, xs)]).getD i (0, []) = xss.getD i (0, []) := by simp [List.getD, List.getElem?_append_left (show i < xss.length by omega)]
   rw [e1, e2]
   exact apart_lies (h3 i g1).2 (ownsRow_bel (h3 i g1).1 hb) hg hat rfl
  ·have hik : i = k := by omega
   subst hik
   have e1 : (vals ++ [u]).getD i undef = u := by simp [List.getD, <- hl]
   have e2 : (xss ++ [(n, xs)]).getD i (0, []) = (n, xs) := by simp [List.getD, <- h1]
   rw [e1, e2]
   exact apart_lies hap hu hg hat rfl
end
structure PF where
 p5 : Nat
 p6 : Nat
 ga : Nat
 ca : Nat
 gp : Nat
 cp : Nat
 go : Nat
 co : Nat
 gs : Nat
 cs : Nat
 TA : Option Addr
 tn : Nat
 tc : Nat
 c : Nat
 f : Nat -> Nat
 gn : Nat
end Go.Proofs.Ytjkcglgkdclidaa
