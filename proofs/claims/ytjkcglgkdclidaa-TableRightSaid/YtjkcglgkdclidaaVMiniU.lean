/- told of a Back. mini.Back, of a machine. -/
import Derived.Test.YtjkcglgkdclidaaVMiniSp
set_option linter.unusedVariables false
set_option linter.unusedSimpArgs false
namespace Go.Proofs.Ytjkcglgkdclidaa
open Go Go.RowKit Go.Proofs
theorem take_step {ss : List Nat} {j : Nat} (h : j < ss.length) (g : Nat -> Int) : (ss.take (j + 1)).map g = (ss.take j).map g ++ [g (ss.getD j 0)] := by
 rw [List.take_add_one, List.getElem?_eq_getElem h, List.map_append, List.getD_eq_getElem?_getD, List.getElem?_eq_getElem h]
 rfl
theorem intsN_at {ss : List Nat} (j : Nat) : (intsN ss).getD j 0 = (ss.getD j 0 : Nat) := by
 simp [intsN, List.getD, List.getElem?_map]
 cases h9 : ss[j]? with
 | none => simp
 | some z => simp
end Go.Proofs.Ytjkcglgkdclidaa
namespace Go.Proofs.Ytjkcglgkdclidaa
open Go Go.RowKit Go.Proofs
section
variable {w w' : World} {B : Nat}
theorem rowFr {X : Nat -> Prop} {e : TypeId} {u : Value} {n sz : Nat} {xs : List Value} (h : w.ownsRow B e sz u n xs) (hf : Fr X w w') (hX : ∀ q, u.ownBlock = some q -> ¬ X q) : w'.ownsRow B e sz u n xs := by
 have hlt := h.lt
 obtain ⟨h1, h2⟩ := h
 refine ⟨h1, ?_⟩
 rcases h2 with h2 | ⟨g, cap, cur, rfl, hg, hh, r⟩
 ·exact .inl h2
 ·exact .inr ⟨g, cap, cur, rfl, hg, by rw [hf.block g (hlt g rfl).2 (hX g rfl)]; exact hh, r⟩
theorem OwnLL.keepT {X : Nat -> Prop} {e e' t : TypeId} {k p : Nat} {v : Value} {xss : List (Nat × List Value)} {cs : Array Value} (h : OwnLL w B e e' 1 v k xss) (hf : Fr X w w') (hX : ∀ q, X q -> q = p) (hp : Blk w p t cs) (h1 : t ≠ e) (h2 : t ≠ e') : OwnLL w' B e e' 1 v k xss := by
 obtain ⟨h3, vals, h4, h5⟩ := h
 exact ⟨h3, vals, rowFr h4 hf (fun q hq hx => by have e := hX q hx; subst e; exact blk_ne hp h4 h1 hq), fun i hi => ⟨rowFr (h5 i hi).1 hf (fun q hq hx => by have e := hX q hx; subst e; exact blk_ne hp (h5 i hi).1 h2 hq), (h5 i hi).2⟩⟩
end
structure PB where
 p5 : Nat
 GA : Option Addr
 gc : Nat
 Xn : Option Addr
 xnn : Nat
 xnc : Nat
 FA : Option Addr
 fc : Nat
 gn : Nat
 f : Nat -> Nat
end Go.Proofs.Ytjkcglgkdclidaa
