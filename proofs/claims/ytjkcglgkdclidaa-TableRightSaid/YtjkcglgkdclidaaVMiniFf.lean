/- forward.picked. mini.Pick, of a machine, of labels that are places. -/
import Derived.Test.YtjkcglgkdclidaaVMiniFd
import Derived.Test.YtjkcglgkdclidaaVMiniSp
import Derived.Test.YtjkcglgkdclidaaVLastY
set_option linter.unusedVariables false
set_option linter.unusedSimpArgs false
namespace Go.Proofs.Ytjkcglgkdclidaa
open Go Go.RowKit Go.Proofs
theorem set_flat : ∀ (l : List V3) (i : Nat) (u : V3), (((l.flatMap encV).set (i * 3) (.int .i64 u.1)).set (i * 3 + 1) (.int .i64 u.2.1)).set (i * 3 + 2) (.int .i64 u.2.2) = (l.set i u).flatMap encV
 | [], i, u => by simp
 | a :: l, 0, u => rfl
 | a :: l, i + 1, u => by
   have ih := set_flat l i u
   rw [show (i + 1) * 3 = i * 3 + 1 + 1 + 1 by omega]
   show Value.int .i64 a.1 :: Value.int .i64 a.2.1 :: Value.int .i64 a.2.2 :: ((((l.flatMap encV).set (i * 3) (.int .i64 u.1)).set (i * 3 + 1) (.int .i64 u.2.1)).set (i * 3 + 2) (.int .i64 u.2.2)) = _
   rw [ih]
   rfl
def zV : V3 := (0, 0, 0)
def mkV (l : Nat) : Array Value := madeCells #[.int .i64 0, .int .i64 0, .int .i64 0] (l * 3)
theorem mkV_any (l : Nat) (hl : l <= 1000) (W : World) : (Instr.makeSlice 46 (.int .i64 (l : Int)) (.int .i64 (l : Int))).run Try.prog W = .ok (.slice (some ⟨W.heap.size, 0, none⟩) l l) (W.alloc (.cells (mkV l) 45)) := by
 obtain ⟨i0, hi, hz0, hz1, hz2⟩ := info_parts info_vec
 have h := run_make (P := Try.prog) W 46 45 i0 _ Try.underlying46 hi hz0 .i64 .i64 l l (by omega) (Int.le_refl _) (by rw [hz2]; omega) (by omega)
 rw [h, hz1]
 simp only [Int.toNat_natCast]
 rfl
theorem own_mkV (l : Nat) (hl : l <= 1000) (w : World) : OwnE encV 45 3 (w.alloc (.cells (mkV l) 45)) w.heap.size (sl w.heap.size l l) l (List.replicate l zV) := by
 have hlen : ((List.replicate l zV).flatMap encV).length = l * 3 := by rw [flatMap_len encV 3 encV_len, List.length_replicate]
 have hsz : (mkV l).size = l * 3 := by simp [mkV, size_madeCells]
 refine ⟨hlen, .inr ⟨w.heap.size, l, _, rfl, Nat.le_refl _, heap_alloc_new w _, Nat.le_refl _, by unfold maxLen; omega, hsz, ?_⟩⟩
 apply List.ext_getElem?
 intro j
 rcases Nat.lt_or_ge j (l * 3) with h | h
 ·have e : j = j / 3 * 3 + j % 3 := by omega
  have h1 : ((List.replicate l zV).flatMap encV)[j]? = (encV zV)[j % 3]? := by
   conv => lhs; rw [e]
   rw [flatMap_at encV 3 encV_len _ _ _ (by rw [List.length_replicate]; omega) (by omega), List.getElem_replicate]
  rw [h1, List.getElem?_take, if_pos h]
  have h3 : j % 3 < 3 := by omega
  have h2 : (mkV l).toList[j]? = (encV zV)[j % 3]? := by
   rw [Array.getElem?_toList, Array.getElem?_eq_getElem (by rw [hsz]; exact h)]
   simp [mkV, madeCells]
   generalize j % 3 = r at h3 ⊢
   rcases (show r = 0 \/ r = 1 \/ r = 2 by omega) with rfl | rfl | rfl <;> rfl
  exact h2
 ·rw [List.getElem?_eq_none (by rw [List.length_take]; omega), List.getElem?_eq_none (by omega)]
theorem OwnE.storeV {w : World} {B g n c : Nat} {l : List V3} (h : OwnE encV 45 3 w B (sl g n c) n l) (i : Nat) (u : V3) :
  OwnE encV 45 3 (((w.setCell ⟨g, i * 3, none⟩ (.int .i64 u.1)).setCell ⟨g, i * 3 + 1, none⟩ (.int .i64 u.2.1)).setCell ⟨g, i * 3 + 2, none⟩ (.int .i64 u.2.2)) B (sl g n c) n (l.set i u) := by
  have h1 := (World.ownsRow.stored h (i * 3) (.int .i64 u.1)).1
  have h2 := (World.ownsRow.stored h1 (i * 3 + 1) (.int .i64 u.2.1)).1
  have h3 := (World.ownsRow.stored h2 (i * 3 + 2) (.int .i64 u.2.2)).1
  unfold OwnE
  rw [<- set_flat]
  exact h3
def pickL (vs : List V3) (ls : List Nat) (l j : Nat) : List V3 := (ls.take j).map (fun a => vs.getD a zV) ++ List.replicate (l - j) zV
theorem pickL_step (vs : List V3) {ls : List Nat} {l j : Nat} (hl : ls.length = l) (hj : j < l) : (pickL vs ls l j).set j (vs.getD (ls.getD j 0) zV) = pickL vs ls l (j + 1) := by
 unfold pickL
 have hlen : ((ls.take j).map fun a => vs.getD a zV).length = j := by simp; omega
 rw [List.set_append_right _ _ (by omega), hlen, Nat.sub_self, show l - j = (l - (j + 1)) + 1 by omega, List.replicate_succ, List.set_cons_zero,
  List.take_add_one, List.getElem?_eq_getElem (show j < ls.length by omega), List.map_append, List.append_assoc]
 simp [List.getD, List.getElem?_eq_getElem (show j < ls.length by omega)]
theorem pickL_all (vs : List V3) {ls : List Nat} {l : Nat} (hl : ls.length = l) : pickL vs ls l l = ls.map fun a => vs.getD a zV := by
 unfold pickL
 rw [Nat.sub_self, List.take_of_length_le (by omega)]
 simp
end Go.Proofs.Ytjkcglgkdclidaa
namespace Go.Proofs.Ytjkcglgkdclidaa
open Go Go.RowKit Go.Proofs
def xssT (T : List (List Nat)) (j : Nat) : List (Nat × List Value) := (List.range j).map fun i => ((T.getD i []).length, (intsN (T.getD i [])).map (Value.int .i64))
def xssK (E : List (List V3)) (ls : List Nat) (l j : Nat) : List (Nat × List Value) := (List.range j).map fun i => (l, (ls.map fun a => (E.getD i []).getD a zV).flatMap encV)
theorem xssT_succ (T : List (List Nat)) (j : Nat) : xssT T (j + 1) = xssT T j ++ [((T.getD j []).length, (intsN (T.getD j [])).map (Value.int .i64))] := by unfold xssT; rw [List.range_succ, List.map_append]; rfl
theorem xssK_succ (E : List (List V3)) (ls : List Nat) (l j : Nat) : xssK E ls l (j + 1) = xssK E ls l j ++ [(l, (ls.map fun a => (E.getD j []).getD a zV).flatMap encV)] := by unfold xssK; rw [List.range_succ, List.map_append]; rfl
section
variable {w w' V V' : World} {B B' : Nat} {e e' t : TypeId} {sz k : Nat} {v u : Value} {xss : List (Nat × List Value)}
theorem _root_.Go.Proofs.Ytjkcglgkdclidaa.below_size {C : Nat} (h : Below C w w') : w.heap.size <= w'.heap.size := h.size
theorem apart_new {t s n : Nat} {xs : List Value} (h : OwnLL V B e e' sz v k xss) (hu : V'.ownsRow V.heap.size t s u n xs) : Apart v u := by
 cases hv : v.ownBlock with
 | none => exact .inl hv
 | some z =>
   refine .inr (.inr (fun q => ?_))
   rw [hv] at q
   have h1 := (h.lt z hv).2
   have h2 := (hu.lt z q.symm).1
   omega
theorem pushedE_of {g cap n : Nat} {vals : List Value} (h : V.ownsRow B e 1 v n vals) (q1 : V'.ownsRow B e 1 (.slice (some ⟨g, 0, none⟩) (n + 1) cap) (n + 1) (vals ++ #[u].toList)) (q2 : V.grownBy V' v.ownBlock) (q3 : v.ownBlock = some g \/ g = V.heap.size) : PushedE (fun u : Value => [u]) e 1 B V V' v g cap n vals u :=
 ⟨by unfold OwnE; rw [flat1]; exact q1, q2, q3.elim .inl (fun q => .inr (Nat.le_of_eq q.symm)), h.lt⟩
theorem OwnLL.keepG {n s : Nat} {xs : List Value} (h : OwnLL V B e e' sz v k xss) (hg : V.grownBy V' u.ownBlock) (hu : V.ownsRow B' t s u n xs) (h1 : e ≠ t) (h2 : e' ≠ t) : OwnLL V' B e e' sz v k xss := by
 have key : ∀ {x : Value} {a b c : Nat} {ys : List Value}, V.ownsRow B a b x c ys -> a ≠ t -> V'.ownsRow B a b x c ys := fun {x a b c ys} hr hne => World.ownsRow.kept hr hg (by
  cases hx : x.ownBlock with
  | none => exact .inl rfl
  | some z => exact .inr (fun q => rows_ne hr hu hne z hx q.symm))
 obtain ⟨h3, vals, h4, h5⟩ := h
 exact ⟨h3, vals, key h4 h1, fun i hi => ⟨key (h5 i hi).1 h2, (h5 i hi).2⟩⟩
theorem below_grown {row : Option Nat} (h : Below B w V) (hg : V.grownBy V' row) (hB : B <= V.heap.size) (hr : ∀ z, row = some z -> B <= z) : Below B w V' := h.grown hg hB hr
end
def PickAt (w4 W : World) (B b4 : Nat) (T : List (List Nat)) (E : List (List V3)) (ls : List Nat) (l j : Nat) : Prop :=
 ∃ XA xc YA yc, Blk W b4 29 #[.slice XA j xc, .slice YA j yc] /\ OwnLL W B 22 3 1 (.slice XA j xc) j (xssT T j) /\ OwnLL W B 46 45 3 (.slice YA j yc) j (xssK E ls l j) /\ Fr (fun q => q = b4) w4 W
theorem pickEnd {w4 wr V : World} {B b4 j g1 c1 g2 c2 m l : Nat} {T : List (List Nat)} {E : List (List V3)} {ls : List Nat} {x y : Value}
  (hx : Blk V b4 29 #[x, y]) (hm : m = (T.getD j []).length) (hn : OwnLL V B 22 3 1 (sl g1 (j + 1) c1) (j + 1) (xssT T j ++ [(m, (intsN (T.getD j [])).map (Value.int .i64))])) (ho : OwnLL V B 46 45 3 (sl g2 (j + 1) c2) (j + 1) (xssK E ls l j ++ [(l, (ls.map fun a => (E.getD j []).getD a zV).flatMap encV)]))
  (hb : Below B wr V) (hB : B <= wr.heap.size) (hb4 : b4 < B) (hf : Fr (fun q => q = b4) w4 wr) (hw4 : w4.heap.size = B) :
  PickAt w4 ((V.setCell ⟨b4, 0, none⟩ (sl g1 (j + 1) c1)).setCell ⟨b4, 1, none⟩ (sl g2 (j + 1) c2)) B b4 T E ls l (j + 1) := by
  have hfr : Fr (fun q => q = b4) V ((V.setCell ⟨b4, 0, none⟩ (sl g1 (j + 1) c1)).setCell ⟨b4, 1, none⟩ (sl g2 (j + 1) c2)) := ((Fr.refl (fun q => q = b4) V).set_ (p := ⟨b4, 0, none⟩) (.inl rfl) _).set_ (p := ⟨b4, 1, none⟩) (.inl rfl) _
  rw [hm, <- xssT_succ] at hn
  rw [<- xssK_succ] at ho
  refine ⟨_, _, _, _, ?_, hn.fr' hfr (fun q hq e => by omega), ho.fr' hfr (fun q hq e => by omega), ?_⟩
  ·have := (hx.set_ 0 (sl g1 (j + 1) c1)).set_ 1 (sl g2 (j + 1) c2)
   simpa using this
  ·have h1 : Fr (fun q => B <= q) wr V := ⟨hb.os, hb.tape, hb.output, hb.size, fun q hq hx => hb.block q (by omega)⟩
   exact (hf.then_ h1 (fun q hq e => by omega)).trans hfr
end Go.Proofs.Ytjkcglgkdclidaa
