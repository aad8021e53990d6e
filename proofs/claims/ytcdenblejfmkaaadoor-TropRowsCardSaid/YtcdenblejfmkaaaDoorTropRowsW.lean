/- Plain facts for the law TropRows (its walk is not done: NOTES.md). -/
import Derived.Test.YtcdenblejfmkaaaDoorTropLeastW
import Derived.Test.YtcdenblejfmkaaaDoorAppendRow
namespace Go.Proofs.YtcdenblejfmkaaaDoor
open Go.RowKit

theorem tdiv3 (n : Int) (w : (Lit.int .i64 n).wf = true) : (Lit.int .i64 (n.tdiv 3)).wf = true := by
  have hb := bounds_i64 w
  have e : (3 : Int).sign = 1 := rfl
  exact WalkArith.wf_i64 (by rw [Int.tdiv_eq_ediv, e]; split <;> omega)
theorem tdiv5 (n : Int) (w : (Lit.int .i64 n).wf = true) : (Lit.int .i64 (n.tdiv 5)).wf = true := by
  have hb := bounds_i64 w
  have e : (5 : Int).sign = 1 := rfl
  exact WalkArith.wf_i64 (by rw [Int.tdiv_eq_ediv, e]; split <;> omega)

theorem fold_least : ∀ (m : List Int) (a : Int), a ≤ 1152921504606846976 → (∀ x ∈ m, IsCost x) → m.foldl (fun m n => if n < m then n else m) a = (if least m < a then least m else a)
  | [], a, ha, _ => by
    show a = if (1152921504606846976 : Int) < a then 1152921504606846976 else a
    rw [if_neg (by omega)]
  | x :: m, a, ha, hl => by
    have hx := (hl x List.mem_cons_self).2
    have hl' := fun y hy => hl y (List.mem_cons_of_mem _ hy)
    have h1 : (x :: m).foldl (fun m n => if n < m then n else m) a = m.foldl (fun m n => if n < m then n else m) (if x < a then x else a) := rfl
    have h2 : least (x :: m) = m.foldl (fun m n => if n < m then n else m) (if x < 1152921504606846976 then x else 1152921504606846976) := rfl
    rw [h1, h2, fold_least m _ (by split <;> omega) hl', fold_least m _ (by split <;> omega) hl']
    generalize least m = q
    (repeat' split) <;> omega
theorem least_append (l m : List Int) (hl : ∀ x ∈ l, IsCost x) (hm : ∀ x ∈ m, IsCost x) : least (l ++ m) = lesser (least l) (least m) := by
  rw [lesser_eq _ _ (least_is l hl)]
  show (l ++ m).foldl _ _ = _
  rw [List.foldl_append]
  exact fold_least m (least l) (least_is l hl).2 hm
theorem lesser_least (l : List Int) (x : Int) (hl : ∀ y ∈ l, IsCost y) : lesser (least l) x = least (l ++ [x]) := by
  rw [least_snoc, lesser_eq _ _ (least_is l hl)]

theorem VecAt.belowB {w w' : World} {b B : Nat} {x y z : Int} (h : VecAt w b x y z) (hbB : b < B) (hb : Below B w w') : VecAt w' b x y z := by
  obtain ⟨hc, hf⟩ := bcell hb
  have hz := hb.size
  have := h.z
  exact ⟨by rw [hc _ _ hbB]; exact h.c0, by rw [hc _ _ hbB]; exact h.c1, by rw [hc _ _ hbB]; exact h.c2, fun o => by rw [hf _ _ hbB]; exact h.f o, by omega⟩
theorem VecAt.stored {w : World} {b : Nat} {x y z : Int} (h : VecAt w b x y z) (x' y' z' : Int) : VecAt (((w.setCell ⟨b, 0, none⟩ (.int .i64 x')).setCell ⟨b, 1, none⟩ (.int .i64 y')).setCell ⟨b, 2, none⟩ (.int .i64 z')) b x' y' z' :=
  ⟨by simp [go_sem, h.c0], by simp [go_sem, h.c1], by simp [go_sem, h.c2], fun o => by simp [go_sem, h.f], by have := h.z; simpa [World.setCell] using this⟩
theorem keepRow {W v : World} {b o B : Nat} {x : Value} (hb : b < B) (h : W.cell? ⟨b, o, none⟩ = some x ∧ B ≤ W.heap.size) (hbl : Below B W v) : v.cell? ⟨b, o, none⟩ = some x ∧ B ≤ v.heap.size :=
  ⟨by rw [(bcell hbl).1 _ _ hb]; exact h.1, Nat.le_trans h.2 hbl.size⟩
theorem keepRowCall {W v : World} {b o B : Nat} {x : Value} (hb : b < B) (h : W.cell? ⟨b, o, none⟩ = some x ∧ B ≤ W.heap.size) (hbl : Below W.heap.size W v) : v.cell? ⟨b, o, none⟩ = some x ∧ B ≤ v.heap.size :=
  keepRow hb h (hbl.mono h.2)
theorem vec_wrap (x : Int) (w : World) (wx : (Lit.int .i64 x).wf = true) :
    Calls Tryd.prog 8 #[.int .i64 x, .int .i64 (IntKind.i64.wrap (x.tdiv 3)), .int .i64 (IntKind.i64.wrap (x.tdiv 5))] w fun e w' => e = .returned (.agg #[.int .i64 (cost x), .int .i64 (cost (x.tdiv 3)), .int .i64 (cost (x.tdiv 5))]) ∧ Below w.heap.size w w' := by
  rw [IntWalk.i64_in _ (bounds_i64 (tdiv3 x wx)), IntWalk.i64_in _ (bounds_i64 (tdiv5 x wx))]
  exact vec_any x _ _ w wx (tdiv3 x wx) (tdiv5 x wx)
/-- The number that a cell holds, whatever it is. -/
def gi (b i : Nat) (w : World) : Int := match w.cell? ⟨b, i, none⟩ with | some (.int .i64 n) => n | _ => 0
theorem gi_of {w : World} {b i : Nat} {n : Int} (h : w.cell? ⟨b, i, none⟩ = some (.int .i64 n)) : gi b i w = n := by unfold gi; rw [h]
theorem VecAt.held {w : World} {b bv o : Nat} {x y z : Int} {v : Value} (h : VecAt w bv x y z) (hx : w.cell? ⟨b, o, none⟩ = some v) (hz : bv + 1 ≤ w.heap.size) :
    (w.cell? ⟨bv, 0, none⟩ = some (.int .i64 (gi bv 0 w)) ∧ w.cell? ⟨bv, 1, none⟩ = some (.int .i64 (gi bv 1 w)) ∧ w.cell? ⟨bv, 2, none⟩ = some (.int .i64 (gi bv 2 w))) ∧ w.cell? ⟨b, o, none⟩ = some v ∧ bv + 1 ≤ w.heap.size :=
  ⟨⟨by rw [gi_of h.c0]; exact h.c0, by rw [gi_of h.c1]; exact h.c1, by rw [gi_of h.c2]; exact h.c2⟩, hx, hz⟩
theorem VecAt.drew {w : World} {b : Nat} {x y z : Int} (h : VecAt w b x y z) : VecAt w.drew b x y z := ⟨h.c0, h.c1, h.c2, h.f, h.z⟩
theorem stored_below {w : World} {b : Nat} (x y z : Value) : Below b w (((w.setCell ⟨b, 0, none⟩ x).setCell ⟨b, 1, none⟩ y).setCell ⟨b, 2, none⟩ z) :=
  (((Below.refl b w).setCell (p := ⟨b, 0, none⟩) (Nat.le_refl _) x).setCell (p := ⟨b, 1, none⟩) (Nat.le_refl _) y).setCell (p := ⟨b, 2, none⟩) (Nat.le_refl _) z
theorem keepStored {W : World} {b o bv : Nat} {x y z v : Value} (hb : b < bv) (h : W.cell? ⟨b, o, none⟩ = some v ∧ bv + 1 ≤ W.heap.size) :
    (((W.setCell ⟨bv, 0, none⟩ x).setCell ⟨bv, 1, none⟩ y).setCell ⟨bv, 2, none⟩ z).cell? ⟨b, o, none⟩ = some v ∧ bv + 1 ≤ (((W.setCell ⟨bv, 0, none⟩ x).setCell ⟨bv, 1, none⟩ y).setCell ⟨bv, 2, none⟩ z).heap.size := by
  have hB := stored_below (w := W) (b := bv) x y z
  have := hB.size
  exact ⟨by rw [(bcell hB).1 _ _ hb]; exact h.1, by omega⟩

end Go.Proofs.YtcdenblejfmkaaaDoor
