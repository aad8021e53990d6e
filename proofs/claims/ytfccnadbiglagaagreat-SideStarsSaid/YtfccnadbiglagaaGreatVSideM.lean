/- Positions as they are made: doors, pieces, the maker's memory, and what a call of its may turn. -/
import Derived.Test.YtfccnadbiglagaaGreatVRowE
import Derived.Test.YtfccnadbiglagaaGreatVPlB
import Derived.Test.YtfccnadbiglagaaGreatVApart
import Derived.Test.YtfccnadbiglagaaGreatVBlk
set_option linter.unusedVariables false
set_option linter.unusedSimpArgs false
namespace Go.Proofs.YtfccnadbiglagaaGreat
open Go Go.RowKit
def encD (d : Int × Int) : List Value := [.int .i64 d.1, .int .i64 d.2]
theorem encD_len (d : Int × Int) : (encD d).length = 2 := rfl
def encA (a : ArcP) : List Value := [.int .i64 a.1, .int .i64 a.2.1, .int .i64 a.2.2]
theorem encA_len (a : ArcP) : (encA a).length = 3 := rfl
def DoorsV (w : World) (S : Nat -> Prop) (v : Value) (l : List (Int × Int)) : Prop :=
 l.length <= 1000 /\ ∃ A n c, v = .slice A n c /\ ReadsE encD 2 w (.slice A n c) n l /\ ∀ g o, A = some ⟨g, o, none⟩ -> 0 < n -> S g
theorem DoorsV.keep {w w' : World} {S S' : Nat -> Prop} {v : Value} {l : List (Int × Int)} (h : DoorsV w S v l) (hS : ∀ g, S g -> g < w.heap.size -> S' g) (hk : ∀ g, S g -> g < w.heap.size -> ∀ i x, w.cell? ⟨g, i, none⟩ = some x -> w'.cell? ⟨g, i, none⟩ = some x) : DoorsV w' S' v l := by
 obtain ⟨h0, A, n, c, rfl, h1, h2⟩ := h
 have h1' := h1
 obtain ⟨q1, a, cap, e, q2, q3, q4, q5⟩ := h1
 simp only [Value.slice.injEq, true_and] at e
 obtain ⟨rfl, rfl⟩ := e
 have lt : ∀ g o, A = some ⟨g, o, none⟩ -> 0 < n -> g < w.heap.size := fun g o e hn => by
  obtain ⟨x, hx⟩ : ∃ x, l[0]? = some x := ⟨_, List.getElem?_eq_getElem (by omega)⟩
  obtain ⟨b, off, e2, hb, _⟩ := h1'.at encD_len (by omega) 0 x hx
  rw [e] at e2
  simp only [Option.some.injEq, Addr.mk.injEq] at e2
  obtain ⟨rfl, _⟩ := e2
  exact hb
 refine ⟨h0, A, n, c, rfl, ⟨q1, A, c, rfl, q2, q3, q4, fun i x hi => ?_⟩, fun g o e hn => hS g (h2 g o e hn) (lt g o e hn)⟩
 obtain ⟨b, off, e, hc⟩ := q5 i x hi
 have hn : 0 < n := by have := (List.getElem?_eq_some_iff.1 hi).1; omega
 exact ⟨b, off, e, fun j u hj => hk b (h2 b off e hn) (lt b off e hn) _ _ (hc j u hj)⟩
theorem DoorsV.nil (w : World) (S : Nat -> Prop) : DoorsV w S (.slice none 0 0) [] := ⟨by simp, none, 0, 0, rfl, ReadsE.nil w, fun g o e => by cases e⟩
theorem DoorsV.form {w : World} {S : Nat -> Prop} {v : Value} {l : List (Int × Int)} (h : DoorsV w S v l) : ∃ A c, v = .slice A l.length c /\ l.length <= c /\ c <= 9223372036854775807 /\ l.length <= 1000 := by
 obtain ⟨h0, A, n, c, rfl, h1, h2⟩ := h
 obtain ⟨a, cap, e, q1, q2, q3⟩ := h1.form
 simp only [Value.slice.injEq, true_and] at e
 obtain ⟨rfl, rfl⟩ := e
 exact ⟨A, c, by rw [q3], by omega, q2, h0⟩
def PieceV (w : World) (S : Nat -> Prop) (v : Value) (F E : List (Int × Int)) (z : Int) : Prop := ∃ vf ve, v = .agg #[vf, ve, .int .i64 z] /\ DoorsV w S vf F /\ DoorsV w S ve E
theorem PieceV.keep {w w' : World} {S S' : Nat -> Prop} {v : Value} {F E : List (Int × Int)} {z : Int} (h : PieceV w S v F E z) (hS : ∀ g, S g -> g < w.heap.size -> S' g) (hk : ∀ g, S g -> g < w.heap.size -> ∀ i x, w.cell? ⟨g, i, none⟩ = some x -> w'.cell? ⟨g, i, none⟩ = some x) : PieceV w' S' v F E z := by
 obtain ⟨vf, ve, rfl, h1, h2⟩ := h
 exact ⟨vf, ve, rfl, h1.keep hS hk, h2.keep hS hk⟩
structure FrM (B T : Nat) (w w' : World) (sv sv' : Value) : Prop where
 below : Below B w w'
 size : w.heap.size <= w'.heap.size
 top : T <= w.heap.size
 keep : ∀ g, T <= g -> g < w.heap.size -> sv.ownBlock ≠ some g -> w'.heap[g]? = w.heap[g]?
 own : ∀ g, sv'.ownBlock = some g -> sv.ownBlock = some g \/ w.heap.size <= g
def Left_ (T : Nat) (sv : Value) (g : Nat) : Prop := T <= g /\ sv.ownBlock ≠ some g
section
variable {B T : Nat} {w w' w2 : World} {sv sv' sv2 : Value}
theorem FrM.refl (hT : T <= w.heap.size) (hB : B <= w.heap.size) : FrM B T w w sv sv := ⟨Below.refl _ _, Nat.le_refl _, hT, fun _ _ _ _ => rfl, fun g h => .inl h⟩
theorem FrM.trans (h : FrM B T w w' sv sv') (k : FrM B T w' w2 sv' sv2) : FrM B T w w2 sv sv2 where
 below := h.below.trans k.below
 size := Nat.le_trans h.size k.size
 top := h.top
 keep := fun g h1 h2 h3 => by
  rw [k.keep g h1 (Nat.lt_of_lt_of_le h2 h.size) (fun e => ?_), h.keep g h1 h2 h3]
  rcases h.own g e with q | q
  ·exact h3 q
  ·omega
 own := fun g hg => by
  rcases k.own g hg with q | q
  ·exact h.own g q
  ·exact .inr (Nat.le_trans h.size q)
theorem FrM.quiet (hb : Below w.heap.size w w') (hT : T <= w.heap.size) (hB : B <= w.heap.size) : FrM B T w w' sv sv := ⟨hb.mono hB, hb.size, hT, fun g _ h2 _ => hb.block g h2, fun g h => .inl h⟩
theorem cell_of_heap {w w' : World} {g : Nat} (h : w'.heap[g]? = w.heap[g]?) (i : Nat) : w'.cell? ⟨g, i, none⟩ = w.cell? ⟨g, i, none⟩ := by
 unfold World.cell?
 simp only [h]
theorem DoorsV.fr {v : Value} {l : List (Int × Int)} (h : DoorsV w (Left_ T sv) v l) (hf : FrM B T w w' sv sv') : DoorsV w' (Left_ T sv') v l := by
 refine h.keep (fun g hg hlt => ⟨hg.1, fun e => ?_⟩) (fun g hg hlt i x hx => ?_)
 ·rcases hf.own g e with q | q
  ·exact hg.2 q
  ·omega
 ·rw [cell_of_heap (hf.keep g hg.1 hlt hg.2)]; exact hx
theorem PieceV.fr {v : Value} {F E : List (Int × Int)} {z : Int} (h : PieceV w (Left_ T sv) v F E z) (hf : FrM B T w w' sv sv') : PieceV w' (Left_ T sv') v F E z := by
 obtain ⟨vf, ve, rfl, h1, h2⟩ := h
 exact ⟨vf, ve, rfl, h1.fr hf, h2.fr hf⟩
end
def rowM (N : Nat) (M : Mat) (i : Nat) : List Value := (List.range N).map fun j => Value.int .i64 (M i j)
theorem rowM_at (N : Nat) (M : Mat) (i j : Nat) (hj : j < N) : (rowM N M i)[j]? = some (.int .i64 (M i j)) := by
 unfold rowM
 rw [List.getElem?_map, List.getElem?_range hj]
 rfl
theorem rowM_set (N : Nat) (M : Mat) (i j : Nat) (x : Int) : (rowM N M i).set j (.int .i64 x) = rowM N (updM M i j x) i := by
 refine List.ext_getElem? fun q => ?_
 rw [List.getElem?_set]
 unfold rowM
 rw [List.length_map, List.length_range, List.getElem?_map, List.getElem?_map]
 by_cases hq : q < N
 ·rw [List.getElem?_range hq]
  by_cases h : j = q
  ·subst h
   rw [if_pos rfl, if_pos hq]
   simp [updM]
  ·rw [if_neg h]
   simp only [Option.map_some, updM]
   rw [if_neg (by omega)]
 ·rw [List.getElem?_eq_none (by simpa using hq)]
  by_cases h : j = q
  ·subst h
   rw [if_pos rfl, if_neg hq]; rfl
  ·rw [if_neg h]; rfl
theorem rowM_other (N : Nat) (M : Mat) (i k j : Nat) (x : Int) (h : k ≠ i) : rowM N (updM M i j x) k = rowM N M k := by
 unfold rowM
 refine List.map_congr_left fun q _ => ?_
 unfold updM
 rw [if_neg (by omega)]
structure CostsAt (w : World) (B T N : Nat) (cv : Value) (g0 o0 cc : Nat) (R : Nat -> Nat) (M : Mat) : Prop where
 form : (N = 0 /\ ∃ A c, cv = .slice A 0 c /\ c <= maxLen) \/ (0 < N /\ cv = .slice (some ⟨g0, o0, none⟩) N cc /\ N <= cc /\ cc <= maxLen)
 low : 0 < N -> B <= g0 /\ g0 < T
 cells : ∀ i, i < N -> w.cell? ⟨g0, o0 + i, none⟩ = some (.slice (some ⟨R i, 0, none⟩) N N)
 rows : ∀ i, i < N -> B <= R i /\ R i < T /\ R i ≠ g0
 apart : ∀ i j, i < N -> j < N -> R i = R j -> i = j
 at_ : ∀ i, i < N -> Blk w (R i) 3 (rowM N M i).toArray
structure MkAt (w : World) (B T b N : Nat) (sv : Value) (S : List Int) (cv : Value) (g0 o0 cc : Nat) (R : Nat -> Nat) (dv rv : Value) (M : Mat) : Prop where
 box : Blk w b 83 #[sv, cv, dv, rv]
 bB : B <= b /\ b < T
 bg : 0 < N -> b ≠ g0
 bR : ∀ i, i < N -> b ≠ R i
 top : T <= w.heap.size
 sets : Own w T sv S.length S
 small : N <= 120
 fits : S.length <= N
 costs : CostsAt w B T N cv g0 o0 cc R M
end Go.Proofs.YtfccnadbiglagaaGreat
