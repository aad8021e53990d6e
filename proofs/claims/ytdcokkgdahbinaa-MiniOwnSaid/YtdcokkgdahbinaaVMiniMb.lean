/- A square of truths that a call makes, row by row. -/
import Derived.Test.YtdcokkgdahbinaaVMiniMa
import Derived.Test.YtdcokkgdahbinaaVMiniP
set_option linter.unusedVariables false
set_option linter.unusedSimpArgs false
namespace Go.Proofs.Ytdcokkgdahbinaa
open Go Go.RowKit Go.Proofs
theorem info_boolM : (Try.prog.info? 4).map (fun i => (i.zero, i.size, i.bytes)) = some (some (.bool false), 1, 1) := by kernel_rfl
theorem info_bools : (Try.prog.info? 48).map (fun i => (i.zero, i.size, i.bytes)) = some (some (.slice none 0 0), 1, 24) := by kernel_rfl
theorem made_rep (N : Nat) (z : Value) : madeCells #[z] N = repA N z := by
 unfold repA
 apply Array.ext
 ·simp [size_madeCells]
 ·intro i h1 h2
  simp [madeCells, Nat.mod_one]
theorem mkT_any (N : Nat) (hN : N <= 1000) (W : World) : (Instr.makeSlice 48 (.int .i64 (N : Int)) (.int .i64 (N : Int))).run Try.prog W = .ok (.slice (some ⟨W.heap.size, 0, none⟩) N N) (W.alloc (.cells (repA N (.bool false)) 4)) := by
 obtain ⟨i0, hi, hz0, hz1, hz2⟩ := info_parts info_boolM
 have h := run_make (P := Try.prog) W 48 4 i0 _ Try.underlying48 hi hz0 .i64 .i64 N N (by omega) (Int.le_refl _) (by rw [hz2]; omega) (by omega)
 rw [h]
 simp only [Int.toNat_natCast, hz1, Nat.mul_one]
 have e : madeCells (Value.cells (.bool false)) N = repA N (.bool false) := made_rep N (.bool false)
 rw [e]
theorem mkTT_any (N : Nat) (hN : N <= 1000) (W : World) : (Instr.makeSlice 47 (.int .i64 (N : Int)) (.int .i64 (N : Int))).run Try.prog W = .ok (.slice (some ⟨W.heap.size, 0, none⟩) N N) (W.alloc (.cells (repA N (.slice none 0 0)) 48)) := by
 obtain ⟨i0, hi, hz0, hz1, hz2⟩ := info_parts info_bools
 have h := run_make (P := Try.prog) W 47 48 i0 _ Try.underlying47 hi hz0 .i64 .i64 N N (by omega) (Int.le_refl _) (by rw [hz2]; omega) (by omega)
 rw [h]
 simp only [Int.toNat_natCast, hz1, Nat.mul_one]
 have e : madeCells (Value.cells (.slice none 0 0)) N = repA N (.slice none 0 0) := made_rep N (.slice none 0 0)
 rw [e]
def boolsA (n : Nat) (m : Nat -> Bool) : Array Value := ((List.range n).map fun j => Value.bool (m j)).toArray
def rowsA (n c : Nat) (q : Nat -> Nat) : Array Value := ((List.range n).map fun x => if x < c then Value.slice (some ⟨q x, 0, none⟩) n n else .slice none 0 0).toArray
theorem boolsA_at {n j : Nat} (m : Nat -> Bool) (h : j < n) : (boolsA n m)[j]? = some (.bool (m j)) := by simp [boolsA, h]
theorem rowsA_at {n j : Nat} (c : Nat) (q : Nat -> Nat) (h : j < n) : (rowsA n c q)[j]? = some (if j < c then Value.slice (some ⟨q j, 0, none⟩) n n else .slice none 0 0) := by simp [rowsA, h]
theorem boolsA_set {n j : Nat} {x : Bool} (m m' : Nat -> Bool) (hj : m' j = x) (h : ∀ z, z ≠ j -> m' z = m z) : (boolsA n m).setIfInBounds j (.bool x) = boolsA n m' := by
 apply Array.ext
 ·simp [boolsA]
 ·intro i h1 h2
  have hi : i < n := by simpa [boolsA] using h2
  by_cases e : i = j
  ·subst e; simp [boolsA, hj]
  ·rw [Array.getElem_setIfInBounds_ne (by simpa [boolsA] using h2) (fun q => e q.symm)]
   simp [boolsA, h i e]
theorem rowsA_set {n c g : Nat} (q q' : Nat -> Nat) (hj : q' c = g) (h : ∀ z, z < c -> q' z = q z) : (rowsA n c q).setIfInBounds c (.slice (some ⟨g, 0, none⟩) n n) = rowsA n (c + 1) q' := by
 apply Array.ext
 ·simp [rowsA]
 ·intro i h1 h2
  have hi : i < n := by simpa [rowsA] using h2
  by_cases e : i = c
  ·subst e; simp [rowsA, hj]
  ·rw [Array.getElem_setIfInBounds_ne (by simpa [rowsA] using h2) (fun q => e q.symm)]
   rcases Nat.lt_or_ge i c with g | g
   ·simp [rowsA, g, h i g, show i < c + 1 by omega]
   ·simp [rowsA, show ¬ i < c by omega, show ¬ i < c + 1 by omega]
structure MatAt (w : World) (B p n c : Nat) (q : Nat -> Nat) (M : Nat -> Nat -> Bool) : Prop where
 rows : Blk w p 48 (rowsA n c q)
 row : ∀ i, i < c -> Blk w (q i) 4 (boolsA n (M i))
 base : B <= p
 low : ∀ i, i < c -> B <= q i /\ p ≠ q i
 apart : ∀ i j, i < c -> j < c -> q i = q j -> i = j
section
variable {w w' : World} {B p n c : Nat} {q : Nat -> Nat} {M : Nat -> Nat -> Bool}
theorem MatAt.same (h : MatAt w B p n c q M) (hb : ∀ k, k < w.heap.size -> w'.heap[k]? = w.heap[k]?) : MatAt w' B p n c q M :=
 ⟨(hb _ h.rows.lt).trans h.rows, fun i hi => (hb _ (h.row i hi).lt).trans (h.row i hi), h.base, h.low, h.apart⟩
theorem MatAt.drew (h : MatAt w B p n c q M) : MatAt w.drew B p n c q M := ⟨h.rows, h.row, h.base, h.low, h.apart⟩
theorem MatAt.drewN (h : MatAt w B p n c q M) (d : Nat) : MatAt (w.drewN d) B p n c q M := ⟨h.rows, h.row, h.base, h.low, h.apart⟩
theorem MatAt.congr {M' : Nat -> Nat -> Bool} (h : MatAt w B p n c q M) (e : ∀ x y, x < c -> y < n -> M' x y = M x y) : MatAt w B p n c q M' :=
 ⟨h.rows, fun i hi => by
  have : boolsA n (M' i) = boolsA n (M i) := by
   unfold boolsA
   congr 1
   exact List.map_congr_left fun j hj => by rw [e i j hi (List.mem_range.1 hj)]
  rw [this]; exact h.row i hi, h.base, h.low, h.apart⟩
theorem MatAt.more (h : MatAt w B p n c q M) (hc : c < n) (hB : B <= w.heap.size) (hM : ∀ y, M c y = false) :
  MatAt ((w.alloc (.cells (repA n (.bool false)) 4)).setCell ⟨p, c, none⟩ (.slice (some ⟨w.heap.size, 0, none⟩) n n)) B p n (c + 1) (fun x => if x = c then w.heap.size else q x) M := by
  have hp := h.rows.lt
  have e : repA n (.bool false) = boolsA n (M c) := by
   unfold repA boolsA
   apply Array.ext
   ·simp
   ·intro i h1 h2; simp [hM]
  refine ⟨?_, fun i hi => ?_, h.base, fun i hi => ?_, fun i j hi hj => ?_⟩
  ·rw [<- rowsA_set q (fun x => if x = c then w.heap.size else q x) (if_pos rfl) (fun z hz => if_neg (by omega))]
   exact (h.rows.alloc _).set_ _ _
  ·by_cases g : i = c
   ·subst g
    rw [if_pos rfl, e]
    exact Blk.far (Blk.new _ _ _) (p := ⟨p, i, none⟩) (by show w.heap.size ≠ p; omega) _
   ·rw [if_neg g]
    exact Blk.far ((h.row i (by omega)).alloc _) (p := ⟨p, c, none⟩) (fun e => (h.low i (by omega)).2 e.symm) _
  ·by_cases g : i = c
   ·rw [if_pos g]; exact ⟨hB, by omega⟩
   ·rw [if_neg g]; exact h.low i (by omega)
  ·by_cases g : i = c <;> by_cases g' : j = c
   ·omega
   ·rw [if_pos g, if_neg g']
    intro e
    have := (h.row j (by omega)).lt; omega
   ·rw [if_neg g, if_pos g']
    intro e
    have := (h.row i (by omega)).lt; omega
   ·rw [if_neg g, if_neg g']
    exact h.apart i j (by omega) (by omega)
theorem MatAt.put (h : MatAt w B p n c q M) {i j : Nat} (hi : i < c) (b : Bool) : MatAt (w.setCell ⟨q i, j, none⟩ (.bool b)) B p n c q (updB M i j b) := by
 refine ⟨Blk.far h.rows (p := ⟨q i, j, none⟩) (h.low i hi).2 _, fun x hx => ?_, h.base, h.low, h.apart⟩
 by_cases e : x = i
 ·subst e
  rw [<- boolsA_set (M x) (updB M x j b x) (updB_at M x j b) (fun z hz => updB_ne M b (fun g => hz g.2))]
  exact (h.row x hx).set_ j _
 ·have e2 : updB M i j b x = M x := funext fun z => updB_ne M b (fun g => e g.1)
  rw [e2]
  exact Blk.far (h.row x hx) (p := ⟨q i, j, none⟩) (fun g => e (h.apart x i hx hi g)) _
theorem MatAt.cell (h : MatAt w B p n c q M) {i j : Nat} (hi : i < c) (hj : j < n) : w.cell? ⟨q i, j, none⟩ = some (.bool (M i j)) := by
 rw [(h.row i hi).cell, boolsA_at _ hj]
theorem MatAt.head (h : MatAt w B p n c q M) {i : Nat} (hi : i < c) (hn : i < n) : w.cell? ⟨p, i, none⟩ = some (.slice (some ⟨q i, 0, none⟩) n n) := by
 rw [h.rows.cell, rowsA_at _ _ hn, if_pos hi]
end
def mI (o : Nat -> Int) (i j : Nat) : Nat -> Nat -> Bool := fun x y => if x < i \/ (x = i /\ y < j) then (o x != o y) else false
theorem mI_new (o : Nat -> Int) (i y : Nat) : mI o i 0 i y = false := by unfold mI; rw [if_neg (by omega)]
theorem mI_put (o : Nat -> Int) (i j : Nat) : updB (mI o i j) i j (o i != o j) = mI o i (j + 1) := by
 funext x y
 unfold updB mI
 by_cases e : x = i /\ y = j
 ·obtain ⟨rfl, rfl⟩ := e
  rw [if_pos ⟨rfl, rfl⟩, if_pos (by omega)]
 ·rw [if_neg e]
  by_cases g : x < i \/ (x = i /\ y < j)
  ·rw [if_pos g, if_pos (by omega)]
  ·rw [if_neg g, if_neg (by omega)]
theorem mI_row (o : Nat -> Int) (i : Nat) {n x y : Nat} (hy : y < n) : mI o (i + 1) 0 x y = mI o i n x y := by
 unfold mI
 by_cases g : x < i \/ (x = i /\ y < n)
 ·rw [if_pos g, if_pos (by omega)]
 ·rw [if_neg g, if_neg (by omega)]
theorem mI_all (o : Nat -> Int) {n x y : Nat} (hx : x < n) : (mI o n 0 x y = true ↔ o x ≠ o y) := by
 unfold mI
 rw [if_pos (.inl hx)]
 simp
theorem quo_apart {T : List (List Nat)} {k : Nat} {f : Nat -> Nat} {outs : List Nat} (hT : RectN T k) (hS : StepN T k (EF f)) (hf : ∀ x y, x < T.length -> y < T.length -> (f x = f y ↔ AlikeN T k (fun x => ((outs.getD x 0 : Nat) : Int)) x y)) {x y : Nat} (hx : x < (repN T (EF f)).length) (hy : y < (repN T (EF f)).length) (hne : x ≠ y) :
  ¬ AlikeN (quoN T (EF f)) k (fun x => (((quoO T f outs).getD x 0 : Nat) : Int)) x y := by
  intro h
  have hE := EF.eqv f
  have gu := List.getElem?_eq_getElem hx
  have gv := List.getElem?_eq_getElem hy
  have mu := rep_met hT hE hS (List.getElem_mem hx)
  have mv := rep_met hT hE hS (List.getElem_mem hy)
  generalize (repN T (EF f))[x] = u at *
  generalize (repN T (EF f))[y] = v at *
  have hout : ∀ s, s ∈ metN T -> (quoO T f outs).getD (ofN T (EF f) s) 0 = outs.getD s 0 := fun s hs => by
   obtain ⟨z, hz, e, hm⟩ := rep_of hT hE hS hs
   rw [quoO_at hz]
   have h1 : ((outs.getD z 0 : Nat) : Int) = ((outs.getD s 0 : Nat) : Int) := ((hf z s (met_lt hT hm) (met_lt hT hs)).1 (by simpa [EF] using e)).out
   omega
  have hal : AlikeN T k (fun x => ((outs.getD x 0 : Nat) : Int)) u v := fun w hw => by
   have := h w hw
   rw [<- of_rep hE gu, <- of_rep hE gv, quo_run hT hE hS w u mu hw, quo_run hT hE hS w v mv hw] at this
   simp only at this ⊢
   rw [hout _ (run_met hT w u mu hw), hout _ (run_met hT w v mv hw)] at this
   exact this
  have := rep_apart hE gu gv hne
  have e : f u = f v := (hf u v (met_lt hT mu) (met_lt hT mv)).2 hal
  simp [EF, e] at this
end Go.Proofs.Ytdcokkgdahbinaa
