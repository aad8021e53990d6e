/- The memory of an order; newOrder, order.number. slices.Clone of ints; parts.members. Two rows of the call's own that lie apart, appended to in a region that draws its order. newParts. -/
import Derived.Test.YtacgakkcpmhgmaaVMiniB
import Derived.StillTailTactics
import Derived.Lib.SliceRun
import Derived.Test.YtacgakkcpmhgmaaVLastY
set_option linter.unusedVariables false
set_option linter.unusedSimpArgs false
set_option maxRecDepth 100000
namespace Go.Proofs.Ytacgakkcpmhgmaa
open Go Go.RowKit Go.Proofs
def intsN (l : List Nat) : List Int := l.map Int.ofNat
def numsN (n : Nat) (M : List Nat) : List Int := (List.range n).map fun x => if x ∈ M then (M.idxOf x : Int) else -1
theorem numsN_len (n : Nat) (M : List Nat) : (numsN n M).length = n := by simp [numsN]
theorem numsN_nil (n : Nat) : numsN n [] = List.replicate n (-1) := by
 apply List.ext_getElem
 ·simp [numsN]
 ·intro i h1 h2; simp [numsN]
theorem numsN_get {n : Nat} {M : List Nat} {x : Nat} (hx : x < n) : (numsN n M).getD x 0 = if x ∈ M then (M.idxOf x : Int) else -1 := by simp [numsN, hx]
theorem numsN_set {n : Nat} {M : List Nat} {x : Nat} (hx : x ∉ M) : (numsN n M).set x (M.length : Int) = numsN n (M ++ [x]) := by
 apply List.ext_getElem
 ·simp [numsN]
 ·intro i h1 h2
  have hi : i < n := by simpa [numsN] using h2
  simp only [numsN, List.getElem_set, List.getElem_map, List.getElem_range]
  by_cases e : x = i
  ·subst e
   rw [if_pos rfl, if_pos (by simp), List.idxOf_append, if_neg hx]
   simp
  ·rw [if_neg e]
   by_cases q : i ∈ M
   ·rw [if_pos q, if_pos (by simp [q]), List.idxOf_append, if_pos q]
   ·rw [if_neg q, if_neg (by simp [q]; exact fun r => e r.symm)]
def metL (M : List Nat) (x : Nat) : List Nat := if x ∈ M then M else M ++ [x]
theorem metL_mem (M : List Nat) (x : Nat) : x ∈ metL M x := by unfold metL; split <;> simp_all
theorem metL_eq (M : List Nat) (x : Nat) : metL M x = addN eqN M x := by
 unfold metL addN
 by_cases h : x ∈ M
 ·rw [if_pos h, if_pos (List.any_eq_true.2 ⟨x, h, by simp [eqN]⟩)]
 ·rw [if_neg h, if_neg]
  intro q
  obtain ⟨u, hu, e⟩ := List.any_eq_true.1 q
  have : u = x := by simpa [eqN] using e
  exact h (by rw [<- this]; exact hu)
theorem metL_nodup {M : List Nat} (h : M.Nodup) (x : Nat) : (metL M x).Nodup := by
 unfold metL
 split
 ·exact h
 ·rename_i q
  exact List.nodup_append.2 ⟨h, by simp, fun a ha b hb e => by
   have : b = x := by simpa using hb
   subst this; subst e; exact q ha⟩
section
variable {w w' : World} {B b gn n : Nat} {mv : Value} {M : List Nat}
def OrdX (b gn : Nat) (mv : Value) (k : Nat) : Prop := k = b \/ k = gn \/ mv.ownBlock = some k
end
theorem number_cell {w : World} {B gn n x m : Nat} {M : List Nat} (h : Own w B (sl gn n n) n (numsN n (M ++ [x]))) (hx : x ∉ M) (hxn : x < n) (hm : M.length = m) : w.cell? ⟨gn, x, none⟩ = some (.int .i64 (m : Int)) := by
 rcases h.form with ⟨e, _⟩ | ⟨g', c', e, _, _, _, hc⟩
 ·cases e
 ·simp only [Value.slice.injEq, Option.some.injEq, Addr.mk.injEq, and_true, true_and] at e
  obtain ⟨rfl, rfl⟩ := e
  have := hc x hxn
  rw [Nat.zero_add, numsN_get hxn, if_pos (by simp), List.idxOf_append, if_neg hx] at this
  simp only [List.idxOf_cons_self, Nat.zero_add, hm] at this
  exact this
end Go.Proofs.Ytacgakkcpmhgmaa
namespace Go.Proofs.Ytacgakkcpmhgmaa
open Go Go.RowKit Go.Proofs
def memL (A : Nat -> Nat) (x y : Nat) : List Nat := (List.range (y - x)).map fun i => A (x + i)
theorem memL_len (A : Nat -> Nat) (x y : Nat) : (memL A x y).length = y - x := by simp [memL]
theorem GoodN.mem_iff {N c : Nat} {A P f fr to mk : Nat -> Nat} {M : Nat -> Prop} {L : List Nat} (h : GoodN N A P f fr to mk c M L) {q : Nat} (hq : q < c) (x : Nat) : x ∈ memL A (fr q) (to q) ↔ x < N /\ f x = q := by
 obtain ⟨s1, s2, s3⟩ := h.span q hq
 unfold memL
 rw [List.mem_map]
 constructor
 ·rintro ⟨i, hi, rfl⟩
  have := List.mem_range.1 hi
  obtain ⟨h1, h2⟩ := h.ap (fr q + i) (by omega)
  exact ⟨h1, (h.mem _ q h1 hq).2 (by rw [h2]; omega)⟩
 ·rintro ⟨hx, e⟩
  obtain ⟨h1, h2⟩ := (h.mem x q hx hq).1 e
  exact ⟨P x - fr q, List.mem_range.2 (by omega), by rw [Nat.add_sub_cancel' h1]; exact (h.pa x hx).2⟩
theorem reads_mem {w : World} {B g n cp x y : Nat} {A : Nat -> Nat} (h : Own w B (sl g n cp) n (rowN n A)) (hx : x < y) (hy : y <= n) : ReadsI w (.slice (some ⟨g, x, none⟩) (y - x) (cp - x)) (y - x) (intsN (memL A x y)) := by
 obtain ⟨c1, c2, _, _⟩ := h.capN
 refine ⟨by simp [intsN, memL], _, _, rfl, by omega, by omega, (fun e => by cases e), fun i hi => ⟨g, x, rfl, fun j hj => ?_⟩⟩
 rw [h.cellAt (show x + j < n by omega)]
 simp [intsN, memL, hj]
theorem bel_m {w w' : World} (h : Below w.heap.size w w') {g i : Nat} {x : Value} (hc : w.cell? ⟨g, i, none⟩ = some x) : w'.cell? ⟨g, i, none⟩ = some x := by
 rw [h.cell (p := ⟨g, i, none⟩) (World.block_lt_of_cell? w _ hc)]; exact hc
end Go.Proofs.Ytacgakkcpmhgmaa
namespace Go.Proofs.Ytacgakkcpmhgmaa
open Go Go.RowKit Go.Proofs
structure TwoRows (B : Nat) (e1 e2 : TypeId) (w0 : World) (v0 u0 : Value) (W : World) (v : Value) (n : Nat) (xs : List Value) (u : Value) (m : Nat) (ys : List Value) : Prop where
 own1 : W.ownsRow B e1 1 v n xs
 own2 : W.ownsRow B e2 1 u m ys
 ap : Apart v u
 fr : Fr (fun k => v0.ownBlock = some k \/ u0.ownBlock = some k) w0 W
 n1 : ∀ k, v.ownBlock = some k -> v0.ownBlock = some k \/ w0.heap.size <= k
 n2 : ∀ k, u.ownBlock = some k -> u0.ownBlock = some k \/ w0.heap.size <= k
 bB : B <= w0.heap.size
section
variable {B n m : Nat} {e1 e2 : TypeId} {w0 W W' : World} {v0 u0 v u : Value} {xs ys : List Value}
theorem TwoRows.start (h1 : w0.ownsRow B e1 1 v0 n xs) (h2 : w0.ownsRow B e2 1 u0 m ys) (h : Apart v0 u0) (hB : B <= w0.heap.size) : TwoRows B e1 e2 w0 v0 u0 w0 v0 n xs u0 m ys :=
 ⟨h1, h2, h, Fr.refl _ _, fun _ h => .inl h, fun _ h => .inl h, hB⟩
theorem TwoRows.drew (h : TwoRows B e1 e2 w0 v0 u0 W v n xs u m ys) : TwoRows B e1 e2 w0 v0 u0 W.drew v n xs u m ys :=
 ⟨h.own1.drew, h.own2.drew, h.ap, h.fr.drew, h.n1, h.n2, h.bB⟩
theorem ownsRow_bel {e : TypeId} {sz : Nat} (h : W.ownsRow B e sz v n xs) (hb : Below W.heap.size W W') : W'.ownsRow B e sz v n xs := by
 have hlt := h.lt
 obtain ⟨h1, h2⟩ := h
 refine ⟨h1, ?_⟩
 rcases h2 with h2 | ⟨g, cap, cur, rfl, hg, hh, r⟩
 ·exact .inl h2
 ·exact .inr ⟨g, cap, cur, rfl, hg, by rw [hb.block g (hlt g rfl).2]; exact hh, r⟩
theorem TwoRows.bel (h : TwoRows B e1 e2 w0 v0 u0 W v n xs u m ys) (hb : Below W.heap.size W W') : TwoRows B e1 e2 w0 v0 u0 W' v n xs u m ys :=
 ⟨ownsRow_bel h.own1 hb, ownsRow_bel h.own2 hb, h.ap, h.fr.trans (Fr.of_below hb), h.n1, h.n2, h.bB⟩
theorem TwoRows.push1 (h : TwoRows B e1 e2 w0 v0 u0 W v n xs u m ys) {g cap : Nat} {zs : List Value} (ho : W'.ownsRow B e1 1 (.slice (some ⟨g, 0, none⟩) (n + 1) cap) (n + 1) zs) (hg : W.grownBy W' v.ownBlock) (hat : v.ownBlock = some g \/ g = W.heap.size) :
  TwoRows B e1 e2 w0 v0 u0 W' (.slice (some ⟨g, 0, none⟩) (n + 1) cap) (n + 1) zs u m ys := by
  obtain ⟨k1, k2⟩ := apart_lies (N := n + 1) (cap := cap) h.ap h.own2 hg hat rfl
  refine ⟨ho, k1, k2, h.fr.then_ (Fr.of_grown (X := fun k => v.ownBlock = some k) hg (fun k hk => hk)) (fun k hk hv => ?_), fun k hk => ?_, h.n2, h.bB⟩
  ·rcases h.n1 k hv with q | q
   ·exact .inl q
   ·omega
  ·have : g = k := by simpa [Value.ownBlock] using hk
   subst this
   rcases hat with q | q
   ·exact h.n1 g q
   ·exact .inr (by have := h.fr.size; omega)
theorem TwoRows.push2 (h : TwoRows B e1 e2 w0 v0 u0 W v n xs u m ys) {g cap : Nat} {zs : List Value} (ho : W'.ownsRow B e2 1 (.slice (some ⟨g, 0, none⟩) (m + 1) cap) (m + 1) zs) (hg : W.grownBy W' u.ownBlock) (hat : u.ownBlock = some g \/ g = W.heap.size) :
  TwoRows B e1 e2 w0 v0 u0 W' v n xs (.slice (some ⟨g, 0, none⟩) (m + 1) cap) (m + 1) zs := by
  obtain ⟨k1, k2⟩ := apart_lies (N := m + 1) (cap := cap) h.ap.symm h.own1 hg hat rfl
  refine ⟨k1, ho, k2.symm, h.fr.then_ (Fr.of_grown (X := fun k => u.ownBlock = some k) hg (fun k hk => hk)) (fun k hk hv => ?_), h.n1, fun k hk => ?_, h.bB⟩
  ·rcases h.n2 k hv with q | q
   ·exact .inr q
   ·omega
  ·have : g = k := by simpa [Value.ownBlock] using hk
   subst this
   rcases hat with q | q
   ·exact h.n2 g q
   ·exact .inr (by have := h.fr.size; omega)
theorem TwoRows.size (h : TwoRows B e1 e2 w0 v0 u0 W v n xs u m ys) : B <= W.heap.size := Nat.le_trans h.bB h.fr.size
theorem TwoRows.blk (h : TwoRows B e1 e2 w0 v0 u0 W v n xs u m ys) {b : Nat} {t : TypeId} {cs : Array Value} (hb : Blk w0 b t cs) (h1 : v0.ownBlock ≠ some b) (h2 : u0.ownBlock ≠ some b) : Blk W b t cs :=
 h.fr.blk hb (fun q => by rcases q with q | q; exact h1 q; exact h2 q)
end
theorem ownsRow_set {w : World} {B n sz : Nat} {e : TypeId} {v : Value} {xs : List Value} (h : w.ownsRow B e sz v n xs) {p : Addr} (hp : v.ownBlock ≠ some p.block) (x : Value) : (w.setCell p x).ownsRow B e sz v n xs := by
 obtain ⟨h1, h2⟩ := h
 refine ⟨h1, ?_⟩
 rcases h2 with h2 | ⟨g', cap, cur, rfl, hg, hh, r⟩
 ·exact .inl h2
 ·exact .inr ⟨g', cap, cur, rfl, hg, (Below.heap_setCell w p x g' (fun e => hp (by simp [Value.ownBlock, e]))).trans hh, r⟩
end Go.Proofs.Ytacgakkcpmhgmaa
namespace Go.Proofs.Ytacgakkcpmhgmaa
open Go Go.RowKit Go.Proofs
theorem TwoRows.drew0 {B n m : Nat} {e1 e2 : TypeId} {W : World} {v u : Value} {xs ys : List Value} (h : TwoRows B e1 e2 W v u W v n xs u m ys) : TwoRows B e1 e2 W.drew v u W.drew v n xs u m ys :=
 ⟨h.own1.drew, h.own2.drew, h.ap, Fr.refl _ _, fun k hk => .inl hk, fun k hk => .inl hk, h.bB⟩
theorem mkI_any (N : Nat) (hN : N <= 1000) (W : World) : (Instr.makeSlice 22 (.int .i64 (N : Int)) (.int .i64 (N : Int))).run Try.prog W = .ok (.slice (some ⟨W.heap.size, 0, none⟩) N N) (W.alloc (.cells (repA N (.int .i64 0)) 3)) := by
 obtain ⟨i0, hi, hz0, hz1, hz2⟩ := info_parts info_int
 have h := run_make (P := Try.prog) W 22 3 i0 _ Try.underlying22 hi hz0 .i64 .i64 N N (by omega) (Int.le_refl _) (by rw [hz2]; omega) (by omega)
 rw [h]
 simp only [Int.toNat_natCast, hz1, Nat.mul_one]
 congr 4
 unfold repA
 apply Array.ext
 ·simp [size_madeCells]
 ·intro i h1 h2
  simp [madeCells, Value.cells, Nat.mod_one]
theorem own_mk (N : Nat) (hN : N <= 1000) (w : World) : Own (w.alloc (.cells (repA N (.int .i64 0)) 3)) w.heap.size (sl w.heap.size N N) N (rowN N fun _ => 0) := by
 have e : (rowN N fun _ => 0).map (Value.int .i64) = List.replicate N (Value.int .i64 0) := by
  apply List.ext_getElem
  ·simp [rowN]
  ·intro i h1 h2; simp [rowN]
 refine ⟨by simp [rowN], .inr ⟨w.heap.size, N, _, rfl, Nat.le_refl _, heap_alloc_new w _, Nat.le_refl _, by unfold maxLen; omega, by simp [repA], ?_⟩⟩
 rw [e]
 simp [repA]
end Go.Proofs.Ytacgakkcpmhgmaa
