/- What a call leaves as it was; parts.swap. The memory of parts; parts.add, parts.count. Contracts of slices.Repeat at one number, noneOf, newOrder; order.number. -/
import Derived.Test.YtacgakkcpmhgmaaVMiniP
import Derived.Test.YtacgakkcpmhgmaaVLastY
import Derived.Test.YtacgakkcpmhgmaaVApart
import Derived.Test.YtacgakkcpmhgmaaVLL
import Derived.Test.YtacgakkcpmhgmaaVBlk
import Derived.BigRegion
import Derived.IntWalk
import Derived.Test.YtacgakkcpmhgmaaProg
import Derived.Laws.CopyRow
import Derived.Laws.CopyOwn
import Derived.Deep.LoopGhost
set_option linter.unusedVariables false
set_option linter.unusedSimpArgs false
namespace Go.Proofs.Ytacgakkcpmhgmaa
open Go Go.RowKit Go.Proofs
structure Fr (X : Nat -> Prop) (w w' : World) : Prop where
 os : w'.os = w.os
 tape : w'.tape = w.tape
 output : w'.output = w.output
 size : w.heap.size <= w'.heap.size
 block : ∀ k, k < w.heap.size -> ¬ X k -> w'.heap[k]? = w.heap[k]?
section
variable {X Y : Nat -> Prop} {w w' w2 : World}
theorem Fr.refl (X : Nat -> Prop) (w : World) : Fr X w w := ⟨rfl, rfl, rfl, Nat.le_refl _, fun _ _ _ => rfl⟩
theorem Fr.trans (h : Fr X w w') (h' : Fr X w' w2) : Fr X w w2 :=
 ⟨h'.os.trans h.os, h'.tape.trans h.tape, h'.output.trans h.output, Nat.le_trans h.size h'.size, fun k hk hx => (h'.block k (Nat.lt_of_lt_of_le hk h.size) hx).trans (h.block k hk hx)⟩
theorem Fr.then_ (h : Fr X w w') (h' : Fr Y w' w2) (hY : ∀ k, k < w.heap.size -> Y k -> X k) : Fr X w w2 :=
 ⟨h'.os.trans h.os, h'.tape.trans h.tape, h'.output.trans h.output, Nat.le_trans h.size h'.size, fun k hk hx => (h'.block k (Nat.lt_of_lt_of_le hk h.size) (fun y => hx (hY k hk y))).trans (h.block k hk hx)⟩
theorem Fr.mono (h : Fr X w w') (hX : ∀ k, k < w.heap.size -> X k -> Y k) : Fr Y w w' := ⟨h.os, h.tape, h.output, h.size, fun k hk hy => h.block k hk (fun x => hy (hX k hk x))⟩
theorem Fr.of_below (h : Below w.heap.size w w') : Fr X w w' := ⟨h.os, h.tape, h.output, h.size, fun k hk _ => h.block k hk⟩
theorem Fr.of_grown {row : Option Nat} (h : w.grownBy w' row) (hX : ∀ k, row = some k -> X k) : Fr X w w' := ⟨h.os, h.tape, h.output, h.size, fun k hk hx => h.block k hk (fun e => hx (hX k e.symm))⟩
theorem Fr.below (h : Fr X w w') {B : Nat} (hB : B <= w.heap.size) (hX : ∀ k, k < B -> ¬ X k) : Below B w w' := ⟨h.os, h.tape, h.output, h.size, fun k hk => h.block k (Nat.lt_of_lt_of_le hk hB) (hX k hk)⟩
theorem Fr.set_ (h : Fr X w w') {p : Addr} (hp : X p.block \/ w.heap.size <= p.block) (u : Value) : Fr X w (w'.setCell p u) :=
 ⟨h.os, h.tape, h.output, by simpa [World.setCell] using h.size, fun k hk hx => (Below.heap_setCell w' p u k (by
  rintro rfl
  rcases hp with hp | hp
  ·exact hx hp
  ·omega)).trans (h.block k hk hx)⟩
theorem Fr.alloc (h : Fr X w w') (o : Obj) : Fr X w (w'.alloc o) :=
 ⟨h.os, h.tape, h.output, Nat.le_trans h.size (by simp), fun k hk hx => (Below.heap_alloc w' o k (Nat.lt_of_lt_of_le hk h.size)).trans (h.block k hk hx)⟩
theorem Fr.drewN (h : Fr X w w') (n : Nat) : Fr X w (w'.drewN n) := ⟨h.os, h.tape, h.output, h.size, h.block⟩
theorem Fr.drew (h : Fr X w w') : Fr X w w'.drew := ⟨h.os, h.tape, h.output, h.size, h.block⟩
theorem Fr.blk (h : Fr X w w') {g : Nat} {t : TypeId} {cs : Array Value} (hg : Blk w g t cs) (hx : ¬ X g) : Blk w' g t cs := (h.block g hg.lt hx).trans hg
theorem Fr.own (h : Fr X w w') {B n : Nat} {v : Value} {l : List Int} (ho : Own w B v n l) (hx : ∀ k, v.ownBlock = some k -> ¬ X k) : Own w' B v n l := by
 have hlt := ho.lt
 obtain ⟨h1, h2⟩ := ho
 refine ⟨h1, ?_⟩
 rcases h2 with h2 | ⟨g, cap, cur, rfl, hg, hh, r⟩
 ·exact .inl h2
 ·exact .inr ⟨g, cap, cur, rfl, hg, by rw [h.block g (hlt g rfl).2 (hx g rfl)]; exact hh, r⟩
theorem Fr.rows (h : Fr X w w') {α : Type} {enc : α -> List Value} {t : TypeId} {k B n : Nat} {v : Value} {l : List α} (ho : OwnE enc t k w B v n l) (hx : ∀ j, v.ownBlock = some j -> ¬ X j) : OwnE enc t k w' B v n l :=
 ho.same fun g hg => h.block g (ho.lt g hg).2 (hx g hg)
theorem Fr.cell (h : Fr X w w') {g i : Nat} {x : Value} (hc : w.cell? ⟨g, i, none⟩ = some x) (hx : ¬ X g) : w'.cell? ⟨g, i, none⟩ = some x :=
 (World.cell?_of_block (a := ⟨g, i, none⟩) (h.block g (World.block_lt_of_cell? w _ hc) hx)).trans hc
end
abbrev sl (g n c : Nat) : Value := .slice (some ⟨g, 0, none⟩) n c
theorem Own.cellAt {w : World} {B g n c : Nat} {f : Nat -> Nat} (h : Own w B (sl g n c) n (rowN n f)) {i : Nat} (hi : i < n) : w.cell? ⟨g, i, none⟩ = some (.int .i64 (f i : Int)) := by
 rcases h.form with ⟨e, _⟩ | ⟨g', c', e, _, _, _, hc⟩
 ·cases e
 ·simp only [Value.slice.injEq, Option.some.injEq, Addr.mk.injEq, and_true, true_and] at e
  obtain ⟨rfl, rfl⟩ := e
  have := hc i hi
  rw [rowN_get f hi, Nat.zero_add] at this
  exact this
theorem Own.storeN {w : World} {B g c n : Nat} {f : Nat -> Nat} (h : Own w B (sl g n c) n (rowN n f)) (i v : Nat) : Own (w.setCell ⟨g, i, none⟩ (.int .i64 (v : Int))) B (sl g n c) n (rowN n (updN f i v)) := by
 have := (h.stored i (v : Int)).1
 rw [rowN_set] at this
 exact this
theorem Own.farN {w : World} {B g n m c : Nat} {l : List Int} (h : Own w B (sl g n c) n l) {p : Addr} (hp : g ≠ p.block) (x : Value) : Own (w.setCell p x) B (sl g n c) n l := by
 obtain ⟨h1, h2⟩ := h
 refine ⟨h1, ?_⟩
 rcases h2 with h2 | ⟨g', cap, cur, e, hg, hh, r⟩
 ·exact .inl h2
 ·have e' := e
  simp only [Value.slice.injEq, Option.some.injEq, Addr.mk.injEq, and_true, true_and] at e'
  obtain ⟨rfl, rfl⟩ := e'
  exact .inr ⟨g, c, cur, e, hg, (Below.heap_setCell w p x g hp).trans hh, r⟩
theorem Own.capN {w : World} {B g n c : Nat} {l : List Int} (h : Own w B (sl g n c) n l) : n <= c /\ c <= maxLen /\ B <= g /\ g < w.heap.size := by
 have h0 := h
 rcases h.2 with ⟨e, _⟩ | ⟨g', cap, cur, e, hg, hh, h1, h2, _⟩
 ·cases e
 ·have e' := e
  simp only [Value.slice.injEq, Option.some.injEq, Addr.mk.injEq, and_true, true_and] at e'
  obtain ⟨rfl, rfl⟩ := e'
  exact ⟨h1, h2, hg, (Array.getElem?_eq_some_iff.1 hh).1⟩
end Go.Proofs.Ytacgakkcpmhgmaa
namespace Go.Proofs.Ytacgakkcpmhgmaa
open Go Go.RowKit Go.Proofs
def encS (s : Nat × Nat × Nat) : List Value := [.int .i64 (s.1 : Int), .int .i64 (s.2.1 : Int), .int .i64 (s.2.2 : Int)]
theorem encS_len (s : Nat × Nat × Nat) : (encS s).length = 3 := rfl
def rowS (c : Nat) (fr to mk : Nat -> Nat) : List (Nat × Nat × Nat) := (List.range c).map fun q => (fr q, to q, mk q)
theorem rowS_len (c : Nat) (fr to mk : Nat -> Nat) : (rowS c fr to mk).length = c := by simp [rowS]
theorem rowS_at {c : Nat} (fr to mk : Nat -> Nat) {q : Nat} (h : q < c) : (rowS c fr to mk)[q]? = some (fr q, to q, mk q) := by simp [rowS, h]
theorem rowS_push (c : Nat) (fr to mk : Nat -> Nat) (a b m : Nat) : rowS c fr to mk ++ [(a, b, m)] = rowS (c + 1) (updN fr c a) (updN to c b) (updN mk c m) := by
 unfold rowS
 rw [List.range_succ, List.map_append]
 congr 1
 ·refine List.map_congr_left fun q hq => ?_
  have : q ≠ c := by have := List.mem_range.1 hq; omega
  rw [updN_ne _ _ this, updN_ne _ _ this, updN_ne _ _ this]
 ·simp [updN]
structure Lay where
 b : Nat
 ga : Nat
 ca : Nat
 gp : Nat
 cp : Nat
 go : Nat
 co : Nat
 gs : Nat
 cs : Nat
 tn : Nat
 tv : Value
def Lay.has (L : Lay) (k : Nat) : Prop := k = L.b \/ k = L.ga \/ k = L.gp \/ k = L.go \/ k = L.gs \/ L.tv.ownBlock = some k
structure Lay.Ok (L : Lay) : Prop where
 ba : L.b ≠ L.ga
 bp : L.b ≠ L.gp
 bo : L.b ≠ L.go
 bs : L.b ≠ L.gs
 bt : L.tv.ownBlock ≠ some L.b
 ap : L.ga ≠ L.gp
 ao : L.ga ≠ L.go
 as_ : L.ga ≠ L.gs
 at_ : L.tv.ownBlock ≠ some L.ga
 po : L.gp ≠ L.go
 ps : L.gp ≠ L.gs
 pt : L.tv.ownBlock ≠ some L.gp
 os : L.go ≠ L.gs
 ot : L.tv.ownBlock ≠ some L.go
 st : L.tv.ownBlock ≠ some L.gs
theorem Lay.Ok.gs_ {L : Lay} (h : L.Ok) {g cp : Nat} (hg : g = L.gs \/ ∀ k, L.has k -> k ≠ g) : ({ L with gs := g, cs := cp } : Lay).Ok := by
 rcases hg with rfl | hg
 ·exact ⟨h.ba, h.bp, h.bo, h.bs, h.bt, h.ap, h.ao, h.as_, h.at_, h.po, h.ps, h.pt, h.os, h.ot, h.st⟩
 ·exact ⟨h.ba, h.bp, h.bo, hg _ (.inl rfl), h.bt, h.ap, h.ao, hg _ (.inr (.inl rfl)), h.at_, h.po, hg _ (.inr (.inr (.inl rfl))), h.pt, hg _ (.inr (.inr (.inr (.inl rfl)))), h.ot, fun e => hg g (.inr (.inr (.inr (.inr (.inr e))))) rfl⟩
section
variable {w w' : World} {B : Nat} {L : Lay} {N c : Nat} {A P f fr to mk : Nat -> Nat} {Tl : List Nat}
end
theorem rows_set {w : World} {B g n cp : Nat} {t : TypeId} {l : List (Nat × Nat × Nat)} (h : OwnE encS t 3 w B (sl g n cp) n l) {p : Addr} (hp : g ≠ p.block) (x : Value) : OwnE encS t 3 (w.setCell p x) B (sl g n cp) n l :=
 h.same fun g' hg => by
  have : g = g' := by simpa [Value.ownBlock] using hg
  subst this
  exact Below.heap_setCell w p x g hp
theorem own_set {w : World} {B n : Nat} {v : Value} {l : List Int} (h : Own w B v n l) {p : Addr} (hp : v.ownBlock ≠ some p.block) (x : Value) : Own (w.setCell p x) B v n l := by
 obtain ⟨h1, h2⟩ := h
 refine ⟨h1, ?_⟩
 rcases h2 with h2 | ⟨g', cap, cur, rfl, hg, hh, r⟩
 ·exact .inl h2
 ·exact .inr ⟨g', cap, cur, rfl, hg, (Below.heap_setCell w p x g' (fun e => hp (by simp [Value.ownBlock, e]))).trans hh, r⟩
def addF (f P : Nat -> Nat) (c x i : Nat) : Nat -> Nat := fun z => if x <= P z /\ P z < x + i then c else f z
theorem addF_zero (f P : Nat -> Nat) (c x : Nat) : addF f P c x 0 = f := by funext z; unfold addF; rw [if_neg (by omega)]
theorem addF_succ {A P f : Nat -> Nat} {N c x i : Nat} (hpa : ∀ x, x < N -> P x < N /\ A (P x) = x) (hap : ∀ i, i < N -> A i < N /\ P (A i) = i) (hi : x + i < N) : rowN N (updN (addF f P c x i) (A (x + i)) c) = rowN N (addF f P c x (i + 1)) := by
 refine rowN_congr fun z hz => ?_
 by_cases e : z = A (x + i)
 ·rw [e, updN_at]
  unfold addF
  rw [(hap _ hi).2, if_pos ⟨by omega, by omega⟩]
 ·rw [updN_ne _ _ e]
  have : P z ≠ x + i := fun q => e (by rw [<- q, (hpa z hz).2])
  unfold addF
  by_cases q : x <= P z /\ P z < x + i
  ·rw [if_pos q, if_pos ⟨q.1, by omega⟩]
  ·rw [if_neg q, if_neg (fun r => q ⟨r.1, by omega⟩)]
end Go.Proofs.Ytacgakkcpmhgmaa
namespace Go.Proofs.Ytacgakkcpmhgmaa
open Go Go.RowKit Go.Proofs
def repA (n : Nat) (v : Value) : Array Value := (List.replicate n v).toArray
theorem info_int1 : (Try.prog.info? 3).map (·.size) = some 1 := by kernel_rfl
theorem wp_copy_self {dst : Option Tmp} {ty : TypeId} {pos : String} {after : Array Edge} {a : Act} {w : World} {K : Act -> World -> Prop} {Q : Exit -> Act -> World -> Prop} (d s : Operand) (g N k : Nat) (x : Value) (hx : x.oneCell' = true)
  (hd : a.eval d = .slice (some ⟨g, k, none⟩) (N - k) (N - k)) (hs : ∃ c, a.eval s = .slice (some ⟨g, 0, none⟩) k c) (hk : k <= N) (z : List Value) (hz : z.length = N - k)
  (hg : Blk w g 3 (List.replicate k x ++ z).toArray)
  (h : ∀ w', Blk w' g 3 (List.replicate (k + min k (N - k)) x ++ z.drop (min k (N - k))).toArray -> Below g w w' -> K (a.put dst (.int .i64 (min k (N - k) : Nat))) w') :
  Oper.wp Try.prog { dst, op := .call { callee := .builtin .copy, args := #[d, s], argTypes := #[22, 22] }, type := ty, pos, after, guard := none } a w K Q := by
  obtain ⟨c, hs⟩ := hs
  have hrun := run_copy_row (P := Try.prog) w 22 22 ty 3 g k (N - k) (N - k) ⟨g, 0, none⟩ k c (List.replicate k x ++ z).toArray 3 (List.replicate (min k (N - k)) x) Try.underlying22 info_int1 hg
   (by rw [List.length_replicate]) (fun j v hj => by
    obtain ⟨hj1, rfl⟩ := List.getElem?_eq_some_iff.1 hj
    rw [List.length_replicate] at hj1
    rw [Addr.add_lit, Nat.zero_add, Blk.cell hg, List.getElem_replicate]
    simp only [List.getElem?_toArray]
    rw [List.getElem?_append_left (by rw [List.length_replicate]; omega), List.getElem?_replicate, if_pos (by omega)]) (by simp; omega) (fun v hv => by rw [List.eq_of_mem_replicate hv]; exact hx)
  unfold Oper.wp
  simp only [execOp, resolve, invoke, builtin, Sem.run_bind, Sem.run_pure, Result.andThen_ok, List.map_toArray, List.map_cons, List.map_nil, hd, hs, hrun]
  have e : (List.replicate k x ++ z).toArray.toList.take k ++ List.replicate (min k (N - k)) x ++ (List.replicate k x ++ z).toArray.toList.drop (k + (List.replicate (min k (N - k)) x).length) = List.replicate (k + min k (N - k)) x ++ z.drop (min k (N - k)) := by
   simp only [List.length_replicate]
   rw [List.take_append_of_le_length (by simp), List.take_of_length_le (by simp), List.drop_append, List.length_replicate, List.drop_of_length_le (by simp), List.nil_append, Nat.add_sub_cancel_left, List.replicate_append_replicate]
  rw [e, List.length_replicate]
  refine h _ (setRow_heap w g _ _ 3 _ hg) (below_setRow (Below.refl _ _) (Nat.le_refl _) _)
end Go.Proofs.Ytacgakkcpmhgmaa
