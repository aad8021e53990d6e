/- A block that is known whole; the frame 'only this block, and what is new, has turned'. Rows of structs of k cells that the call itself gathers: append of one, at an operation that alone may come up; what their cells stand for. Rows of structs, their cells told by an encoding: those that the call itself gathers; append of one; what a slice of them reads as. -/
import Derived.Test.YtacgakkcpmhgmaaProg
import Derived.WalkKit
import Derived.Lib.Hide
import Derived.Below
import Derived.Laws.OwnMore
import Derived.Deep.Draws
import Derived.Laws.Rows
import Derived.OwnWalk
import Derived.Maps.AppendAt
import Derived.Deep.AppendLies
import Derived.Test.YtacgakkcpmhgmaaVApart
import Derived.Laws.AppendOwnNone
set_option linter.unusedVariables false
set_option linter.unusedSimpArgs false
namespace Go.Proofs.Ytacgakkcpmhgmaa
open Go Go.RowKit
def Blk (w : World) (g : Nat) (t : TypeId) (cs : Array Value) : Prop := w.heap[g]? = some (.cells cs t (0, 0))
section
variable {w w' : World} {g : Nat} {t : TypeId} {cs : Array Value}
theorem Blk.lt (h : Blk w g t cs) : g < w.heap.size := by
 rcases Nat.lt_or_ge g w.heap.size with hlt | hge
 ·exact hlt
 ·unfold Blk at h; rw [Array.getElem?_eq_none hge] at h; cases h
theorem Blk.cell (h : Blk w g t cs) (i : Nat) : w.cell? ⟨g, i, none⟩ = cs[i]? := cell_of_row w g i cs t (0, 0) h
theorem Blk.frozen (h : Blk w g t cs) (i : Nat) : w.frozen? ⟨g, i, none⟩ = false := by
 unfold Blk at h
 simp [World.frozen?, h]
theorem Blk.new (w : World) (t : TypeId) (cs : Array Value) : Blk (w.alloc (.cells cs t)) w.heap.size t cs := heap_alloc_new w _
theorem Blk.drew (h : Blk w g t cs) : Blk w.drew g t cs := h
theorem Blk.drewN (h : Blk w g t cs) (n : Nat) : Blk (w.drewN n) g t cs := h
theorem Blk.alloc (h : Blk w g t cs) (o : Obj) : Blk (w.alloc o) g t cs := (Below.heap_alloc w o g h.lt).trans h
theorem Blk.set_ (h : Blk w g t cs) (i : Nat) (u : Value) : Blk (w.setCell ⟨g, i, none⟩ u) g t (cs.setIfInBounds i u) := by
 unfold Blk at h ⊢
 simp [World.setCell, Array.getElem?_modify, h]
theorem Blk.far (h : Blk w g t cs) {p : Addr} (hp : g ≠ p.block) (u : Value) : Blk (w.setCell p u) g t cs := (Below.heap_setCell w p u g hp).trans h
theorem Blk.below {B : Nat} (h : Blk w g t cs) (hb : Below B w w') (hg : g < B) : Blk w' g t cs := (hb.block g hg).trans h
theorem Blk.grown {row : Option Nat} (h : Blk w g t cs) (hb : w.grownBy w' row) (hg : some g ≠ row) : Blk w' g t cs := (hb.block g h.lt hg).trans h
end
section
variable {a w w' : World} {g : Nat} {row : Option Nat}
theorem only_refl (w : World) (row : Option Nat) : w.grownBy w row := ⟨rfl, rfl, rfl, Nat.le_refl _, fun _ _ _ => rfl⟩
theorem only_drewN (h : a.grownBy w row) (n : Nat) : a.grownBy (w.drewN n) row := ⟨h.os, h.tape, h.output, h.size, h.block⟩
theorem only_drew (h : a.grownBy w row) : a.grownBy w.drew row := ⟨h.os, h.tape, h.output, h.size, h.block⟩
theorem only_alloc (h : a.grownBy w row) (o : Obj) : a.grownBy (w.alloc o) row :=
 ⟨h.os, h.tape, h.output, Nat.le_trans h.size (by simp), fun i hi hne => (Below.heap_alloc w o i (Nat.lt_of_lt_of_le hi h.size)).trans (h.block i hi hne)⟩
theorem only_setCell (h : a.grownBy w (some g)) {p : Addr} (hp : p.block = g \/ a.heap.size <= p.block) (u : Value) : a.grownBy (w.setCell p u) (some g) :=
 ⟨h.os, h.tape, h.output, by simpa [World.setCell] using h.size, fun i hi hne => (Below.heap_setCell w p u i (by
  rintro rfl
  rcases hp with hp | hp
  ·exact hne (by rw [hp])
  ·omega)).trans (h.block i hi hne)⟩
theorem only_new (h : a.grownBy w row) {p : Addr} (hp : a.heap.size <= p.block) (u : Value) : a.grownBy (w.setCell p u) row :=
 ⟨h.os, h.tape, h.output, by simpa [World.setCell] using h.size, fun i hi hne => (Below.heap_setCell w p u i (by
  rintro rfl
  omega)).trans (h.block i hi hne)⟩
theorem only_of_below (h : Below a.heap.size a w) (row : Option Nat) : a.grownBy w row := ⟨h.os, h.tape, h.output, h.size, fun i hi _ => h.block i hi⟩
theorem only_trans (h : a.grownBy w row) (k : w.grownBy w' row) : a.grownBy w' row :=
 ⟨k.os.trans h.os, k.tape.trans h.tape, k.output.trans h.output, Nat.le_trans h.size k.size, fun i hi hne => (k.block i (Nat.lt_of_lt_of_le hi h.size) hne).trans (h.block i hi hne)⟩
theorem only_below (h : a.grownBy w row) (k : Below w.heap.size w w') : a.grownBy w' row := only_trans h (only_of_below k row)
theorem below_of_only (h : a.grownBy w (some g)) {B : Nat} (hB : B <= g) (hB2 : B <= a.heap.size) : Below B a w :=
 ⟨h.os, h.tape, h.output, h.size, fun i hi => h.block i (by omega) (fun e => by injection e with e; omega)⟩
end
theorem bcell {W w1 : World} (hb : Below W.heap.size W w1) : (∀ b o, b < W.heap.size -> w1.cell? ⟨b, o, none⟩ = W.cell? ⟨b, o, none⟩) /\ (∀ b o, b < W.heap.size -> w1.frozen? ⟨b, o, none⟩ = W.frozen? ⟨b, o, none⟩) :=
 ⟨fun b o h => hb.cell (p := ⟨b, o, none⟩) h, fun b o h => hb.frozen (p := ⟨b, o, none⟩) h⟩
end Go.Proofs.Ytacgakkcpmhgmaa
namespace Go.Proofs.Ytacgakkcpmhgmaa
open Go Go.RowKit
theorem wp_pushK {P : Program} {w : World} {o : Oper} {a : Act} {K : Act -> World -> Prop} {Q : Exit -> Act -> World -> Prop} (hgd : o.guard = none) (s x : Operand) (t e : TypeId)
  (ho : o.op = .call { callee := .builtin .append, args := #[s, x], argTypes := #[t, t] }) (size bytes : Nat) (z : Value) (ht : P.underlying t = some (.slice e))
  (hinfo : (P.info? e).map (fun i => (i.zero, i.size, i.bytes)) = some (some z, size, bytes)) (hzs : z.cells.size = size) (hsz : 0 < size) (hby : bytes <= 1000)
  (B : Nat) (v : Value) (n : Nat) (xs : List Value) (hs : a.eval s = v) (hown : w.ownsRow B e size v n xs)
  (H : Nat) (hx : a.eval x = .slice (some ⟨H, 0, none⟩) 1 1) (cs : Array Value) (hl : cs.size = size) (hc : w.heap[H]? = some (.cells cs e (0, 0))) (h1 : ∀ u ∈ cs.toList, u.oneCell' = true)
  (hn : n <= 1000000) (hB : B <= w.heap.size)
  (h : ∀ g cap w', w'.ownsRow B e size (.slice (some ⟨g, 0, none⟩) (n + 1) cap) (n + 1) (xs ++ cs.toList) -> w.grownBy w' v.ownBlock -> (v.ownBlock = some g \/ g = w.heap.size) -> K (a.put o.dst (.slice (some ⟨g, 0, none⟩) (n + 1) cap)) w') :
  Oper.wp P o a w K Q := by
  obtain ⟨i, hi, hz0, hz1, hz2⟩ := info_parts hinfo
  have hcc : ∀ j u, cs.toList[j]? = some u -> w.cell? ((⟨H, 0, none⟩ : Addr).add j) = some u := fun j u hj => by
   rw [Addr.add_lit, Nat.zero_add, cell_of_row w H j cs e (0, 0) hc]
   simpa using hj
  have hbb : (n + 1) * bytes <= 140737488355328 := Nat.le_trans (Nat.mul_le_mul (by omega : n + 1 <= 1000001) hby) (by omega)
  obtain ⟨v', w', hr, q2, q3, q4, q5⟩ := run_append_own_at (P := P) w B t o.type e i z size bytes ht hi hz0 hz1 hz2 hzs hsz v n xs hown ⟨H, 0, none⟩ 1 1 cs.toList (by simp [hl]) hcc h1 (by unfold maxLen; omega) hbb hB
  obtain ⟨g, cap, rfl⟩ : ∃ g cap, v' = .slice (some ⟨g, 0, none⟩) (n + 1) cap := by
   rcases q2.2 with ⟨_, h0⟩ | ⟨g, cap, cur, rfl, _⟩
   ·omega
   ·exact ⟨g, cap, rfl⟩
  unfold Oper.wp execOp
  simp only [ho, resolve, invoke, builtin, Sem.run_bind, Sem.run_pure, Result.andThen_ok, List.map_toArray, List.map_cons, List.map_nil, hs, hx, hr]
  refine h g cap w' q2 q3 ?_
  rcases q5 with q | q
  ·exact .inl q.symm
  ·exact .inr (by injection q)
def RowRel {α β : Type} (R : α -> β -> Prop) : List α -> List β -> Prop
 | [], [] => True
 | a :: l, b :: m => R a b /\ RowRel R l m
 | [], _ :: _ => False
 | _ :: _, [] => False
section
variable {α β : Type} {R R' : α -> β -> Prop}
theorem RowRel.len : ∀ {l : List α} {m : List β}, RowRel R l m -> l.length = m.length
 | [], [], _ => rfl
 | _ :: _, _ :: _, h => by simp [RowRel.len h.2]
 | [], _ :: _, h => h.elim
 | _ :: _, [], h => h.elim
theorem RowRel.mono (hR : ∀ a b, R a b -> R' a b) : ∀ {l : List α} {m : List β}, RowRel R l m -> RowRel R' l m
 | [], [], _ => trivial
 | _ :: _, _ :: _, h => ⟨hR _ _ h.1, RowRel.mono hR h.2⟩
 | [], _ :: _, h => h.elim
 | _ :: _, [], h => h.elim
theorem RowRel.push {a : α} {b : β} (hab : R a b) : ∀ {l : List α} {m : List β}, RowRel R l m -> RowRel R (l ++ [a]) (m ++ [b])
 | [], [], _ => ⟨hab, trivial⟩
 | _ :: _, _ :: _, h => ⟨h.1, RowRel.push hab h.2⟩
 | [], _ :: _, h => h.elim
 | _ :: _, [], h => h.elim
theorem RowRel.at_ : ∀ {l : List α} {m : List β}, RowRel R l m -> ∀ (i : Nat) (h1 : i < l.length) (h2 : i < m.length), R l[i] m[i]
 | [], [], _, i, h1, _ => absurd h1 (by simp)
 | _ :: _, _ :: _, h, 0, _, _ => h.1
 | _ :: _, _ :: _, h, i + 1, h1, h2 => RowRel.at_ h.2 i (by simpa using h1) (by simpa using h2)
 | [], _ :: _, h, _, _, _ => h.elim
 | _ :: _, [], h, _, _, _ => h.elim
end
theorem flatMap_len {α : Type} (enc : α -> List Value) (k : Nat) (he : ∀ a, (enc a).length = k) (l : List α) : (l.flatMap enc).length = l.length * k := by
 induction l with
 | nil => simp
 | cons a l ih => rw [List.flatMap_cons, List.length_append, he, ih, List.length_cons, Nat.add_mul]; omega
theorem flatMap_at {α : Type} (enc : α -> List Value) (k : Nat) (he : ∀ a, (enc a).length = k) : ∀ (l : List α) (i j : Nat) (hi : i < l.length), j < k -> (l.flatMap enc)[i * k + j]? = (enc l[i])[j]? := by
 intro l
 induction l with
 | nil => intro i j hi; simp at hi
 | cons a l ih =>
   intro i j hi hj
   rw [List.flatMap_cons]
   cases i with
   | zero => rw [Nat.zero_mul, Nat.zero_add, List.getElem?_append_left (by rw [he]; exact hj)]; rfl
   | succ i =>
     have e : (i + 1) * k + j = i * k + j + k := by rw [Nat.add_mul]; omega
     rw [e, List.getElem?_append_right (by rw [he]; omega), he, Nat.add_sub_cancel]
     exact ih i j (by simpa using hi) hj
end Go.Proofs.Ytacgakkcpmhgmaa
namespace Go.Proofs.Ytacgakkcpmhgmaa
open Go Go.RowKit
theorem flatE_len {α : Type} (enc : α -> List Value) (k : Nat) (he : ∀ a, (enc a).length = k) (l : List α) : (l.flatMap enc).length = l.length * k := by
 induction l with
 | nil => simp
 | cons a l ih => rw [List.flatMap_cons, List.length_append, he, ih, List.length_cons, Nat.add_mul]; omega
theorem flatE_at {α : Type} (enc : α -> List Value) (k : Nat) (he : ∀ a, (enc a).length = k) : ∀ (l : List α) (i j : Nat) (hi : i < l.length), j < k -> (l.flatMap enc)[i * k + j]? = (enc l[i])[j]? := by
 intro l
 induction l with
 | nil => intro i j hi; simp at hi
 | cons a l ih =>
   intro i j hi hj
   rw [List.flatMap_cons]
   cases i with
   | zero => rw [Nat.zero_mul, Nat.zero_add, List.getElem?_append_left (by rw [he]; exact hj)]; rfl
   | succ i =>
     have e : (i + 1) * k + j = i * k + j + k := by rw [Nat.add_mul]; omega
     rw [e, List.getElem?_append_right (by rw [he]; omega), he, Nat.add_sub_cancel]
     exact ih i j (by simpa using hi) hj
section
variable {α : Type}
def OwnE (enc : α -> List Value) (t : TypeId) (k : Nat) (w : World) (B : Nat) (v : Value) (n : Nat) (l : List α) : Prop := w.ownsRow B t k v n (l.flatMap enc)
def ReadsE (enc : α -> List Value) (k : Nat) (w : World) (v : Value) (n : Nat) (l : List α) : Prop :=
 l.length = n /\ ∃ a cap, v = .slice a n cap /\ n <= cap /\ cap <= maxLen /\ (a = none -> cap = 0) /\ ∀ i x, l[i]? = some x -> ∃ b off, a = some ⟨b, off, none⟩ /\ ∀ j u, (enc x)[j]? = some u -> w.cell? ⟨b, off + i * k + j, none⟩ = some u
variable {enc : α -> List Value} {t : TypeId} {k : Nat} {w w' : World} {B C n : Nat} {v u : Value} {l : List α}
theorem OwnE.nil (w : World) (B : Nat) : OwnE enc t k w B (.slice none 0 0) 0 [] := World.ownsRow_nil _ _ _ _
theorem OwnE.len (h : OwnE enc t k w B v n l) (he : ∀ a, (enc a).length = k) (hk : 0 < k) : l.length = n := by
 have h1 := h.1
 rw [flatE_len enc k he] at h1
 exact Nat.eq_of_mul_eq_mul_right hk h1
theorem OwnE.alloc (h : OwnE enc t k w B v n l) (o : Obj) : OwnE enc t k (w.alloc o) B v n l := World.ownsRow.alloc h o
theorem OwnE.drew (h : OwnE enc t k w B v n l) : OwnE enc t k w.drew B v n l := World.ownsRow.drew h
theorem OwnE.lt (h : OwnE enc t k w B v n l) : ∀ j, v.ownBlock = some j -> B <= j /\ j < w.heap.size := World.ownsRow.lt h
theorem OwnE.kept {row : Option Nat} (h : OwnE enc t k w B v n l) (hg : w.grownBy w' row) (hne : v.ownBlock = none \/ v.ownBlock ≠ row) : OwnE enc t k w' B v n l := World.ownsRow.kept h hg hne
theorem OwnE.more {B' : Nat} (h : OwnE enc t k w B v n l) (hB : B' <= B) : OwnE enc t k w B' v n l := by
 obtain ⟨h1, h2⟩ := h
 refine ⟨h1, ?_⟩
 rcases h2 with h2 | ⟨g, cap, cur, rfl, hg, r⟩
 ·exact .inl h2
 ·exact .inr ⟨g, cap, cur, rfl, by omega, r⟩
theorem OwnE.same (h : OwnE enc t k w B v n l) (hk : ∀ g, v.ownBlock = some g -> w'.heap[g]? = w.heap[g]?) : OwnE enc t k w' B v n l := by
 obtain ⟨h1, h2⟩ := h
 refine ⟨h1, ?_⟩
 rcases h2 with h2 | ⟨g, cap, cur, rfl, hg, hh, r⟩
 ·exact .inl h2
 ·exact .inr ⟨g, cap, cur, rfl, hg, by rw [hk g rfl]; exact hh, r⟩
theorem OwnE.below (h : OwnE enc t k w B v n l) (hlt : ∀ j, v.ownBlock = some j -> j < C) (hb : Below C w w') : OwnE enc t k w' B v n l := h.same fun g hg => hb.block g (hlt g hg)
theorem OwnE.below_top (h : OwnE enc t k w B v n l) (hb : Below w.heap.size w w') : OwnE enc t k w' B v n l := h.below (fun j hj => (h.lt j hj).2) hb
theorem OwnE.form (h : OwnE enc t k w B v n l) (he : ∀ a, (enc a).length = k) (hk : 0 < k) :
  (v = .slice none 0 0 /\ n = 0 /\ l = []) \/ ∃ g cap, v = .slice (some ⟨g, 0, none⟩) n cap /\ B <= g /\ g < w.heap.size /\ n <= cap /\ cap <= maxLen /\
   ∀ i x, l[i]? = some x -> ∀ j u, (enc x)[j]? = some u -> w.cell? ⟨g, 0 + i * k + j, none⟩ = some u := by
  have hlen := h.len he hk
  have h0 := h
  rcases h.2 with ⟨rfl, rfl⟩ | ⟨g, cap, cur, rfl, hg, hh, hnc, hcm, _⟩
  ·exact .inl ⟨rfl, rfl, List.eq_nil_of_length_eq_zero hlen⟩
  ·refine .inr ⟨g, cap, rfl, hg, (Array.getElem?_eq_some_iff.1 hh).1, hnc, hcm, fun i x hi j u hj => ?_⟩
   obtain ⟨hi', rfl⟩ := List.getElem?_eq_some_iff.1 hi
   have hjk : j < k := by
    obtain ⟨q, _⟩ := List.getElem?_eq_some_iff.1 hj
    rw [he] at q; exact q
   have hij : i * k + j < n * k := by
    have h1 : (i + 1) * k <= n * k := Nat.mul_le_mul_right _ (by omega)
    rw [Nat.succ_mul] at h1
    omega
   rw [Nat.zero_add, World.ownsRow.cellAt h0 (i * k + j) hij, flatE_at enc k he l i j hi' hjk]
   exact hj
theorem OwnE.reads (h : OwnE enc t k w B v n l) (he : ∀ a, (enc a).length = k) (hk : 0 < k) : ReadsE enc k w v n l := by
 refine ⟨h.len he hk, ?_⟩
 rcases h.form he hk with ⟨rfl, rfl, rfl⟩ | ⟨g, cap, rfl, _, _, h1, h2, hc⟩
 ·exact ⟨none, 0, rfl, Nat.le_refl _, Nat.zero_le _, fun _ => rfl, fun i x hi => by simp at hi⟩
 ·exact ⟨_, cap, rfl, h1, h2, fun e => (by cases e), fun i x hi => ⟨g, 0, rfl, hc i x hi⟩⟩
theorem ReadsE.nil (w : World) : ReadsE enc k w (.slice none 0 0) 0 [] := ⟨rfl, none, 0, rfl, Nat.le_refl _, Nat.zero_le _, fun _ => rfl, fun i x hi => by simp at hi⟩
theorem ReadsE.same (h : ReadsE enc k w v n l) (hk : ∀ b o x, w.cell? ⟨b, o, none⟩ = some x -> w'.cell? ⟨b, o, none⟩ = some x) : ReadsE enc k w' v n l := by
 obtain ⟨h1, a, cap, h2, h5, h6, h3, h4⟩ := h
 refine ⟨h1, a, cap, h2, h5, h6, h3, fun i x hi => ?_⟩
 obtain ⟨b, off, e, hc⟩ := h4 i x hi
 exact ⟨b, off, e, fun j u hj => hk _ _ _ (hc j u hj)⟩
theorem ReadsE.below (h : ReadsE enc k w v n l) (hb : Below w.heap.size w w') : ReadsE enc k w' v n l :=
 h.same fun b o x hx => by rw [hb.cell (p := ⟨b, o, none⟩) (World.block_lt_of_cell? w _ hx)]; exact hx
theorem ReadsE.alloc (h : ReadsE enc k w v n l) (o : Obj) : ReadsE enc k (w.alloc o) v n l :=
 h.same fun b o' x hx => by rw [World.cell?_alloc_past o b o' (World.block_lt_of_cell? w _ hx)]; exact hx
theorem ReadsE.form (h : ReadsE enc k w v n l) : ∃ a cap, v = .slice a n cap /\ n <= cap /\ cap <= 9223372036854775807 /\ l.length = n := by
 obtain ⟨h1, a, cap, h2, h5, h6, _⟩ := h
 exact ⟨a, cap, h2, h5, by unfold maxLen at h6; exact h6, h1⟩
theorem ReadsE.at {a : Option Addr} {cap : Nat} (h : ReadsE enc k w (.slice a n cap) n l) (he : ∀ a, (enc a).length = k) (hk : 0 < k) (i : Nat) (x : α) (hi : l[i]? = some x) :
  ∃ b off, a = some ⟨b, off, none⟩ /\ b < w.heap.size /\ ∀ j u, (enc x)[j]? = some u -> w.cell? ⟨b, off + i * k + j, none⟩ = some u := by
  obtain ⟨h1, a', cap', h2, h5, h6, h3, h4⟩ := h
  simp only [Value.slice.injEq, true_and] at h2
  obtain ⟨rfl, rfl⟩ := h2
  obtain ⟨b, off, e, hc⟩ := h4 i x hi
  refine ⟨b, off, e, ?_, hc⟩
  have hl : 0 < (enc x).length := by rw [he]; exact hk
  exact World.block_lt_of_cell? w _ (hc 0 (enc x)[0] (List.getElem?_eq_getElem hl))
end
structure PushedE {α : Type} (enc : α -> List Value) (t : TypeId) (k : Nat) (B : Nat) (w0 w1 : World) (v : Value) (g cap n : Nat) (l : List α) (x : α) : Prop where
 own : OwnE enc t k w1 B (.slice (some ⟨g, 0, none⟩) (n + 1) cap) (n + 1) (l ++ [x])
 grow : w0.grownBy w1 v.ownBlock
 at_ : v.ownBlock = some g \/ w0.heap.size <= g
 old : ∀ j, v.ownBlock = some j -> B <= j /\ j < w0.heap.size
section
variable {α : Type} {enc : α -> List Value} {t : TypeId} {k B C n g cap : Nat} {w w0 w1 : World} {v u : Value} {l : List α} {x : α}
theorem PushedE.below (h : PushedE enc t k B w0 w1 v g cap n l x) (hb : Below C w w0) (hC : C <= B) (hC2 : C <= w0.heap.size) : Below C w w1 :=
 hb.grown h.grow hC2 (fun k hk => Nat.le_trans hC (h.old k hk).1)
theorem PushedE.size (h : PushedE enc t k B w0 w1 v g cap n l x) : w0.heap.size <= w1.heap.size := h.grow.size
theorem PushedE.cell {b o : Nat} {y : Value} (h : PushedE enc t k B w0 w1 v g cap n l x) (hc : w0.cell? ⟨b, o, none⟩ = some y) (hne : some b ≠ v.ownBlock) : w1.cell? ⟨b, o, none⟩ = some y := h.grow.cell hc hne
end
theorem wpList_pushE {α : Type} {enc : α -> List Value} {e : TypeId} {k : Nat} {P : Program} {ops : Array Oper} {rest : List Oper} {o : Oper} {a : Act} {Q : Exit -> Act -> World -> Prop} (hgd : o.guard = none) (s x : Operand) (T : TypeId)
  (ho : o.op = .call { callee := .builtin .append, args := #[s, x], argTypes := #[T, T] }) (by_ : Nat) (z : Value)
  (ht : P.underlying T = some (.slice e)) (hinfo : (P.info? e).map (fun i => (i.zero, i.size, i.bytes)) = some (some z, k, by_)) (hzs : z.cells.size = k) (hk : 0 < k) (hby : by_ <= 100)
  (B : Nat) (w0 : World) (v : Value) (n : Nat) (l : List α) (y : α) (cs : Array Value) (hcs : cs = (enc y).toArray) (hcl : (enc y).length = k) (h1 : ∀ u ∈ enc y, u.oneCell' = true)
  (hs : a.eval s = v) (hown : OwnE enc e k w0 B v n l) (H : Nat) (hx : a.eval x = .slice (some ⟨H, 0, none⟩) 1 1) (hH : w0.heap.size = H)
  (hn : n <= 1000000000) (hB : B <= w0.heap.size)
  (h : ∀ g cap w1, PushedE enc e k B w0 w1 v g cap n l y -> wpList P ops Q rest (a.put o.dst (.slice (some ⟨g, 0, none⟩) (n + 1) cap)) w1) : wpList P ops Q (o :: rest) a (w0.alloc (.cells cs e)) := by
  subst hH; subst hcs
  obtain ⟨i0, hi, hz0, hz1, hz2⟩ := info_parts hinfo
  refine wpList_append_lies _ hgd s x _ ho B e i0 _ k by_ ht hi hz0 hz1 hz2 hzs hk v n (l.flatMap enc) hs (World.ownsRow.alloc hown _) ⟨w0.heap.size, 0, none⟩ 1 1 (enc y) hx (by rw [hcl, Nat.one_mul]) (World.news_of_block (cs := (enc y).toArray) (t := e) (fr := (0, 0)) (heap_alloc_new w0 _)) h1 (by omega) (by unfold maxLen; omega) (by have : (n + 1) * by_ <= 1000000001 * 100 := Nat.mul_le_mul (by omega) hby; omega) (by simp; omega) (w0.heap.size + 1) (by simp) ?_
  intro g cap w1 h1 h2 h3 h4
  refine h g cap w1 ⟨by unfold OwnE; rw [List.flatMap_append, List.flatMap_cons, List.flatMap_nil, List.append_nil]; exact h1, ?_, ?_, hown.lt⟩
  ·refine ⟨h2.os, h2.tape, h2.output, Nat.le_trans (by simp) h2.size, fun k hk hne => ?_⟩
   rw [h2.block k (by simp; omega) hne]; exact Below.heap_alloc w0 _ k hk
  ·rcases h3 with h3 | h3
   ·exact .inl h3
   ·exact .inr (by omega)
end Go.Proofs.Ytacgakkcpmhgmaa
