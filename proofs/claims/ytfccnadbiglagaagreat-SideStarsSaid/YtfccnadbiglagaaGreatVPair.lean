/- Rows of pairs of ints (structs of two int fields) that the call itself gathers: append of one; of another row; what a slice of pairs reads as. -/
import Derived.Test.YtfccnadbiglagaaGreatVApart
import Derived.Laws.AppendOwnNone
import Derived.Laws.OwnMore
import Derived.Deep.QuietTactic
import Derived.BigQuiet
set_option linter.unusedVariables false
set_option linter.unusedSimpArgs false
namespace Go.Proofs.YtfccnadbiglagaaGreat
open Go Go.RowKit
theorem info_pair : (Tryz.prog.info? 131).map (fun i => (i.zero, i.size, i.bytes)) = some (some (.agg #[.int .i64 0, .int .i64 0]), 2, 16) := by kernel_rfl
theorem info_partsP {P : Program} {t : TypeId} {z : Value} {s b : Nat} (h : (P.info? t).map (fun i => (i.zero, i.size, i.bytes)) = some (some z, s, b)) : ∃ i, P.info? t = some i /\ i.zero = some z /\ i.size = s /\ i.bytes = b := by
 obtain ⟨i, hi, he⟩ := Option.map_eq_some_iff.1 h
 simp only [Prod.mk.injEq] at he
 exact ⟨i, hi, he.1, he.2.1, he.2.2⟩
def encP (x : Int × Int) : List Value := [.int .i64 x.1, .int .i64 x.2]
def flatP (l : List (Int × Int)) : List Value := l.flatMap encP
theorem flatP_cons (x : Int × Int) (l : List (Int × Int)) : flatP (x :: l) = .int .i64 x.1 :: .int .i64 x.2 :: flatP l := rfl
theorem flatP_append (l m : List (Int × Int)) : flatP (l ++ m) = flatP l ++ flatP m := by simp [flatP]
theorem flatP_len (l : List (Int × Int)) : (flatP l).length = l.length * 2 := by
 induction l with
 | nil => rfl
 | cons x l ih => rw [flatP_cons]; simp [ih]; omega
theorem flatP_at (l : List (Int × Int)) : ∀ i, i < l.length -> (flatP l)[i * 2]? = some (.int .i64 (l.getD i (0, 0)).1) /\ (flatP l)[i * 2 + 1]? = some (.int .i64 (l.getD i (0, 0)).2) := by
 induction l with
 | nil => intro i hi; cases hi
 | cons x l ih =>
   intro i hi
   cases i with
   | zero => exact ⟨rfl, rfl⟩
   | succ i =>
     have h := ih i (by simpa using hi)
     rw [flatP_cons]
     rw [show (i + 1) * 2 = i * 2 + 1 + 1 by omega]
     exact h
theorem flatP_one (l : List (Int × Int)) : ∀ v ∈ flatP l, v.oneCell' = true := by
 induction l with
 | nil => intro v h; cases h
 | cons x l ih =>
   intro v h
   rw [flatP_cons] at h
   rcases List.mem_cons.1 h with rfl | h
   ·rfl
   ·rcases List.mem_cons.1 h with rfl | h
    ·rfl
    ·exact ih v h
def OwnP (w : World) (B : Nat) (v : Value) (n : Nat) (l : List (Int × Int)) : Prop := w.ownsRow B 131 2 v n (flatP l)
section
variable {w : World} {B n : Nat} {v : Value} {l : List (Int × Int)}
theorem OwnP.nil (w : World) (B : Nat) : OwnP w B (.slice none 0 0) 0 [] := World.ownsRow_nil _ _ _ _
theorem OwnP.empty (w : World) : OwnP (w.alloc (.cells #[] 131)) w.heap.size (.slice (some ⟨w.heap.size, 0, none⟩) 0 0) 0 [] := by
 refine ⟨rfl, .inr ⟨w.heap.size, 0, #[], rfl, Nat.le_refl _, heap_alloc_new w _, ?_⟩⟩
 simp [maxLen, flatP]
theorem OwnP.len (h : OwnP w B v n l) : l.length = n := by
 have := h.1
 rw [flatP_len] at this
 omega
theorem OwnP.alloc (h : OwnP w B v n l) (o : Obj) : OwnP (w.alloc o) B v n l := World.ownsRow.alloc h o
theorem OwnP.drew (h : OwnP w B v n l) : OwnP w.drew B v n l := World.ownsRow.drew h
theorem OwnP.drewN (h : OwnP w B v n l) (k : Nat) : OwnP (w.drewN k) B v n l := h
theorem OwnP.lt (h : OwnP w B v n l) : ∀ k, v.ownBlock = some k -> B <= k /\ k < w.heap.size := World.ownsRow.lt h
theorem OwnP.kept {w' : World} {row : Option Nat} (h : OwnP w B v n l) (hg : w.grownBy w' row) (hne : v.ownBlock = none \/ v.ownBlock ≠ row) : OwnP w' B v n l := World.ownsRow.kept h hg hne
theorem OwnP.more {B' : Nat} (h : OwnP w B v n l) (hB : B' <= B) : OwnP w B' v n l := by
 obtain ⟨h1, h2⟩ := h
 refine ⟨h1, ?_⟩
 rcases h2 with h2 | ⟨g, cap, cur, rfl, hg, r⟩
 ·exact .inl h2
 ·exact .inr ⟨g, cap, cur, rfl, by omega, r⟩
theorem OwnP.below {w' : World} {C : Nat} (h : OwnP w B v n l) (hlt : ∀ k, v.ownBlock = some k -> k < C) (hb : Below C w w') : OwnP w' B v n l := by
 obtain ⟨h1, h2⟩ := h
 refine ⟨h1, ?_⟩
 rcases h2 with h2 | ⟨g, cap, cur, rfl, hg, hh, r⟩
 ·exact .inl h2
 ·exact .inr ⟨g, cap, cur, rfl, hg, by rw [hb.block g (hlt g rfl)]; exact hh, r⟩
theorem OwnP.below_top {w' : World} (h : OwnP w B v n l) (hb : Below w.heap.size w w') : OwnP w' B v n l := h.below (fun k hk => (h.lt k hk).2) hb
theorem OwnP.form (h : OwnP w B v n l) :
  (v = .slice none 0 0 /\ n = 0 /\ l = []) \/ ∃ g cap, v = .slice (some ⟨g, 0, none⟩) n cap /\ B <= g /\ g < w.heap.size /\ n <= cap /\ cap <= maxLen /\
   ∀ i, i < n -> w.cell? ⟨g, 0 + i * 2, none⟩ = some (.int .i64 (l.getD i (0, 0)).1) /\ w.cell? ⟨g, 0 + i * 2 + 1, none⟩ = some (.int .i64 (l.getD i (0, 0)).2) := by
  have hlen := h.len
  have h0 := h
  rcases h.2 with ⟨rfl, rfl⟩ | ⟨g, cap, cur, rfl, hg, hh, hnc, hcm, _⟩
  ·exact .inl ⟨rfl, rfl, List.eq_nil_of_length_eq_zero hlen⟩
  ·refine .inr ⟨g, cap, rfl, hg, (Array.getElem?_eq_some_iff.1 hh).1, hnc, hcm, fun i hi => ?_⟩
   have := flatP_at l i (by omega)
   rw [Nat.zero_add, World.ownsRow.cellAt h0 (i * 2) (by omega), World.ownsRow.cellAt h0 (i * 2 + 1) (by omega)]
   exact this
def ReadsP (w : World) (v : Value) (n : Nat) (l : List (Int × Int)) : Prop :=
 l.length = n /\ ∃ a cap, v = .slice a n cap /\ n <= cap /\ cap <= maxLen /\ (a = none -> cap = 0) /\ ∀ i, i < n -> ∃ b off, a = some ⟨b, off, none⟩ /\
  ∀ j, j < n -> w.cell? ⟨b, off + j * 2, none⟩ = some (.int .i64 (l.getD j (0, 0)).1) /\ w.cell? ⟨b, off + j * 2 + 1, none⟩ = some (.int .i64 (l.getD j (0, 0)).2)
theorem OwnP.reads (h : OwnP w B v n l) : ReadsP w v n l := by
 refine ⟨h.len, ?_⟩
 rcases h.form with ⟨rfl, rfl, _⟩ | ⟨g, cap, rfl, _, _, h1, h2, hc⟩
 ·exact ⟨none, 0, rfl, Nat.le_refl _, Nat.zero_le _, fun _ => rfl, fun i hi => absurd hi (by omega)⟩
 ·exact ⟨_, cap, rfl, h1, h2, fun e => (by cases e), fun i hi => ⟨g, 0, rfl, hc⟩⟩
theorem ReadsP.nil (w : World) : ReadsP w (.slice none 0 0) 0 [] := (OwnP.nil w 0).reads
theorem ReadsP.same {w' : World} (h : ReadsP w v n l) (hk : ∀ b o x, w.cell? ⟨b, o, none⟩ = some x -> w'.cell? ⟨b, o, none⟩ = some x) : ReadsP w' v n l := by
 obtain ⟨h1, a, cap, h2, h5, h6, h3, h4⟩ := h
 refine ⟨h1, a, cap, h2, h5, h6, h3, fun i hi => ?_⟩
 obtain ⟨b, off, e, hc⟩ := h4 i hi
 exact ⟨b, off, e, fun j hj => ⟨hk _ _ _ (hc j hj).1, hk _ _ _ (hc j hj).2⟩⟩
theorem ReadsP.below {w' : World} (h : ReadsP w v n l) (hb : Below w.heap.size w w') : ReadsP w' v n l :=
 h.same fun b o x hx => by rw [hb.cell (p := ⟨b, o, none⟩) (World.block_lt_of_cell? w _ hx)]; exact hx
theorem ReadsP.alloc (h : ReadsP w v n l) (o : Obj) : ReadsP (w.alloc o) v n l :=
 h.same fun b o' x hx => by rw [World.cell?_alloc_past o b o' (World.block_lt_of_cell? w _ hx)]; exact hx
theorem ReadsP.drew (h : ReadsP w v n l) : ReadsP w.drew v n l := h
theorem ReadsP.drewN (h : ReadsP w v n l) (k : Nat) : ReadsP (w.drewN k) v n l := h
theorem ReadsP.form (h : ReadsP w v n l) : ∃ a cap, v = .slice a n cap /\ n <= cap /\ cap <= 9223372036854775807 /\ l.length = n := by
 obtain ⟨h1, a, cap, h2, h5, h6, _⟩ := h
 exact ⟨a, cap, h2, h5, by unfold maxLen at h6; exact h6, h1⟩
theorem ReadsP.at {a : Option Addr} {cap : Nat} (h : ReadsP w (.slice a n cap) n l) (i : Nat) (hi : i < n) :
  ∃ b off, a = some ⟨b, off, none⟩ /\ b < w.heap.size /\ w.cell? ⟨b, off + i * 2, none⟩ = some (.int .i64 (l.getD i (0, 0)).1) /\ w.cell? ⟨b, off + i * 2 + 1, none⟩ = some (.int .i64 (l.getD i (0, 0)).2) := by
  obtain ⟨h1, a', cap', h2, h5, h6, h3, h4⟩ := h
  simp only [Value.slice.injEq, true_and] at h2
  obtain ⟨rfl, rfl⟩ := h2
  obtain ⟨b, off, e, hc⟩ := h4 i hi
  exact ⟨b, off, e, World.block_lt_of_cell? w _ (hc i hi).1, (hc i hi).1, (hc i hi).2⟩
end
structure PushedP (B : Nat) (w0 w1 : World) (v : Value) (g cap n : Nat) (l : List (Int × Int)) (x : Int × Int) : Prop where
 own : OwnP w1 B (.slice (some ⟨g, 0, none⟩) (n + 1) cap) (n + 1) (l ++ [x])
 grow : w0.grownBy w1 v.ownBlock
 at_ : v.ownBlock = some g \/ w0.heap.size <= g
 old : ∀ k, v.ownBlock = some k -> B <= k /\ k < w0.heap.size
section
variable {B C n g cap : Nat} {w w0 w1 : World} {v u : Value} {l : List (Int × Int)} {x : Int × Int}
theorem PushedP.below (h : PushedP B w0 w1 v g cap n l x) (hb : Below C w w0) (hC : C <= B) (hC2 : C <= w0.heap.size) : Below C w w1 :=
 hb.grown h.grow hC2 (fun k hk => Nat.le_trans hC (h.old k hk).1)
theorem PushedP.size (h : PushedP B w0 w1 v g cap n l x) : w0.heap.size <= w1.heap.size := h.grow.size
theorem PushedP.cell {b o : Nat} {y : Value} (h : PushedP B w0 w1 v g cap n l x) (hc : w0.cell? ⟨b, o, none⟩ = some y) (hne : some b ≠ v.ownBlock) : w1.cell? ⟨b, o, none⟩ = some y := h.grow.cell hc hne
theorem PushedP.reads {m : Nat} {l' : List (Int × Int)} (h : PushedP B w0 w1 v g cap n l x) {w : World} (hr : ReadsP w u m l') (hb : Below w.heap.size w w0) (hB : w.heap.size <= B) : ReadsP w1 u m l' :=
 hr.below (h.below hb hB hb.size)
theorem PushedP.other {B' m : Nat} {l' : List (Int × Int)} (h : PushedP B w0 w1 v g cap n l x) (hap : Apart v u) (hu : OwnP w0 B' u m l') :
  OwnP w1 B' u m l' /\ Apart (.slice (some ⟨g, 0, none⟩) (n + 1) cap) u := by
  constructor
  ·refine World.ownsRow.kept hu h.grow ?_
   rcases hap with q | q | q
   ·cases hub : u.ownBlock with
    | none => exact .inl rfl
    | some r => right; rw [q]; simp
   ·exact .inl q
   ·exact .inr (fun e => q e.symm)
  ·unfold Apart
   cases hub : u.ownBlock with
   | none => exact .inr (.inl rfl)
   | some r =>
     right; right
     intro heq
     have heq' : g = r := by simpa [Value.ownBlock] using heq
     subst heq'
     have hlt := (hu.lt g hub).2
     rcases h.at_ with q | q
     ·rcases hap with h' | h' | h'
      ·rw [h'] at q; cases q
      ·rw [h'] at hub; cases hub
      ·exact h' (q.trans hub.symm)
     ·omega
end
theorem wpList_pushP {ops : Array Oper} {rest : List Oper} {o : Oper} {a : Act} {Q : Exit -> Act -> World -> Prop} (hgd : o.guard = none) (s x : Operand)
  (ho : o.op = .call { callee := .builtin .append, args := #[s, x], argTypes := #[94, 94] })
  (B : Nat) (w0 : World) (v : Value) (n : Nat) (l : List (Int × Int)) (y z : Int) (hs : a.eval s = v) (hown : OwnP w0 B v n l) (H : Nat) (hx : a.eval x = .slice (some ⟨H, 0, none⟩) 1 1) (hH : w0.heap.size = H)
  (hn : n <= 1000000000) (hB : B <= w0.heap.size)
  (h : ∀ g cap w1, PushedP B w0 w1 v g cap n l (y, z) -> wpList Tryz.prog ops Q rest (a.put o.dst (.slice (some ⟨g, 0, none⟩) (n + 1) cap)) w1) : wpList Tryz.prog ops Q (o :: rest) a (w0.alloc (.cells #[.int .i64 y, .int .i64 z] 131)) := by
  subst hH
  obtain ⟨i0, hi, hz0, hz1, hz2⟩ := info_partsP info_pair
  refine wpList_append_lies _ hgd s x _ ho B 131 i0 _ 2 16 Tryz.underlying94 hi hz0 hz1 hz2 rfl (by omega) v n (flatP l) hs (World.ownsRow.alloc hown _) ⟨w0.heap.size, 0, none⟩ 1 1 [.int .i64 y, .int .i64 z] hx rfl (World.news_of_block (cs := #[.int .i64 y, .int .i64 z]) (t := 131) (fr := (0, 0)) (heap_alloc_new w0 _)) (by simp [Value.oneCell']) (by omega) (by unfold maxLen; omega) (by omega) (by simp; omega) (w0.heap.size + 1) (by simp) ?_
  intro g cap w1 h1 h2 h3 h4
  refine h g cap w1 ⟨by unfold OwnP; rw [flatP_append]; exact h1, ?_, ?_, hown.lt⟩
  ·refine ⟨h2.os, h2.tape, h2.output, Nat.le_trans (by simp) h2.size, fun k hk hne => ?_⟩
   rw [h2.block k (by simp; omega) hne]; exact Below.heap_alloc w0 _ k hk
  ·rcases h3 with h3 | h3
   ·exact .inl h3
   ·exact .inr (by omega)
theorem run_concatP (ty : TypeId) {w : World} {B n m : Nat} {v u : Value} {l l' : List (Int × Int)} (hown : OwnP w B v n l) (hu : ReadsP w u m l') (hnm : n + m <= 1000000000) (hB : B <= w.heap.size) :
  ∃ v' w', (Builtin.append_ #[94, 94] ty #[v, u]).run Tryz.prog w = .ok v' w' /\ OwnP w' B v' (n + m) (l ++ l') /\ Below B w w' /\ w.grownBy w' v.ownBlock /\ (v'.ownBlock = v.ownBlock \/ v'.ownBlock = some w.heap.size) := by
  obtain ⟨i0, hi, hz0, hz1, hz2⟩ := info_partsP info_pair
  obtain ⟨h1, a, cap, rfl, h2, h3, h4, h5⟩ := hu
  cases m with
  | zero =>
    have hy : l' = [] := List.eq_nil_of_length_eq_zero h1
    subst hy
    cases a with
    | none =>
      have := h4 rfl
      subst this
      exact ⟨v, w, run_append_owned_none w B 94 ty 131 i0 2 Tryz.underlying94 hi v n _ hown, by simpa using hown, Below.refl _ _, ⟨rfl, rfl, rfl, Nat.le_refl _, fun _ _ _ => rfl⟩, .inl rfl⟩
    | some ad =>
      obtain ⟨v', w', hr, q2, q3, _, q5⟩ := run_append_own_at (P := Tryz.prog) w B 94 ty 131 i0 _ 2 16 Tryz.underlying94 hi hz0 hz1 hz2 rfl (by omega) v n _ hown
       ad 0 cap [] rfl (fun j u hj => by simp at hj) (by simp) (by unfold maxLen; omega) (by omega) hB
      exact ⟨v', w', hr, by unfold OwnP; simpa using q2, (Below.refl _ _).grown q3 hB (fun k hk => (hown.lt k hk).1), q3, q5⟩
  | succ m =>
    obtain ⟨b, off, rfl, hc⟩ := h5 0 (by omega)
    have hcells : ∀ j u, (flatP l')[j]? = some u -> w.cell? ((⟨b, off, none⟩ : Addr).add j) = some u := fun j u hj => by
     have e : (⟨b, off, none⟩ : Addr).add j = ⟨b, off + j, none⟩ := by unfold Addr.add; split <;> simp_all
     rw [e]
     have hlt : j < (flatP l').length := by
      rcases Nat.lt_or_ge j (flatP l').length with h | h
      ·exact h
      ·rw [List.getElem?_eq_none h] at hj; cases hj
     rw [flatP_len] at hlt
     have hat := flatP_at l' (j / 2) (by omega)
     have hcj := hc (j / 2) (by omega)
     rcases Nat.mod_two_eq_zero_or_one j with hm | hm
     ·have ej : j / 2 * 2 = j := by omega
      rw [ej] at hat hcj
      rw [hat.1] at hj
      rw [hcj.1]; exact hj
     ·have ej : j / 2 * 2 + 1 = j := by omega
      have ej2 : off + j / 2 * 2 + 1 = off + j := by omega
      rw [ej] at hat; rw [ej2] at hcj
      rw [hat.2] at hj
      rw [hcj.2]; exact hj
    obtain ⟨v', w', hr, q2, q3, _, q5⟩ := run_append_own_at (P := Tryz.prog) w B 94 ty 131 i0 _ 2 16 Tryz.underlying94 hi hz0 hz1 hz2 rfl (by omega) v n _ hown
     ⟨b, off, none⟩ (m + 1) cap (flatP l') (by rw [flatP_len, h1]) hcells (flatP_one l') (by unfold maxLen; omega) (by omega) hB
    exact ⟨v', w', hr, by unfold OwnP; rw [flatP_append]; exact q2, (Below.refl _ _).grown q3 hB (fun k hk => (hown.lt k hk).1), q3, q5⟩
theorem wpList_concatP {w : World} {ops : Array Oper} {rest : List Oper} {o : Oper} {a : Act} {Q : Exit -> Act -> World -> Prop} (hgd : o.guard = none) (s x : Operand)
  (ho : o.op = .call { callee := .builtin .append, args := #[s, x], argTypes := #[94, 94] })
  (B : Nat) (v : Value) (n : Nat) (l : List (Int × Int)) (hs : a.eval s = v) (hown : OwnP w B v n l)
  (u : Value) (m : Nat) (l' : List (Int × Int)) (hx : a.eval x = u) (hu : ReadsP w u m l') (hnm : n + m <= 1000000000) (hB : B <= w.heap.size)
  (h : ∀ v' w', OwnP w' B v' (n + m) (l ++ l') -> Below B w w' -> w.grownBy w' v.ownBlock -> (v'.ownBlock = v.ownBlock \/ v'.ownBlock = some w.heap.size) -> wpList Tryz.prog ops Q rest (a.put o.dst v') w') : wpList Tryz.prog ops Q (o :: rest) a w := by
  obtain ⟨v', w', hr, h2, h3, h4, h5⟩ := run_concatP o.type hown hu hnm hB
  refine wpList_plain hgd fun K hK => ?_
  unfold Oper.wp execOp
  simp only [ho, resolve, invoke, builtin, Sem.run_bind, Sem.run_pure, Result.andThen_ok, List.map_toArray, List.map_cons, List.map_nil, hs, hx, hr]
  exact hK _ _ (h v' w' h2 h3 h4 h5)
end Go.Proofs.YtfccnadbiglagaaGreat
