/- Rows of rows that the call itself gathers: append of one row; what that leaves of the rows within. Slices that read as rows of ints, with their capacity. append(v, u...) of ints: v a row of the call's own, u anything that reads as numbers; fronts and rests of slices. -/
import Derived.Test.YtacgakkcpmhgmaaVApart
import Derived.Laws.AppendOwnNone
set_option linter.unusedVariables false
set_option linter.unusedSimpArgs false
namespace Go.Proofs.Ytacgakkcpmhgmaa
open Go Go.RowKit
def OwnLL (w : World) (B : Nat) (e e' : TypeId) (sz : Nat) (v : Value) (k : Nat) (xss : List (Nat × List Value)) : Prop :=
 xss.length = k /\ ∃ vals : List Value, w.ownsRow B e 1 v k vals /\ ∀ i, i < k -> w.ownsRow B e' sz (vals.getD i undef) (xss.getD i (0, [])).1 (xss.getD i (0, [])).2 /\ Apart v (vals.getD i undef)
section
variable {w w' : World} {B C : Nat} {e e' : TypeId} {sz k : Nat} {v : Value} {xss : List (Nat × List Value)}
theorem OwnLL.nil (w : World) (B : Nat) (e e' : TypeId) (sz : Nat) : OwnLL w B e e' sz (.slice none 0 0) 0 [] :=
 ⟨rfl, [], World.ownsRow_nil _ _ _ _, fun i hi => absurd hi (Nat.not_lt_zero i)⟩
theorem OwnLL.len (h : OwnLL w B e e' sz v k xss) : xss.length = k := h.1
theorem OwnLL.alloc (h : OwnLL w B e e' sz v k xss) (o : Obj) : OwnLL (w.alloc o) B e e' sz v k xss := by
 obtain ⟨h1, vals, h2, h3⟩ := h
 exact ⟨h1, vals, World.ownsRow.alloc h2 o, fun i hi => ⟨World.ownsRow.alloc (h3 i hi).1 o, (h3 i hi).2⟩⟩
theorem ownsRow_below {n : Nat} {size : Nat} {xs : List Value} {e : TypeId} {u : Value} (h : w.ownsRow B e size u n xs) (hlt : ∀ k, u.ownBlock = some k -> k < C) (hb : Below C w w') : w'.ownsRow B e size u n xs := by
 obtain ⟨h1, h2⟩ := h
 refine ⟨h1, ?_⟩
 rcases h2 with h2 | ⟨g, cap, cur, rfl, hg, hh, r⟩
 ·exact .inl h2
 ·exact .inr ⟨g, cap, cur, rfl, hg, by rw [hb.block g (hlt g rfl)]; exact hh, r⟩
theorem OwnLL.below (h : OwnLL w B e e' sz v k xss) (hb : Below w.heap.size w w') : OwnLL w' B e e' sz v k xss := by
 obtain ⟨h1, vals, h2, h3⟩ := h
 exact ⟨h1, vals, ownsRow_below h2 (fun k hk => (h2.lt k hk).2) hb, fun i hi => ⟨ownsRow_below (h3 i hi).1 (fun k hk => ((h3 i hi).1.lt k hk).2) hb, (h3 i hi).2⟩⟩
theorem OwnLL.lt (h : OwnLL w B e e' sz v k xss) : ∀ k, v.ownBlock = some k -> B <= k /\ k < w.heap.size := by
 obtain ⟨_, _, h2, _⟩ := h
 exact h2.lt
theorem OwnLL.form (h : OwnLL w B e e' sz v k xss) :
  (v = .slice none 0 0 /\ k = 0 /\ xss = []) \/ ∃ g cap, v = .slice (some ⟨g, 0, none⟩) k cap /\ B <= g /\ g < w.heap.size /\ k <= cap /\ cap <= maxLen /\
   ∀ i, i < k -> ∃ u, w.cell? ⟨g, 0 + i, none⟩ = some u /\ w.ownsRow B e' sz u (xss.getD i (0, [])).1 (xss.getD i (0, [])).2 := by
  obtain ⟨h1, vals, h2, h3⟩ := h
  have h0 := h2
  have hl : vals.length = k := by have := h2.1; omega
  rcases h2.2 with ⟨rfl, rfl⟩ | ⟨g, cap, cur, rfl, hg, hh, hnc, hcm, _⟩
  ·exact .inl ⟨rfl, rfl, List.eq_nil_of_length_eq_zero h1⟩
  ·refine .inr ⟨g, cap, rfl, hg, (Array.getElem?_eq_some_iff.1 hh).1, hnc, hcm, fun i hi => ⟨vals.getD i undef, ?_, (h3 i hi).1⟩⟩
   rw [Nat.zero_add, World.ownsRow.cellAt h0 i (by omega)]
   simp [List.getD, List.getElem?_eq_getElem (show i < vals.length by omega)]
end
structure PushedLL (B : Nat) (e e' : TypeId) (sz : Nat) (w0 w1 : World) (v : Value) (g cap k : Nat) (xss : List (Nat × List Value)) (x : Nat × List Value) : Prop where
 own : OwnLL w1 B e e' sz (.slice (some ⟨g, 0, none⟩) (k + 1) cap) (k + 1) (xss ++ [x])
 grow : w0.grownBy w1 v.ownBlock
 old : ∀ k, v.ownBlock = some k -> B <= k /\ k < w0.heap.size
theorem PushedLL.below {B C : Nat} {e e' : TypeId} {sz : Nat} {w w0 w1 : World} {v : Value} {g cap k : Nat} {xss : List (Nat × List Value)} {x : Nat × List Value} (h : PushedLL B e e' sz w0 w1 v g cap k xss x) (hb : Below C w w0) (hC : C <= B) (hC2 : C <= w0.heap.size) : Below C w w1 :=
 hb.grown h.grow hC2 (fun k hk => Nat.le_trans hC (h.old k hk).1)
theorem wpList_pushLL {ops : Array Oper} {rest : List Oper} {o : Oper} {a : Act} {Q : Exit -> Act -> World -> Prop} (hgd : o.guard = none) (s x : Operand) (T e e' : TypeId) (sz by_ : Nat)
  (ho : o.op = .call { callee := .builtin .append, args := #[s, x], argTypes := #[T, T] })
  (ht : Try.prog.underlying T = some (.slice e)) (hinfo : (Try.prog.info? e).map (fun i => (i.zero, i.size, i.bytes)) = some (some (.slice none 0 0), 1, by_)) (hby : by_ <= 100)
  (B : Nat) (w0 : World) (v : Value) (k : Nat) (xss : List (Nat × List Value)) (u : Value) (n : Nat) (xs : List Value) (hs : a.eval s = v) (hown : OwnLL w0 B e e' sz v k xss)
  (hu : w0.ownsRow B e' sz u n xs) (hap : Apart v u) (hx : a.eval x = .slice (some ⟨w0.heap.size, 0, none⟩) 1 1)
  (hn : k <= 1000000000) (hB : B <= w0.heap.size)
  (h : ∀ g cap w1, PushedLL B e e' sz w0 w1 v g cap k xss (n, xs) -> wpList Try.prog ops Q rest (a.put o.dst (.slice (some ⟨g, 0, none⟩) (k + 1) cap)) w1) : wpList Try.prog ops Q (o :: rest) a (w0.alloc (.cells #[u] e)) := by
  obtain ⟨i0, hi, hz0, hz1, hz2⟩ := info_parts hinfo
  have hold := hown.lt
  obtain ⟨h1, vals, h2, h3⟩ := hown
  have hl : vals.length = k := by have := h2.1; omega
  have huc : u.oneCell' = true := by
   rcases hu.2 with ⟨rfl, _⟩ | ⟨g, cap, cur, rfl, _⟩ <;> rfl
  refine wpList_append_lies _ hgd s x _ ho B e i0 _ 1 by_ ht hi hz0 hz1 hz2 rfl (by omega) v k vals hs (World.ownsRow.alloc h2 _) ⟨w0.heap.size, 0, none⟩ 1 1 [u] hx rfl (World.news_of_block (cs := #[u]) (t := e) (fr := (0, 0)) (heap_alloc_new w0 _)) (by simp [huc]) (by omega) (by unfold maxLen; omega) (by have : (k + 1) * by_ <= 1000000001 * 100 := Nat.mul_le_mul (by omega) hby; omega) (by simp; omega) (w0.heap.size + 1) (by simp) ?_
  intro g cap w1 q1 q2 q3 q4
  have hgr : w0.grownBy w1 v.ownBlock := ⟨q2.os, q2.tape, q2.output, Nat.le_trans (by simp) q2.size, fun j hj hne => by rw [q2.block j (by simp; omega) hne]; exact Below.heap_alloc w0 _ j hj⟩
  refine h g cap w1 ⟨⟨by simp [h1], vals ++ [u], q1, fun i hi => ?_⟩, hgr, hold⟩
  rcases Nat.lt_or_ge i k with g1 | g1
  ·have e1 : (vals ++ [u]).getD i undef = vals.getD i undef := by simp [List.getD, List.getElem?_append_left (show i < vals.length by omega)]
   have e2 : (xss ++ [(n, xs)]).getD i (0, []) = xss.getD i (0, []) := by simp [List.getD, List.getElem?_append_left (show i < xss.length by omega)]
   rw [e1, e2]
   exact apart_lies (h3 i g1).2 (World.ownsRow.alloc (h3 i g1).1 _) q2 q3 (by simp)
  ·have hik : i = k := by omega
   subst hik
   have e1 : (vals ++ [u]).getD i undef = u := by simp [List.getD, <- hl]
   have e2 : (xss ++ [(n, xs)]).getD i (0, []) = (n, xs) := by simp [List.getD, <- h1]
   rw [e1, e2]
   exact apart_lies hap (World.ownsRow.alloc hu _) q2 q3 (by simp)
end Go.Proofs.Ytacgakkcpmhgmaa
namespace Go.Proofs.Ytacgakkcpmhgmaa
open Go Go.RowKit
def ReadsI (w : World) (v : Value) (n : Nat) (l : List Int) : Prop :=
 l.length = n /\ ∃ a cap, v = .slice a n cap /\ n <= cap /\ cap <= maxLen /\ (a = none -> cap = 0) /\ ∀ i, i < n -> ∃ b off, a = some ⟨b, off, none⟩ /\ ∀ j, j < n -> w.cell? ⟨b, off + j, none⟩ = some (.int .i64 (l.getD j 0))
section
variable {w w' : World} {v : Value} {n : Nat} {l : List Int}
theorem Own.readsI {B : Nat} (h : Own w B v n l) : ReadsI w v n l := by
 refine ⟨h.len, ?_⟩
 have h0 := h
 rcases h.2 with ⟨rfl, rfl⟩ | ⟨g, cap, cur, rfl, _, _, h1, h2, _⟩
 ·exact ⟨none, 0, rfl, Nat.le_refl _, Nat.zero_le _, fun _ => rfl, fun i hi => absurd hi (by omega)⟩
 ·rcases h0.form with ⟨h', _⟩ | ⟨g', cap', h', _, _, _, hc⟩
  ·cases h'
  ·simp only [Value.slice.injEq, Option.some.injEq, Addr.mk.injEq, and_true, true_and] at h'
   obtain ⟨rfl, rfl⟩ := h'
   exact ⟨_, cap, rfl, h1, h2, fun e => (by cases e), fun i hi => ⟨g, 0, rfl, hc⟩⟩
theorem ReadsI.reads (h : ReadsI w v n l) : Reads w v n l := by
 obtain ⟨h1, a, cap, h2, _, _, h3, h4⟩ := h
 exact ⟨h1, a, cap, h2, h3, h4⟩
theorem ReadsI.same (h : ReadsI w v n l) (hk : ∀ b o x, w.cell? ⟨b, o, none⟩ = some x -> w'.cell? ⟨b, o, none⟩ = some x) : ReadsI w' v n l := by
 obtain ⟨h1, a, cap, h2, h5, h6, h3, h4⟩ := h
 refine ⟨h1, a, cap, h2, h5, h6, h3, fun i hi => ?_⟩
 obtain ⟨b, off, e, hc⟩ := h4 i hi
 exact ⟨b, off, e, fun j hj => hk _ _ _ (hc j hj)⟩
theorem ReadsI.below (h : ReadsI w v n l) (hb : Below w.heap.size w w') : ReadsI w' v n l :=
 h.same fun b o x hx => by rw [hb.cell (p := ⟨b, o, none⟩) (World.block_lt_of_cell? w _ hx)]; exact hx
theorem ReadsI.alloc (h : ReadsI w v n l) (o : Obj) : ReadsI (w.alloc o) v n l :=
 h.same fun b o' x hx => by rw [World.cell?_alloc_past o b o' (World.block_lt_of_cell? w _ hx)]; exact hx
theorem ReadsI.drewN (h : ReadsI w v n l) (k : Nat) : ReadsI (w.drewN k) v n l := h
theorem ReadsI.form (h : ReadsI w v n l) : ∃ a cap, v = .slice a n cap /\ n <= cap /\ cap <= 9223372036854775807 /\ l.length = n := by
 obtain ⟨h1, a, cap, h2, h5, h6, _⟩ := h
 exact ⟨a, cap, h2, h5, by unfold maxLen at h6; exact h6, h1⟩
theorem ReadsI.at {a : Option Addr} {cap : Nat} (h : ReadsI w (.slice a n cap) n l) (i : Nat) (hi : i < n) : ∃ b off, a = some ⟨b, off, none⟩ /\ b < w.heap.size /\ w.cell? ⟨b, off + i, none⟩ = some (.int .i64 (l.getD i 0)) := by
 obtain ⟨h1, a', cap', h2, h5, h6, h3, h4⟩ := h
 simp only [Value.slice.injEq, true_and] at h2
 obtain ⟨rfl, rfl⟩ := h2
 obtain ⟨b, off, e, hc⟩ := h4 i hi
 exact ⟨b, off, e, World.block_lt_of_cell? w _ (hc i hi), hc i hi⟩
end
end Go.Proofs.Ytacgakkcpmhgmaa
namespace Go.Proofs.Ytacgakkcpmhgmaa
open Go Go.RowKit
theorem ReadsI.take {w : World} {a : Option Addr} {cap n k : Nat} {l : List Int} (h : ReadsI w (.slice a n cap) n l) (hk : k <= n) : ReadsI w (.slice a k cap) k (l.take k) := by
 obtain ⟨h1, a', cap', h2, h5, h6, h3, h4⟩ := h
 simp only [Value.slice.injEq, true_and] at h2
 obtain ⟨rfl, rfl⟩ := h2
 refine ⟨by simp; omega, a, cap, rfl, by omega, h6, h3, fun i hi => ?_⟩
 obtain ⟨b, off, e, hc⟩ := h4 i (by omega)
 refine ⟨b, off, e, fun j hj => ?_⟩
 have := hc j (by omega)
 rw [show (l.take k).getD j 0 = l.getD j 0 by simp [List.getD, hj]]
 exact this
theorem ReadsI.dropN {w : World} {b off cap n k : Nat} {l : List Int} (h : ReadsI w (.slice (some ⟨b, off, none⟩) n cap) n l) (hk : k <= n) :
  ReadsI w (.slice (if cap = k then some ⟨b, off, none⟩ else some ⟨b, off + k, none⟩) (n - k) (cap - k)) (n - k) (l.drop k) := by
  obtain ⟨h1, a', cap', h2, h5, h6, h3, h4⟩ := h
  simp only [Value.slice.injEq, true_and] at h2
  obtain ⟨rfl, rfl⟩ := h2
  refine ⟨by simp; omega, _, cap - k, rfl, by omega, by omega, (fun e => by split at e <;> cases e), fun i hi => ?_⟩
  rw [if_neg (by omega)]
  obtain ⟨b', off', e, hcl⟩ := h4 0 (by omega)
  simp only [Option.some.injEq, Addr.mk.injEq] at e
  obtain ⟨rfl, rfl, _⟩ := e
  refine ⟨b, off + k, rfl, fun j hj => ?_⟩
  have := hcl (k + j) (by omega)
  rw [show off + (k + j) = off + k + j by omega] at this
  rw [show (l.drop k).getD j 0 = l.getD (k + j) 0 by simp [List.getD]]
  exact this
theorem readsI_new {w : World} {b : Nat} {p : Int} (h1 : w.cell? ⟨b, 0, none⟩ = some (.int .i64 p)) : ReadsI w (.slice (some ⟨b, 0, none⟩) 1 1) 1 [p] :=
 ⟨rfl, _, 1, rfl, Nat.le_refl _, by unfold maxLen; omega, (fun e => by cases e), fun i hi => ⟨b, 0, rfl, fun j hj => by
  obtain rfl : j = 0 := by omega
  exact h1⟩⟩
theorem Own.none_ (w : World) : Own (w.alloc (.cells #[] 3)) w.heap.size (.slice (some ⟨w.heap.size, 0, none⟩) 0 0) 0 [] := by
 refine ⟨rfl, .inr ⟨w.heap.size, 0, #[], rfl, Nat.le_refl _, heap_alloc_new w _, ?_⟩⟩
 simp [maxLen]
theorem new1 (w : World) (x : Value) (t : TypeId) : (w.alloc (.cells #[x] t)).cell? ⟨w.heap.size, 0, none⟩ = some x := by
 rw [World.cell?_alloc_at _ _ _ _ (by simp)]; rfl
theorem run_concatI (ty : TypeId) {w : World} {B n m : Nat} {v u : Value} {l l' : List Int} (hown : Own w B v n l) (hu : ReadsI w u m l') (hnm : n + m <= 1000000000) (hB : B <= w.heap.size) :
  ∃ v' w', (Builtin.append_ #[22, 22] ty #[v, u]).run Try.prog w = .ok v' w' /\ Own w' B v' (n + m) (l ++ l') /\ Below B w w' /\ w.grownBy w' v.ownBlock /\ (v'.ownBlock = v.ownBlock \/ v'.ownBlock = some w.heap.size) := by
  obtain ⟨i0, hi, hz0, hz1, hz2⟩ := info_parts info_int
  obtain ⟨h1, a, cap, rfl, h2, h3, h4, h5⟩ := hu
  cases m with
  | zero =>
    have hy : l' = [] := List.eq_nil_of_length_eq_zero h1
    subst hy
    cases a with
    | none =>
      have := h4 rfl
      subst this
      exact ⟨v, w, run_append_owned_none w B 22 ty 3 i0 1 Try.underlying22 hi v n _ hown, by simpa using hown, Below.refl _ _, ⟨rfl, rfl, rfl, Nat.le_refl _, fun _ _ _ => rfl⟩, .inl rfl⟩
    | some ad =>
      obtain ⟨v', w', hr, q2, q3, _, q5⟩ := run_append_own_at (P := Try.prog) w B 22 ty 3 i0 _ 1 8 Try.underlying22 hi hz0 hz1 hz2 rfl (by omega) v n _ hown
       ad 0 cap [] rfl (fun j u hj => by simp at hj) (by simp) (by unfold maxLen; omega) (by omega) hB
      exact ⟨v', w', hr, by unfold Own; simpa using q2, (Below.refl _ _).grown q3 hB (fun k hk => (hown.lt k hk).1), q3, q5⟩
  | succ m =>
    obtain ⟨b, off, rfl, hc⟩ := h5 0 (by omega)
    have hcells : ∀ j u, (l'.map (Value.int .i64))[j]? = some u -> w.cell? ((⟨b, off, none⟩ : Addr).add j) = some u := fun j u hj => by
     have e : (⟨b, off, none⟩ : Addr).add j = ⟨b, off + j, none⟩ := by unfold Addr.add; split <;> simp_all
     rw [e]
     have hlt : j < l'.length := by
      rcases Nat.lt_or_ge j l'.length with h | h
      ·exact h
      ·rw [List.getElem?_eq_none (by simpa using h)] at hj; cases hj
     rw [hc j (by omega)]
     rw [List.getElem?_map, List.getElem?_eq_getElem hlt] at hj
     rw [<- hj]
     simp [List.getD, List.getElem?_eq_getElem hlt]
    obtain ⟨v', w', hr, q2, q3, _, q5⟩ := run_append_own_at (P := Try.prog) w B 22 ty 3 i0 _ 1 8 Try.underlying22 hi hz0 hz1 hz2 rfl (by omega) v n _ hown
     ⟨b, off, none⟩ (m + 1) cap (l'.map (Value.int .i64)) (by simp [h1]) hcells (by intro u hu; obtain ⟨x, _, rfl⟩ := List.mem_map.1 hu; rfl) (by unfold maxLen; omega) (by omega) hB
    exact ⟨v', w', hr, by unfold Own; rw [List.map_append]; exact q2, (Below.refl _ _).grown q3 hB (fun k hk => (hown.lt k hk).1), q3, q5⟩
theorem wpList_concatI {w : World} {ops : Array Oper} {rest : List Oper} {o : Oper} {a : Act} {Q : Exit -> Act -> World -> Prop} (hgd : o.guard = none) (s x : Operand)
  (ho : o.op = .call { callee := .builtin .append, args := #[s, x], argTypes := #[22, 22] })
  (B : Nat) (v : Value) (n : Nat) (l : List Int) (hs : a.eval s = v) (hown : Own w B v n l)
  (u : Value) (m : Nat) (l' : List Int) (hx : a.eval x = u) (hu : ReadsI w u m l') (hnm : n + m <= 1000000000) (hB : B <= w.heap.size)
  (h : ∀ v' w', Own w' B v' (n + m) (l ++ l') -> Below B w w' -> w.grownBy w' v.ownBlock -> (v'.ownBlock = v.ownBlock \/ v'.ownBlock = some w.heap.size) -> wpList Try.prog ops Q rest (a.put o.dst v') w') : wpList Try.prog ops Q (o :: rest) a w := by
  obtain ⟨v', w', hr, h2, h3, h4, h5⟩ := run_concatI o.type hown hu hnm hB
  refine wpList_plain hgd fun K hK => ?_
  unfold Oper.wp execOp
  simp only [ho, resolve, invoke, builtin, Sem.run_bind, Sem.run_pure, Result.andThen_ok, List.map_toArray, List.map_cons, List.map_nil, hs, hx, hr]
  exact hK _ _ (h v' w' h2 h3 h4 h5)
theorem step_concatI {w : World} {ops : Array Oper} {o : Oper} {a : Act} {K : Act -> World -> Prop} {Q : Exit -> Act -> World -> Prop} {E : Prop} (hgd : o.guard = none) (s x : Operand)
  (ho : o.op = .call { callee := .builtin .append, args := #[s, x], argTypes := #[22, 22] })
  (B : Nat) (v : Value) (n : Nat) (l : List Int) (hs : a.eval s = v) (hown : Own w B v n l)
  (u : Value) (m : Nat) (l' : List Int) (hx : a.eval x = u) (hu : ReadsI w u m l') (hnm : n + m <= 1000000000) (hB : B <= w.heap.size)
  (h : ∀ v' w', Own w' B v' (n + m) (l ++ l') -> Below B w w' -> w.grownBy w' v.ownBlock -> (v'.ownBlock = v.ownBlock \/ v'.ownBlock = some w.heap.size) -> K (a.put o.dst v') w') :
  if Region.wanted o (yielded ops a.tmps) = true then Oper.wp Try.prog o a w K Q else E := by
  obtain ⟨v', w', hr, h2, h3, h4, h5⟩ := run_concatI o.type hown hu hnm hB
  have hw : Region.wanted o (yielded ops a.tmps) = true := by simp [Region.wanted, hgd]
  rw [if_pos hw]
  unfold Oper.wp execOp
  simp only [ho, resolve, invoke, builtin, Sem.run_bind, Sem.run_pure, Result.andThen_ok, List.map_toArray, List.map_cons, List.map_nil, hs, hx, hr]
  exact h v' w' h2 h3 h4 h5
end Go.Proofs.Ytacgakkcpmhgmaa
