/- TableRight: whether any table may be is the document's. -/
import Derived.Test.YtjkcglgkdclidaaVTableTw
import Derived.Test.YtjkcglgkdclidaaVTableTa
import Derived.Test.YtjkcglgkdclidaaVTableTv
import Derived.Test.YtjkcglgkdclidaaVTk
import Derived.Test.YtjkcglgkdclidaaVTableH
import Derived.Test.YtjkcglgkdclidaaVLastY
set_option linter.unusedVariables false
set_option linter.unusedSimpArgs false
set_option maxRecDepth 100000
set_option maxHeartbeats 8000000
namespace Go.Proofs.Ytjkcglgkdclidaa
open Go Go.RowKit Go.Proofs
theorem wp_pushI {w : World} {o : Oper} {a : Act} {K : Act -> World -> Prop} {Q : Exit -> Act -> World -> Prop} (s x : Operand)
  (ho : o.op = .call { callee := .builtin .append, args := #[s, x], argTypes := #[22, 22] })
  (B : Nat) (v : Value) (n : Nat) (hs : a.eval s = v) (hown : OwnI 3 1 w B v n) (hn : 1 <= n) (hn9 : n <= 1000000) (H : Nat) (y : Int) (hx : a.eval x = .slice (some ⟨H, 0, none⟩) 1 1) (hc : w.heap[H]? = some (.cells #[.int .i64 y] 3 (0, 0))) (hB : B <= w.heap.size)
  (h : ∀ g cap w', OwnI 3 1 w' B (.slice (some ⟨g, 0, none⟩) (n + 1) cap) (n + 1) -> (Below w.heap.size w w' \/ ∃ g0, Turn w w' g0 3) -> Below B w w' -> K (a.put o.dst (.slice (some ⟨g, 0, none⟩) (n + 1) cap)) w') : Oper.wp Try.prog o a w K Q := by
  obtain ⟨g, cap, w', hr, h2, h3, h4⟩ := run_pushI o.type hown hn hn9 hc hB
  unfold Oper.wp execOp
  simp only [ho, resolve, invoke, builtin, Sem.run_bind, Sem.run_pure, Result.andThen_ok, List.map_toArray, List.map_cons, List.map_nil, hs, hx, hr]
  exact h g cap w' h2 h3 h4
theorem wpList_pushI {w : World} {ops : Array Oper} {rest : List Oper} {o : Oper} {a : Act} {Q : Exit -> Act -> World -> Prop} (hgd : o.guard = none) (s x : Operand)
  (ho : o.op = .call { callee := .builtin .append, args := #[s, x], argTypes := #[22, 22] })
  (B : Nat) (v : Value) (n : Nat) (hs : a.eval s = v) (hown : OwnI 3 1 w B v n) (hn : 1 <= n) (hn9 : n <= 1000000) (H : Nat) (y : Int) (hx : a.eval x = .slice (some ⟨H, 0, none⟩) 1 1) (hc : w.heap[H]? = some (.cells #[.int .i64 y] 3 (0, 0))) (hB : B <= w.heap.size)
  (h : ∀ g cap w', OwnI 3 1 w' B (.slice (some ⟨g, 0, none⟩) (n + 1) cap) (n + 1) -> (Below w.heap.size w w' \/ ∃ g0, Turn w w' g0 3) -> Below B w w' -> wpList Try.prog ops Q rest (a.put o.dst (.slice (some ⟨g, 0, none⟩) (n + 1) cap)) w') : wpList Try.prog ops Q (o :: rest) a w := by
  refine wpList_plain hgd fun K hK => ?_
  exact wp_pushI s x ho B v n hs hown hn hn9 H y hx hc hB (fun g cap w' h2 h3 h4 => hK _ _ (h g cap w' h2 h3 h4))
theorem wpList_pushK {w : World} {ops : Array Oper} {rest : List Oper} {o : Oper} {a : Act} {Q : Exit -> Act -> World -> Prop} (hgd : o.guard = none) (s x : Operand)
  (ho : o.op = .call { callee := .builtin .append, args := #[s, x], argTypes := #[27, 27] })
  (B : Nat) (v : Value) (n : Nat) (xs : List Value) (hs : a.eval s = v) (hown : w.ownsRow B 46 1 v n xs)
  (H : Nat) (hx : a.eval x = .slice (some ⟨H, 0, none⟩) 1 1) (cs : Array Value) (hl : cs.size = 1) (hc : w.heap[H]? = some (.cells cs 46 (0, 0))) (h1 : ∀ u ∈ cs.toList, u.oneCell' = true)
  (hn : n <= 1000000) (hB : B <= w.heap.size)
  (h : ∀ g cap w', w'.ownsRow B 46 1 (.slice (some ⟨g, 0, none⟩) (n + 1) cap) (n + 1) (xs ++ cs.toList) -> w.grownBy w' v.ownBlock -> wpList Try.prog ops Q rest (a.put o.dst (.slice (some ⟨g, 0, none⟩) (n + 1) cap)) w') : wpList Try.prog ops Q (o :: rest) a w := by
  refine wpList_plain hgd fun K hK => ?_
  exact wp_pushK hgd s x 27 46 ho 1 24 _ Try.underlying27 info_vrow rfl (by omega) (by omega) B v n xs hs hown H hx cs hl hc h1 hn hB (fun g cap w' h2 h3 _ => hK _ _ (h g cap w' h2 h3))
theorem OwnI.len {e : TypeId} {k n n' cap B : Nat} {W : World} {a : Option Addr} (h : OwnI e k W B (.slice a n' cap) n) : n' = n := by
 obtain ⟨xs, h1, -⟩ := h
 rcases h1.2 with ⟨e, rfl⟩ | ⟨g, cap', cur, e, -⟩
 ·simp only [Value.slice.injEq] at e; exact e.2.1
 ·simp only [Value.slice.injEq] at e; exact e.2.1
theorem own_far {W : World} {e t : TypeId} {k n B b : Nat} {v : Value} {cs : Array Value} (h : OwnI e k W B v n) (hx : Blk W b t cs) (ht : t ≠ e) : v.ownBlock ≠ some b := fun hq => by
 obtain ⟨xs, h1, -⟩ := h
 exact blk_ne hx h1 ht hq
theorem blk_put {W : World} {b g o : Nat} {t e : TypeId} {cs cs' : Array Value} {u : Value} (hx : Blk W b t cs) (hg : Blk W g e cs') (ht : t ≠ e) : Blk (W.setCell ⟨g, o, none⟩ u) b t cs :=
 hx.far (p := ⟨g, o, none⟩) (fun e2 => by
  have e3 : b = g := e2
  subst e3
  have := hx.symm.trans hg
  simp only [Option.some.injEq, Obj.cells.injEq] at this
  exact ht this.2.1) _
theorem Turn.box {W W' : World} {g b : Nat} {e t : TypeId} {cs : Array Value} (h : Turn W W' g e) (hx : Blk W b t cs) (ht : t ≠ e) : Blk W' b t cs := by
 by_cases hg : b = g
 ·subst hg
  obtain ⟨c1, c2, q1, -⟩ := h.at_
  have := hx.symm.trans q1
  simp only [Option.some.injEq, Obj.cells.injEq] at this
  exact absurd this.2.1 ht
 ·exact (h.far _ hx.lt hg).trans hx
theorem chg_box {W W' : World} {b : Nat} {t : TypeId} {cs : Array Value} (h : Below W.heap.size W W' \/ ∃ g0, Turn W W' g0 3) (hx : Blk W b t cs) (ht : t ≠ 3) : Blk W' b t cs := by
 rcases h with h | ⟨g, h⟩
 ·exact Blk.below hx h hx.lt
 ·exact h.box hx ht
theorem chg_tab {W W' : World} {v0 v1 v2 v3 v4 v5 : Value} (h : Below W.heap.size W W' \/ ∃ g0, Turn W W' g0 3) (hq : TabQ W v0 v1 v2 v3 v4 v5) : TabQ W' v0 v1 v2 v3 v4 v5 := by
 rcases h with h | ⟨g, h⟩
 ·exact hq.below h
 ·exact hq.turn h (by decide) (by decide)
theorem chg_own {W W' : World} {e : TypeId} {k n B : Nat} {v : Value} (h : Below W.heap.size W W' \/ ∃ g0, Turn W W' g0 3) (hq : OwnI e k W B v n) : OwnI e k W' B v n := by
 rcases h with h | ⟨g, h⟩
 ·exact hq.below h
 ·exact hq.turn h
theorem TabQ.box {W : World} {b i : Nat} {cs : Array Value} {v0 v1 v2 v3 v4 v5 u : Value} (h : TabQ W v0 v1 v2 v3 v4 v5) (hx : Blk W b 31 cs) : TabQ (W.setCell ⟨b, i, none⟩ u) v0 v1 v2 v3 v4 v5 :=
 h.aside (aside_set hx u) (by decide) (by decide) (by decide) (by decide)
theorem FlatS.one {e : TypeId} {W : World} {g n cap : Nat} (h : FlatS e 3 W (.slice (some ⟨g, 0, none⟩) n cap) n) (hn : 1 <= n) : FlatS e 3 W (.slice (some ⟨g, 0, none⟩) 1 cap) 1 := by
 rcases h with ⟨h, -⟩ | ⟨g0, off, cap0, cs, hv, h1, h2, h3, h4⟩
 ·cases h
 ·simp only [Value.slice.injEq, Option.some.injEq, Addr.mk.injEq, and_true, true_and] at hv
  obtain ⟨⟨rfl, rfl⟩, rfl⟩ := hv
  exact .inr ⟨g, 0, cap, cs, rfl, by omega, h2, h3, fun o ho => h4 o (by omega)⟩
theorem FlatS.rest {e : TypeId} {W : World} {g n cap : Nat} (h : FlatS e 1 W (.slice (some ⟨g, 0, none⟩) n cap) n) (hn : 1 <= n) : FlatS e 1 W (.slice (some ⟨g, 1, none⟩) (n - 1) (cap - 1)) (n - 1) := by
 rcases h with ⟨h, -⟩ | ⟨g0, off, cap0, cs, hv, h1, h2, h3, h4⟩
 ·cases h
 ·simp only [Value.slice.injEq, Option.some.injEq, Addr.mk.injEq, and_true, true_and] at hv
  obtain ⟨⟨rfl, rfl⟩, rfl⟩ := hv
  exact .inr ⟨g, 1, cap - 1, cs, rfl, by omega, by omega, h3, fun o ho => by
   have := h4 (o + 1) (by omega)
   rwa [show 0 + (o + 1) = 1 + o by omega] at this⟩
theorem FlatS.none0 {e : TypeId} {W : World} {g cap : Nat} (h : FlatS e 1 W (.slice (some ⟨g, 0, none⟩) 1 cap) 1) : FlatS e 1 W (.slice (some ⟨g, 0, none⟩) 0 0) 0 := by
 rcases h with ⟨h, -⟩ | ⟨g0, off, cap0, cs, hv, h1, h2, h3, h4⟩
 ·cases h
 ·simp only [Value.slice.injEq, Option.some.injEq, Addr.mk.injEq, and_true, true_and] at hv
  obtain ⟨⟨rfl, rfl⟩, rfl⟩ := hv
  exact .inr ⟨g, 0, 0, cs, rfl, Nat.le_refl _, Nat.zero_le _, h3, fun o ho => by omega⟩
theorem Aside.box {W W' : World} {g b : Nat} {e t : TypeId} {cs : Array Value} (h : Aside W W' g e) (hx : Blk W b t cs) (ht : t ≠ e) : Blk W' b t cs := by
 by_cases hg : b = g
 ·subst hg
  obtain ⟨c1, fr, q1⟩ := h.at_
  have := hx.symm.trans q1
  simp only [Option.some.injEq, Obj.cells.injEq] at this
  exact absurd this.2.1 ht
 ·exact (h.far _ hx.lt hg).trans hx
theorem OwnI.aside {W W' : World} {g k n B : Nat} {e t : TypeId} {v : Value} (h : OwnI e k W B v n) (ha : Aside W W' g t) (hne : e ≠ t) : OwnI e k W' B v n := by
 obtain ⟨xs, h1, h2⟩ := h
 rcases h1.2 with ⟨rfl, rfl⟩ | ⟨g0, cap, cur, rfl, h0, hh, r⟩
 ·exact ⟨xs, ⟨h1.1, .inl ⟨rfl, rfl⟩⟩, h2⟩
 ·have hb : Blk W g0 e cur := hh
  exact ⟨xs, ⟨h1.1, .inr ⟨g0, cap, cur, rfl, h0, ha.box hb hne, r⟩⟩, h2⟩
theorem aside_grown {W W' : World} {B k n g cap : Nat} {e : TypeId} {xs : List Value} (h : W.ownsRow B e k (.slice (some ⟨g, 0, none⟩) n cap) n xs) (hg : W.grownBy W' (Value.slice (some ⟨g, 0, none⟩) n cap).ownBlock) : Aside W W' g e := by
 refine ⟨fun q hq hne => hg.block q hq (fun e => hne (by simpa [Value.ownBlock] using e)), ?_⟩
 rcases h.2 with ⟨h1, -⟩ | ⟨g0, cap0, cur, hv, h0, hh, r⟩
 ·cases h1
 ·simp only [Value.slice.injEq, Option.some.injEq, Addr.mk.injEq, and_true, true_and] at hv
  obtain ⟨rfl, rfl⟩ := hv
  exact ⟨cur, (0, 0), hh⟩
theorem below_own {W W' : World} {B k n : Nat} {e : TypeId} {v : Value} {xs : List Value} (h : W.ownsRow B e k v n xs) (hg : W.grownBy W' v.ownBlock) (hB : B <= W.heap.size) : Below B W W' :=
 (Below.refl B W).grown hg hB (fun z hz => (h.lt z hz).1)
theorem fe_push {W W' : World} {B n g cap g9 cap9 : Nat} {vals : List Value} {u : Value} (hu : OwnI 45 3 W B u 2) (h : W.ownsRow B 46 1 (.slice (some ⟨g, 0, none⟩) n cap) n vals) (hrows : ∀ i, i < n -> ∃ m, OwnI 45 3 W B (vals.getD i undef) m) {cs : Array Value}
  (ho : W'.ownsRow B 46 1 (.slice (some ⟨g9, 0, none⟩) (n + 1) cap9) (n + 1) (vals ++ cs.toList)) (hg : W.grownBy W' (Value.slice (some ⟨g, 0, none⟩) n cap).ownBlock) (hcs : cs.toList = [u]) : RowS 46 45 3 0 W' (.slice (some ⟨g9, 0, none⟩) (n + 1) cap9) (n + 1) := by
  have ha := aside_grown h hg
  rw [hcs] at ho
  have hl : vals.length = n := by rw [h.1, Nat.mul_one]
  rcases ho.2 with ⟨h1, -⟩ | ⟨g0, cap0, cur, hv, h0, hh, r1, r2, r3, r4⟩
  ·cases h1
  ·simp only [Value.slice.injEq, Option.some.injEq, Addr.mk.injEq, and_true, true_and] at hv
   obtain ⟨rfl, rfl⟩ := hv
   refine .inr ⟨g9, 0, cap9, cur, rfl, r1, r2, hh, fun o ho2 => ?_⟩
   have hlen : o < (vals ++ [u]).length := by rw [List.length_append, hl]; exact ho2
   have e1 : (cur.toList.take ((n + 1) * 1))[o]? = some (vals ++ [u])[o] := by rw [r4]; exact List.getElem?_eq_getElem hlen
   rw [List.getElem?_take, if_pos (by omega)] at e1
   have e2 : cur[0 + o]? = some (vals ++ [u])[o] := by rw [Nat.zero_add]; simpa using e1
   by_cases hc : o < n
   ·obtain ⟨m, hm⟩ := hrows o hc
    have e3 : (vals ++ [u])[o] = vals.getD o undef := by rw [List.getElem_append_left (by omega), List.getD_eq_getElem?_getD, List.getElem?_eq_getElem (by omega)]; rfl
    exact ⟨_, m, by rw [e2, e3], Nat.zero_le _, (hm.aside ha (by decide)).flat⟩
   ·have e3 : (vals ++ [u])[o] = u := by
     rw [List.getElem_append_right (by omega)]
     simp
    exact ⟨u, 2, by rw [e2, e3], Nat.zero_le _, (hu.aside ha (by decide)).flat⟩
theorem OwnR.blk {e e' : TypeId} {k q n g cap B : Nat} {W : World} (h : OwnR e e' k q W B (.slice (some ⟨g, 0, none⟩) n cap) n) : ∃ cs, Blk W g e cs := by
 obtain ⟨vals, h1, -⟩ := h
 rcases h1.2 with ⟨e, -⟩ | ⟨g0, cap', cur, e, _, hh, -⟩
 ·cases e
 ·simp only [Value.slice.injEq, Option.some.injEq, Addr.mk.injEq, and_true, true_and] at e
  obtain ⟨rfl, rfl⟩ := e
  exact ⟨cur, hh⟩
theorem RowS.put_any {W : World} {e e' : TypeId} {k q n m g o : Nat} {v u : Value} {cs : Array Value} (h : RowS e e' k q W v n) (hx : Blk W g e cs) (hu : FlatS e' k W u m) (hne : e' ≠ e) (hq : q <= m) : RowS e e' k q (W.setCell ⟨g, o, none⟩ u) v n := by
 have ha : Aside W (W.setCell ⟨g, o, none⟩ u) g e := aside_set hx u
 rcases h with h | ⟨g0, off0, cap0, cs0, rfl, h1, h2, h3, h4⟩
 ·exact .inl h
 ·by_cases hg : g0 = g
  ·subst hg
   exact RowS.put (.inr ⟨g0, off0, cap0, cs0, rfl, h1, h2, h3, h4⟩) hu hne hq
  ·refine .inr ⟨g0, off0, cap0, cs0, rfl, h1, h2, (ha.far _ (heap_lt h3) hg).trans h3, fun i hi => ?_⟩
   obtain ⟨u', m', a1, a2, a3⟩ := h4 i hi
   exact ⟨u', m', a1, a2, a3.aside ha hne⟩
theorem wp_pushI2 {w : World} {o : Oper} {a : Act} {K : Act -> World -> Prop} {Q : Exit -> Act -> World -> Prop} (s x : Operand)
  (ho : o.op = .call { callee := .builtin .append, args := #[s, x], argTypes := #[22, 22] })
  (B : Nat) (v : Value) (n : Nat) (hs : a.eval s = v) (hown : OwnI 3 1 w B v n) (hn : 1 <= n) (hn9 : n <= 1000000) (H : Nat) (y : Int) (hx : a.eval x = .slice (some ⟨H, 0, none⟩) 1 1) (hc : w.heap[H]? = some (.cells #[.int .i64 y] 3 (0, 0))) (hB : B <= w.heap.size)
  (h : ∀ g cap w', OwnI 3 1 w' B (.slice (some ⟨g, 0, none⟩) (n + 1) cap) (n + 1) -> (Below w.heap.size w w' \/ ∃ g0, Turn w w' g0 3) -> Below B w w' -> w.grownBy w' v.ownBlock -> K (a.put o.dst (.slice (some ⟨g, 0, none⟩) (n + 1) cap)) w') : Oper.wp Try.prog o a w K Q := by
  obtain ⟨g, cap, w', hr, h2, h3, h4⟩ := run_pushI o.type hown hn hn9 hc hB
  have hg : w.grownBy w' v.ownBlock := by
   obtain ⟨xs, h1, -⟩ := hown
   obtain ⟨i, hi, hz0, hz1, hz2⟩ := info_parts info_int
   obtain ⟨v', W', hr2, -, q3, -⟩ := run_append_own_at (P := Try.prog) w B 22 o.type 3 i (.int .i64 0) 1 8 Try.underlying22 hi hz0 hz1 hz2 rfl (by omega) v n xs h1 ⟨H, 0, none⟩ 1 1 [.int .i64 y] (by simp) (fun j u hj => by
    rw [Addr.add_lit, Nat.zero_add, cell_of_row w H j _ _ (0, 0) hc]
    simpa using hj) (by simp [Value.oneCell']) (by unfold maxLen; omega) (by omega) hB
   rw [hr] at hr2
   simp only [Result.ok.injEq] at hr2
   rw [hr2.2]
   exact q3
  unfold Oper.wp execOp
  simp only [ho, resolve, invoke, builtin, Sem.run_bind, Sem.run_pure, Result.andThen_ok, List.map_toArray, List.map_cons, List.map_nil, hs, hx, hr]
  exact h g cap w' h2 h3 h4 hg
theorem tableRight_walk (a0 : Int) (a1 : Int) (a2 : Option Addr) (len2 cap2 : Nat) (z2 : List Int) (a3 : Option Addr) (len3 cap3 : Nat) (z3 : List Int) (a4 : Option Addr) (len4 cap4 : Nat) (z4 : List Int) (a5 : Int) (a6 : Int) (a7 : Int) (w : World) (w0 : (Lit.int .i64 a0).wf = true) (w1 : (Lit.int .i64 a1).wf = true) (w2 : IsRow .i64 w a2 len2 cap2 z2) (w3 : IsRow .i64 w a3 len3 cap3 z3) (w4 : IsRow .i64 w a4 len4 cap4 z4) (w5 : (Lit.int .i64 a5).wf = true) (w6 : (Lit.int .i64 a6).wf = true) (w7 : (Lit.int .i64 a7).wf = true) :
  Calls Try.prog 5 #[.int .i64 a0, .int .i64 a1, .slice a2 len2 cap2, .slice a3 len3 cap3, .slice a4 len4 cap4, .int .i64 a5, .int .i64 a6, .int .i64 a7] w fun e w' => e = .returned (.bool true) /\ Below w.heap.size w w' := by
  have hk := kOf_is a0; have hn := nOf_is a1; have hk9 := kOf_lt a0; have hn9 := nOf_lt a1
  obtain ⟨k, ek⟩ : ∃ k, kOf a0 = k := ⟨_, rfl⟩
  obtain ⟨n, en⟩ : ∃ n, nOf a1 = n := ⟨_, rfl⟩
  rw [ek] at hk hk9
  rw [en] at hn hn9
  clear ek en
  obtain ⟨k0, k9⟩ := hk9
  obtain ⟨n0, n9⟩ := hn9
  have HK := Lib.hid hk; have HN := Lib.hid hn
  have R2 := Lib.hid w2.readsI
  have R3 := Lib.hid w3.readsI
  have R4 := Lib.hid w4.readsI
  clear hk hn w0 w1 w2 w3 w4
  clear w5 w6 w7
  go_enter Try.func5, Try.ntmps5
  go_wp2_with fail
  refine (tknown_any _).mono ?_
  rintro e V1 ⟨rfl, hb⟩
  replace R2 := Lib.hid (R2.out.below hb)
  replace R3 := Lib.hid (R3.out.below hb)
  replace R4 := Lib.hid (R4.out.below hb)
  have HB := Lib.hid hb
  clear hb
  go_wp2_with fail
  refine (make_own R2.out R3.out R4.out a0 a1 HK.out HN.out).mono ?_
  rintro e V2 ⟨vc, vl, vbn, vbo, vfn, vfe, rfl, ht, ⟨m, hts⟩, hb⟩
  have hrt := lawTab_right (ns := (z2.take len2)) (ms := (z3.take len3)) (cs := (z4.take len4)) k0 (by omega) n0 (by omega)
  obtain ⟨tt, htt⟩ : ∃ t, lawTab (z2.take len2) (z3.take len3) (z4.take len4) k n = t := ⟨_, rfl⟩
  rw [htt] at ht hrt
  obtain ⟨CA, c0, ev, -, -, -⟩ := ht.c.form
  subst ev
  have hm := hts.c.len
  have hm1 : 1 <= m := by rw [<- hm]; exact hrt.len.1
  have hm9 : m <= 100000 := by rw [<- hm]; exact hrt.len.2
  rw [hm] at hts ⊢
  clear ht hrt htt hm
  obtain ⟨g0, c0', x0, e0, lc0, lc0', bg0, -, -⟩ := hts.c.at_ (o := 0) (by omega)
  obtain ⟨g1, c1, x1, e1, lc1, lc1', bg1, -, -⟩ := hts.l.at_ (o := 0) (by omega)
  obtain ⟨g2, c2, u2, m2, e2, lc2, lc2', bg2, -, -⟩ := hts.bn.at_ (i := 0) (by omega)
  obtain ⟨g3, c3, x3, e3, lc3, lc3', bg3, -, -⟩ := hts.bo.at_ (o := 0) (by omega)
  obtain ⟨g4, c4, u4, m4, e4, lc4, lc4', bg4, -, -⟩ := hts.fn.at_ (i := 0) (by omega)
  obtain ⟨g5, c5, u5, m5, e5, lc5, lc5', bg5, -, -⟩ := hts.fe.at_ (i := 0) (by omega)
  simp only [Value.slice.injEq, true_and] at e0
  obtain ⟨rfl, rfl⟩ := e0
  subst e1 e2 e3 e4 e5
  obtain ⟨B, hB⟩ : ∃ q, V1.heap.size = q := ⟨_, rfl⟩
  rw [hB] at hts hb bg0 bg1 bg2 bg3 bg4 bg5
  have hwB : w.heap.size <= B := by rw [<- hB]; exact HB.out.size
  have HWB := Lib.hid hwB
  replace HB := Lib.hid (HB.out.trans (hb.mono hwB))
  have HB0 := HB
  have hBV : B <= V2.heap.size := by rw [<- hB]; exact hb.size
  clear hb hB hwB R2 R3 R4
  obtain ⟨bt, hbt⟩ : ∃ q, V2.heap.size = q := ⟨_, rfl⟩
  obtain ⟨V3, hV3⟩ : ∃ W, V2.alloc (.cells #[.slice (some ⟨g0, 0, none⟩) m c0, .slice (some ⟨g1, 0, none⟩) m c1, .slice (some ⟨g2, 0, none⟩) k c2, .slice (some ⟨g3, 0, none⟩) k c3, .slice (some ⟨g4, 0, none⟩) k c4, .slice (some ⟨g5, 0, none⟩) k c5] 31) = W := ⟨_, rfl⟩
  have hb : Below V2.heap.size V2 V3 := by rw [<- hV3]; exact (Below.refl _ _).alloc (Nat.le_refl _) _
  have X : Hid (Blk V3 bt 31 #[.slice (some ⟨g0, 0, none⟩) m c0, .slice (some ⟨g1, 0, none⟩) m c1, .slice (some ⟨g2, 0, none⟩) k c2, .slice (some ⟨g3, 0, none⟩) k c3, .slice (some ⟨g4, 0, none⟩) k c4, .slice (some ⟨g5, 0, none⟩) k c5]) := Lib.hid (by rw [<- hV3]; exact Blk.newAt _ hbt _ _)
  have TS := Lib.hid (hts.below hb)
  replace HB := Lib.hid (HB.out.trans (hb.mono HB.out.size))
  have HBS : Hid (B <= V3.heap.size) := Lib.hid (Nat.le_trans hBV hb.size)
  have HV3 := Lib.hid hV3; have HBT := Lib.hid hbt
  clear hts hb hV3 hbt hBV
  obtain ⟨j1, hj1⟩ : ∃ j : Nat, a6 % (m : Int) = (j : Int) := ⟨(a6 % (m : Int)).toNat, by have := Int.emod_nonneg a6 (show (m : Int) ≠ 0 by omega); omega⟩
  have j1l : (j1 : Int) < (m : Int) := by rw [<- hj1]; exact Int.emod_lt_of_pos _ (by omega)
  have j10 : (0 : Int) <= (j1 : Int) := Int.natCast_nonneg _
  obtain ⟨j2, hj2⟩ : ∃ j : Nat, a6 % (k : Int) = (j : Int) := ⟨(a6 % (k : Int)).toNat, by have := Int.emod_nonneg a6 (show (k : Int) ≠ 0 by omega); omega⟩
  have j2l : (j2 : Int) < (k : Int) := by rw [<- hj2]; exact Int.emod_lt_of_pos _ (by omega)
  have j20 : (0 : Int) <= (j2 : Int) := Int.natCast_nonneg _
  have HJ1 := Lib.hid hj1; have HJ2 := Lib.hid hj2
  clear hj1 hj2
  have HW1 : Hid (∀ V, Calls Try.prog 19 #[.int .i64 a6, .int .i64 (m : Int)] V fun e w' => e = .returned (.int .i64 (j1 : Int)) /\ w' = V) := Lib.hid (fun V => by rw [<- HJ1.out]; exact (twithin2_any a6 (m : Int) (by omega) (by omega) V).mono fun e w' h => ⟨h.1, h.2.symm⟩)
  have HW2 : Hid (∀ V, Calls Try.prog 19 #[.int .i64 a6, .int .i64 (k : Int)] V fun e w' => e = .returned (.int .i64 (j2 : Int)) /\ w' = V) := Lib.hid (fun V => by rw [<- HJ2.out]; exact (twithin2_any a6 (k : Int) (by omega) (by omega) V).mono fun e w' h => ⟨h.1, h.2.symm⟩)
  have k0 := X.out.cell 0
  have k1 := X.out.cell 1
  have k2 := X.out.cell 2
  have k3 := X.out.cell 3
  have k4 := X.out.cell 4
  have k5 := X.out.cell 5
  simp only [List.getElem?_toArray, List.getElem?_cons_zero, List.getElem?_cons_succ] at k0 k1 k2 k3 k4 k5
  rw [<- HV3.out] at k0 k1 k2 k3 k4 k5
  rw [<- HBT.out] at k0 k1 k2 k3 k4 k5
  go_wp2_with fail
  rw [HV3.out]
  try simp only [HBT.out]
  rw [HV3.out] at k0 k1 k2 k3 k4 k5
  try simp only [HBT.out] at k0 k1 k2 k3 k4 k5
  have hb : Below V3.heap.size V3 V3.drew := (Below.refl _ _).drew
  have hS : (fun W : World => W.cell? ⟨bt, 0, none⟩ = some (.slice (some ⟨g0, 0, none⟩) m c0) /\ W.cell? ⟨bt, 2, none⟩ = some (.slice (some ⟨g2, 0, none⟩) k c2)) V3.drew := ⟨k0, k2⟩
  clear k0 k1 k2 k3 k4 k5
  replace TS := Lib.hid (TS.out.below hb)
  replace X := Lib.hid (Blk.below X.out hb X.out.lt)
  replace HBS := Lib.hid (Nat.le_trans HBS.out hb.size)
  replace HB := Lib.hid (HB.out.trans (hb.mono HB.out.size))
  clear hb
  refine region_x 12 (fun W : World => W.cell? ⟨bt, 0, none⟩ = some (.slice (some ⟨g0, 0, none⟩) m c0) /\ W.cell? ⟨bt, 2, none⟩ = some (.slice (some ⟨g2, 0, none⟩) k c2)) (by kernel_rfl) ?_
  generalize V3.drew = V4 at *
  refine tkx (i := 0) (v := ?_) hS ?_ ?_
  rotate_left
  ·rintro w' ⟨s0', s1'⟩
   go_simp
   try with_reducible rfl
  try simp only [Act.put, zq1, zq2, zq3, zq4, zq5, zq6]
  refine tkx (i := 1) (v := ?_) hS ?_ ?_
  rotate_left
  ·rintro w' ⟨s0', s1'⟩
   go_simp
   try with_reducible rfl
  try simp only [Act.put, zq1, zq2, zq3, zq4, zq5, zq6]
  refine tkx (i := 2) (v := ?_) hS ?_ ?_
  rotate_left
  ·rintro w' ⟨s0', s1'⟩
   go_simp
   try with_reducible rfl
  try simp only [Act.put, zq1, zq2, zq3, zq4, zq5, zq6]
  refine tkx (i := 3) (v := ?_) hS ?_ ?_
  rotate_left
  ·rintro w' ⟨s0', s1'⟩
   go_simp
   try with_reducible rfl
  try simp only [Act.put, zq1, zq2, zq3, zq4, zq5, zq6]
  refine tkx (i := 5) (v := ?_) hS ?_ ?_
  rotate_left
  ·rintro w' ⟨s0', s1'⟩
   go_simp
   try with_reducible rfl
  try simp only [Act.put, zq1, zq2, zq3, zq4, zq5, zq6]
  refine tkx (i := 6) (v := ?_) hS ?_ ?_
  rotate_left
  ·rintro w' ⟨s0', s1'⟩
   go_simp
   try with_reducible rfl
  try simp only [Act.put, zq1, zq2, zq3, zq4, zq5, zq6]
  refine tkx (i := 7) (v := ?_) hS ?_ ?_
  rotate_left
  ·rintro w' ⟨s0', s1'⟩
   go_simp
   try with_reducible rfl
  try simp only [Act.put, zq1, zq2, zq3, zq4, zq5, zq6]
  refine tkx (i := 8) (v := ?_) hS ?_ ?_
  rotate_left
  ·rintro w' ⟨s0', s1'⟩
   go_simp
   try with_reducible rfl
  try simp only [Act.put, zq1, zq2, zq3, zq4, zq5, zq6]
  refine tkx (i := 9) (v := ?_) hS ?_ ?_
  rotate_left
  ·rintro w' ⟨s0', s1'⟩
   go_simp
   try with_reducible rfl
  try simp only [Act.put, zq1, zq2, zq3, zq4, zq5, zq6]
  refine anyX_g (i := 4) (by kernel_rfl) (by decide) rfl (by rfl) ?_
  intro K hK
  try simp only [zq1, zq2, zq3]
  refine wp_enterE #[.int .i64 a6, .int .i64 (m : Int)] Try.func19 (by kernel_rfl) (by kernel_rfl) ?_ (HW1.out _) ?_
  ·go_simp
  rintro e Vx ⟨rfl, hV⟩
  subst Vx
  refine ⟨_, rfl, ?_⟩
  refine hK _ _ hS ?_
  clear hK
  try simp only [Act.put, zq1, zq2, zq3, zq4, zq5, zq6]
  refine anyX_g (i := 10) (by kernel_rfl) (by decide) rfl (by rfl) ?_
  intro K hK
  try simp only [zq1, zq2, zq3]
  refine wp_enterE #[.int .i64 a6, .int .i64 (k : Int)] Try.func19 (by kernel_rfl) (by kernel_rfl) ?_ (HW2.out _) ?_
  ·go_simp
  rintro e Vx ⟨rfl, hV⟩
  subst Vx
  refine ⟨_, rfl, ?_⟩
  refine hK _ _ hS ?_
  clear hK
  try simp only [Act.put, zq1, zq2, zq3, zq4, zq5, zq6]
  refine tkx (i := 11) (v := ?_) hS ?_ ?_
  rotate_left
  ·rintro w' ⟨s0', s1'⟩
   go_simp
   try with_reducible rfl
  try simp only [Act.put, zq1, zq2, zq3, zq4, zq5, zq6]
  clear hS
  refine anyX_last (by kernel_rfl) (by kernel_rfl) rfl rfl ?_
  try simp only [zq1, zq2, zq3]
  go_simp
  try apply_assumption
  go_wp2_with fail
  refine (twithin2_any a7 11 (by omega) (by omega) _).mono ?_
  rintro e V5 ⟨rfl, hV⟩
  obtain ⟨q, hq⟩ : ∃ q : Nat, a7 % 11 = (q : Int) := ⟨(a7 % 11).toNat, by have := Int.emod_nonneg a7 (show (11 : Int) ≠ 0 by omega); omega⟩
  have hq8 : q < 11 := by have := Int.emod_lt_of_pos a7 (show (0 : Int) < 11 by omega); omega
  rw [hq]
  clear hq
  obtain ⟨bq, hbq⟩ : ∃ b, V4.heap.size = b := ⟨_, rfl⟩
  have xq : Blk V5 bq 3 #[.int .i64 (-1), .int .i64 0, .int .i64 1, .int .i64 2, .int .i64 3, .int .i64 100000, .int .i64 1114111, .int .i64 1114112, .int .i64 1152921504606846976, .int .i64 1152921504606846977, .int .i64 a7] := by rw [<- hV]; exact Blk.newAt _ hbq _ _
  have hb : Below V4.heap.size V4 V5 := by rw [<- hV]; exact (Below.refl _ _).alloc (Nat.le_refl _) _
  replace TS := Lib.hid (TS.out.below hb)
  replace X := Lib.hid (Blk.below X.out hb X.out.lt)
  replace HBS := Lib.hid (Nat.le_trans HBS.out hb.size)
  replace HB := Lib.hid (HB.out.trans (hb.mono HB.out.size))
  clear hb
  rw [hbq]
  obtain ⟨v, hcv⟩ : ∃ v, V5.cell? ⟨bq, q, none⟩ = some (.int .i64 v) := by
   have hc := xq.cell q
   rcases (show q = 0 \/ q = 1 \/ q = 2 \/ q = 3 \/ q = 4 \/ q = 5 \/ q = 6 \/ q = 7 \/ q = 8 \/ q = 9 \/ q = 10 by omega) with rfl | rfl | rfl | rfl | rfl | rfl | rfl | rfl | rfl | rfl | rfl
   all_goals exact ⟨_, hc⟩
  have q0 : (0 : Int) <= (q : Int) := Int.natCast_nonneg _
  have q8 : (q : Int) < 11 := by omega
  clear hV xq hbq
  go_wp2_with fail
  clear hcv q0 q8 hq8
  refine (twithin2_any a5 13 (by omega) (by omega) _).mono ?_
  rintro e V5' ⟨rfl, hV⟩
  subst V5'
  have hr0 := Int.emod_nonneg a5 (show (13 : Int) ≠ 0 by omega)
  have hr1 := Int.emod_lt_of_pos a5 (show (0 : Int) < 13 by omega)
  obtain ⟨r, hr⟩ : ∃ r, a5 % 13 = r := ⟨_, rfl⟩
  rw [hr] at hr0 hr1 ⊢
  clear hr
  have k0 := X.out.cell 0
  have k1 := X.out.cell 1
  have k2 := X.out.cell 2
  have k3 := X.out.cell 3
  have k4 := X.out.cell 4
  have k5 := X.out.cell 5
  simp only [List.getElem?_toArray, List.getElem?_cons_zero, List.getElem?_cons_succ] at k0 k1 k2 k3 k4 k5
  rcases (show r = 0 \/ r = 1 \/ r = 2 \/ r = 3 \/ r = 4 \/ r = 5 \/ r = 6 \/ r = 7 \/ r = 8 \/ r = 9 \/ r = 10 \/ r = 11 \/ r = 12 by omega) with rfl | rfl | rfl | rfl | rfl | rfl | rfl | rfl | rfl | rfl | rfl | rfl | rfl
  all_goals clear hr0 hr1
  ·obtain ⟨ga, ca, xa, ea, -, -, hga, -, hca, hfa, htn0⟩ := TS.out.c.at_ (o := j1) (by omega)
   simp only [Value.slice.injEq, Option.some.injEq, Addr.mk.injEq, and_true, true_and] at ea
   obtain ⟨rfl, rfl⟩ := ea
   have hgw : w.heap.size <= g0 := Nat.le_trans HWB.out hga
   go_wp2_with fail
   obtain ⟨W, hW⟩ : ∃ W, V5.setCell ⟨g0, j1, none⟩ (.int .i64 v) = W := ⟨_, rfl⟩
   have htn := htn0 v
   replace HB : Hid (Below w.heap.size w W) := Lib.hid (by rw [<- hW]; exact HB.out.setCell (p := ⟨g0, j1, none⟩) hgw _)
   rw [hW] at htn ⊢
   have TQ := Lib.hid ((TS.out.q (by omega)).turn htn (by decide) (by decide))
   replace X := Lib.hid (htn.box X.out (by decide))
   clear htn hW TS k0 k1 k2 k3 k4 k5
   have hb : Below W.heap.size W W.drew := (Below.refl _ _).drew
   replace TQ := Lib.hid (TQ.out.below hb)
   replace X := Lib.hid (Blk.below X.out hb X.out.lt)
   replace HB := Lib.hid (HB.out.trans (hb.mono HB.out.size))
   clear hb
   refine region_x 5 (fun W : World => W.cell? ⟨bt, 0, none⟩ = some (.slice (some ⟨g0, 0, none⟩) m c0) /\ W.cell? ⟨bt, 1, none⟩ = some (.slice (some ⟨g1, 0, none⟩) m c1) /\ W.cell? ⟨bt, 2, none⟩ = some (.slice (some ⟨g2, 0, none⟩) k c2) /\ W.cell? ⟨bt, 3, none⟩ = some (.slice (some ⟨g3, 0, none⟩) k c3) /\ W.cell? ⟨bt, 4, none⟩ = some (.slice (some ⟨g4, 0, none⟩) k c4) /\ W.cell? ⟨bt, 5, none⟩ = some (.slice (some ⟨g5, 0, none⟩) k c5)) (by kernel_rfl) ?_
   generalize W.drew = V6 at *
   have hS : (fun W : World => W.cell? ⟨bt, 0, none⟩ = some (.slice (some ⟨g0, 0, none⟩) m c0) /\ W.cell? ⟨bt, 1, none⟩ = some (.slice (some ⟨g1, 0, none⟩) m c1) /\ W.cell? ⟨bt, 2, none⟩ = some (.slice (some ⟨g2, 0, none⟩) k c2) /\ W.cell? ⟨bt, 3, none⟩ = some (.slice (some ⟨g3, 0, none⟩) k c3) /\ W.cell? ⟨bt, 4, none⟩ = some (.slice (some ⟨g4, 0, none⟩) k c4) /\ W.cell? ⟨bt, 5, none⟩ = some (.slice (some ⟨g5, 0, none⟩) k c5)) V6 := ⟨X.out.cell 0, X.out.cell 1, X.out.cell 2, X.out.cell 3, X.out.cell 4, X.out.cell 5⟩
   obtain ⟨t, htr, htl⟩ := TQ.out.tab
   have HTR := Lib.hid htr; have HTL := Lib.hid htl
   clear htr htl TQ
   refine tkx (i := 0) (v := ?_) hS ?_ ?_
   rotate_left
   ·rintro w' ⟨s0', s1', s2', s3', s4', s5'⟩
    go_simp
    try with_reducible rfl
   try simp only [Act.put, zq1, zq2, zq3, zq4, zq5, zq6]
   refine tkx (i := 2) (v := ?_) hS ?_ ?_
   rotate_left
   ·rintro w' ⟨s0', s1', s2', s3', s4', s5'⟩
    go_simp
    try with_reducible rfl
   try simp only [Act.put, zq1, zq2, zq3, zq4, zq5, zq6]
   refine anyX_g (i := 1) (by kernel_rfl) (by decide) rfl (by rfl) ?_
   intro K hK
   try simp only [zq1, zq2, zq3]
   refine wp_enterE #[.agg #[.slice (some ⟨g0, 0, none⟩) m c0, .slice (some ⟨g1, 0, none⟩) m c1, .slice (some ⟨g2, 0, none⟩) k c2, .slice (some ⟨g3, 0, none⟩) k c3, .slice (some ⟨g4, 0, none⟩) k c4, .slice (some ⟨g5, 0, none⟩) k c5]] Try.func14 (by kernel_rfl) (by kernel_rfl) ?_ (tright_any HTR.out) ?_
   ·go_simp
   rintro e V7 ⟨b1, rfl, hb1, hb⟩
   replace HTR := Lib.hid (HTR.out.below hb)
   replace X := Lib.hid (Blk.below X.out hb X.out.lt)
   have H1 := Lib.hid hb1
   replace HB := Lib.hid (HB.out.trans (hb.mono HB.out.size))
   clear hb
   clear hb1 hS
   have hS : (fun W : World => W.cell? ⟨bt, 0, none⟩ = some (.slice (some ⟨g0, 0, none⟩) m c0) /\ W.cell? ⟨bt, 1, none⟩ = some (.slice (some ⟨g1, 0, none⟩) m c1) /\ W.cell? ⟨bt, 2, none⟩ = some (.slice (some ⟨g2, 0, none⟩) k c2) /\ W.cell? ⟨bt, 3, none⟩ = some (.slice (some ⟨g3, 0, none⟩) k c3) /\ W.cell? ⟨bt, 4, none⟩ = some (.slice (some ⟨g4, 0, none⟩) k c4) /\ W.cell? ⟨bt, 5, none⟩ = some (.slice (some ⟨g5, 0, none⟩) k c5)) V7 := ⟨X.out.cell 0, X.out.cell 1, X.out.cell 2, X.out.cell 3, X.out.cell 4, X.out.cell 5⟩
   refine ⟨_, rfl, ?_⟩
   refine hK _ _ hS ?_
   clear hK
   try simp only [Act.put, zq1, zq2, zq3, zq4, zq5, zq6]
   refine anyX_g (i := 3) (by kernel_rfl) (by decide) rfl (by rfl) ?_
   intro K hK
   try simp only [zq1, zq2, zq3]
   refine wp_enterE #[.agg #[.slice (some ⟨g0, 0, none⟩) m c0, .slice (some ⟨g1, 0, none⟩) m c1, .slice (some ⟨g2, 0, none⟩) k c2, .slice (some ⟨g3, 0, none⟩) k c3, .slice (some ⟨g4, 0, none⟩) k c4, .slice (some ⟨g5, 0, none⟩) k c5]] Try.func22 (by kernel_rfl) (by kernel_rfl) ?_ (rright_any HTR.out HTL.out) ?_
   ·go_simp
   intro e V8 hro
   unfold RrO at hro
   obtain ⟨b2, rfl, hb2, hb⟩ := hro
   replace X := Lib.hid (Blk.below X.out hb X.out.lt)
   have hbb : b2 = b1 := Bool.eq_iff_iff.2 (hb2.trans H1.out.symm)
   subst hbb
   replace HB := Lib.hid (HB.out.trans (hb.mono HB.out.size))
   clear hb
   clear hb2 hS
   have hS : (fun W : World => W.cell? ⟨bt, 0, none⟩ = some (.slice (some ⟨g0, 0, none⟩) m c0) /\ W.cell? ⟨bt, 1, none⟩ = some (.slice (some ⟨g1, 0, none⟩) m c1) /\ W.cell? ⟨bt, 2, none⟩ = some (.slice (some ⟨g2, 0, none⟩) k c2) /\ W.cell? ⟨bt, 3, none⟩ = some (.slice (some ⟨g3, 0, none⟩) k c3) /\ W.cell? ⟨bt, 4, none⟩ = some (.slice (some ⟨g4, 0, none⟩) k c4) /\ W.cell? ⟨bt, 5, none⟩ = some (.slice (some ⟨g5, 0, none⟩) k c5)) V8 := ⟨X.out.cell 0, X.out.cell 1, X.out.cell 2, X.out.cell 3, X.out.cell 4, X.out.cell 5⟩
   refine ⟨_, rfl, ?_⟩
   refine hK _ _ hS ?_
   clear hK
   try simp only [Act.put, zq1, zq2, zq3, zq4, zq5, zq6]
   have hxx : (b2 == b2) = true := by cases b2 <;> rfl
   refine tkx (i := 4) (v := ?_) hS ?_ ?_
   rotate_left
   ·rintro w' ⟨s0', s1', s2', s3', s4', s5'⟩
    go_simp
    try with_reducible rfl
   try simp only [Act.put, zq1, zq2, zq3, zq4, zq5, zq6]
   clear hS
   refine anyX_last (by kernel_rfl) (by kernel_rfl) rfl rfl ?_
   try simp only [zq1, zq2, zq3]
   go_simp
   try apply_assumption
   go_wp2_with fail
   go_ret
   exact ⟨by cases b2 <;> rfl, HB.out⟩
  ·obtain ⟨ga, ca, xa, ea, -, -, hga, -, hca, hfa, htn0⟩ := TS.out.l.at_ (o := j1) (by omega)
   simp only [Value.slice.injEq, Option.some.injEq, Addr.mk.injEq, and_true, true_and] at ea
   obtain ⟨rfl, rfl⟩ := ea
   have hgw : w.heap.size <= g1 := Nat.le_trans HWB.out hga
   go_wp2_with fail
   obtain ⟨W, hW⟩ : ∃ W, V5.setCell ⟨g1, j1, none⟩ (.int .i64 v) = W := ⟨_, rfl⟩
   have htn := htn0 v
   replace HB : Hid (Below w.heap.size w W) := Lib.hid (by rw [<- hW]; exact HB.out.setCell (p := ⟨g1, j1, none⟩) hgw _)
   rw [hW] at htn ⊢
   have TQ := Lib.hid ((TS.out.q (by omega)).turn htn (by decide) (by decide))
   replace X := Lib.hid (htn.box X.out (by decide))
   clear htn hW TS k0 k1 k2 k3 k4 k5
   have hb : Below W.heap.size W W.drew := (Below.refl _ _).drew
   replace TQ := Lib.hid (TQ.out.below hb)
   replace X := Lib.hid (Blk.below X.out hb X.out.lt)
   replace HB := Lib.hid (HB.out.trans (hb.mono HB.out.size))
   clear hb
   refine region_x 5 (fun W : World => W.cell? ⟨bt, 0, none⟩ = some (.slice (some ⟨g0, 0, none⟩) m c0) /\ W.cell? ⟨bt, 1, none⟩ = some (.slice (some ⟨g1, 0, none⟩) m c1) /\ W.cell? ⟨bt, 2, none⟩ = some (.slice (some ⟨g2, 0, none⟩) k c2) /\ W.cell? ⟨bt, 3, none⟩ = some (.slice (some ⟨g3, 0, none⟩) k c3) /\ W.cell? ⟨bt, 4, none⟩ = some (.slice (some ⟨g4, 0, none⟩) k c4) /\ W.cell? ⟨bt, 5, none⟩ = some (.slice (some ⟨g5, 0, none⟩) k c5)) (by kernel_rfl) ?_
   generalize W.drew = V6 at *
   have hS : (fun W : World => W.cell? ⟨bt, 0, none⟩ = some (.slice (some ⟨g0, 0, none⟩) m c0) /\ W.cell? ⟨bt, 1, none⟩ = some (.slice (some ⟨g1, 0, none⟩) m c1) /\ W.cell? ⟨bt, 2, none⟩ = some (.slice (some ⟨g2, 0, none⟩) k c2) /\ W.cell? ⟨bt, 3, none⟩ = some (.slice (some ⟨g3, 0, none⟩) k c3) /\ W.cell? ⟨bt, 4, none⟩ = some (.slice (some ⟨g4, 0, none⟩) k c4) /\ W.cell? ⟨bt, 5, none⟩ = some (.slice (some ⟨g5, 0, none⟩) k c5)) V6 := ⟨X.out.cell 0, X.out.cell 1, X.out.cell 2, X.out.cell 3, X.out.cell 4, X.out.cell 5⟩
   obtain ⟨t, htr, htl⟩ := TQ.out.tab
   have HTR := Lib.hid htr; have HTL := Lib.hid htl
   clear htr htl TQ
   refine tkx (i := 0) (v := ?_) hS ?_ ?_
   rotate_left
   ·rintro w' ⟨s0', s1', s2', s3', s4', s5'⟩
    go_simp
    try with_reducible rfl
   try simp only [Act.put, zq1, zq2, zq3, zq4, zq5, zq6]
   refine tkx (i := 2) (v := ?_) hS ?_ ?_
   rotate_left
   ·rintro w' ⟨s0', s1', s2', s3', s4', s5'⟩
    go_simp
    try with_reducible rfl
   try simp only [Act.put, zq1, zq2, zq3, zq4, zq5, zq6]
   refine anyX_g (i := 1) (by kernel_rfl) (by decide) rfl (by rfl) ?_
   intro K hK
   try simp only [zq1, zq2, zq3]
   refine wp_enterE #[.agg #[.slice (some ⟨g0, 0, none⟩) m c0, .slice (some ⟨g1, 0, none⟩) m c1, .slice (some ⟨g2, 0, none⟩) k c2, .slice (some ⟨g3, 0, none⟩) k c3, .slice (some ⟨g4, 0, none⟩) k c4, .slice (some ⟨g5, 0, none⟩) k c5]] Try.func14 (by kernel_rfl) (by kernel_rfl) ?_ (tright_any HTR.out) ?_
   ·go_simp
   rintro e V7 ⟨b1, rfl, hb1, hb⟩
   replace HTR := Lib.hid (HTR.out.below hb)
   replace X := Lib.hid (Blk.below X.out hb X.out.lt)
   have H1 := Lib.hid hb1
   replace HB := Lib.hid (HB.out.trans (hb.mono HB.out.size))
   clear hb
   clear hb1 hS
   have hS : (fun W : World => W.cell? ⟨bt, 0, none⟩ = some (.slice (some ⟨g0, 0, none⟩) m c0) /\ W.cell? ⟨bt, 1, none⟩ = some (.slice (some ⟨g1, 0, none⟩) m c1) /\ W.cell? ⟨bt, 2, none⟩ = some (.slice (some ⟨g2, 0, none⟩) k c2) /\ W.cell? ⟨bt, 3, none⟩ = some (.slice (some ⟨g3, 0, none⟩) k c3) /\ W.cell? ⟨bt, 4, none⟩ = some (.slice (some ⟨g4, 0, none⟩) k c4) /\ W.cell? ⟨bt, 5, none⟩ = some (.slice (some ⟨g5, 0, none⟩) k c5)) V7 := ⟨X.out.cell 0, X.out.cell 1, X.out.cell 2, X.out.cell 3, X.out.cell 4, X.out.cell 5⟩
   refine ⟨_, rfl, ?_⟩
   refine hK _ _ hS ?_
   clear hK
   try simp only [Act.put, zq1, zq2, zq3, zq4, zq5, zq6]
   refine anyX_g (i := 3) (by kernel_rfl) (by decide) rfl (by rfl) ?_
   intro K hK
   try simp only [zq1, zq2, zq3]
   refine wp_enterE #[.agg #[.slice (some ⟨g0, 0, none⟩) m c0, .slice (some ⟨g1, 0, none⟩) m c1, .slice (some ⟨g2, 0, none⟩) k c2, .slice (some ⟨g3, 0, none⟩) k c3, .slice (some ⟨g4, 0, none⟩) k c4, .slice (some ⟨g5, 0, none⟩) k c5]] Try.func22 (by kernel_rfl) (by kernel_rfl) ?_ (rright_any HTR.out HTL.out) ?_
   ·go_simp
   intro e V8 hro
   unfold RrO at hro
   obtain ⟨b2, rfl, hb2, hb⟩ := hro
   replace X := Lib.hid (Blk.below X.out hb X.out.lt)
   have hbb : b2 = b1 := Bool.eq_iff_iff.2 (hb2.trans H1.out.symm)
   subst hbb
   replace HB := Lib.hid (HB.out.trans (hb.mono HB.out.size))
   clear hb
   clear hb2 hS
   have hS : (fun W : World => W.cell? ⟨bt, 0, none⟩ = some (.slice (some ⟨g0, 0, none⟩) m c0) /\ W.cell? ⟨bt, 1, none⟩ = some (.slice (some ⟨g1, 0, none⟩) m c1) /\ W.cell? ⟨bt, 2, none⟩ = some (.slice (some ⟨g2, 0, none⟩) k c2) /\ W.cell? ⟨bt, 3, none⟩ = some (.slice (some ⟨g3, 0, none⟩) k c3) /\ W.cell? ⟨bt, 4, none⟩ = some (.slice (some ⟨g4, 0, none⟩) k c4) /\ W.cell? ⟨bt, 5, none⟩ = some (.slice (some ⟨g5, 0, none⟩) k c5)) V8 := ⟨X.out.cell 0, X.out.cell 1, X.out.cell 2, X.out.cell 3, X.out.cell 4, X.out.cell 5⟩
   refine ⟨_, rfl, ?_⟩
   refine hK _ _ hS ?_
   clear hK
   try simp only [Act.put, zq1, zq2, zq3, zq4, zq5, zq6]
   have hxx : (b2 == b2) = true := by cases b2 <;> rfl
   refine tkx (i := 4) (v := ?_) hS ?_ ?_
   rotate_left
   ·rintro w' ⟨s0', s1', s2', s3', s4', s5'⟩
    go_simp
    try with_reducible rfl
   try simp only [Act.put, zq1, zq2, zq3, zq4, zq5, zq6]
   clear hS
   refine anyX_last (by kernel_rfl) (by kernel_rfl) rfl rfl ?_
   try simp only [zq1, zq2, zq3]
   go_simp
   try apply_assumption
   go_wp2_with fail
   go_ret
   exact ⟨by cases b2 <;> rfl, HB.out⟩
  ·obtain ⟨ga, ca, ur, mr, ea, -, -, hga, -, hcu, hfu, hmr, hmr9, hou⟩ := TS.out.bn.at_ (i := j2) (by omega)
   simp only [Value.slice.injEq, Option.some.injEq, Addr.mk.injEq, and_true, true_and] at ea
   obtain ⟨rfl, rfl⟩ := ea
   obtain ⟨gr, cr, xr, er, hrc, hrc', hgr, hgr', hcx, hfx, htn0⟩ := hou.at_ (o := 0) (by omega)
   subst er
   have hgw : w.heap.size <= gr := Nat.le_trans HWB.out hgr
   have hmi : (0 : Int) < (mr : Int) := by omega
   go_wp2_with fail
   obtain ⟨W, hW⟩ : ∃ W, V5.setCell ⟨gr, 0, none⟩ (.int .i64 v) = W := ⟨_, rfl⟩
   have htn := htn0 v
   replace HB : Hid (Below w.heap.size w W) := Lib.hid (by rw [<- hW]; exact HB.out.setCell (p := ⟨gr, 0, none⟩) hgw _)
   rw [hW] at htn ⊢
   have TQ := Lib.hid ((TS.out.q (by omega)).turn htn (by decide) (by decide))
   replace X := Lib.hid (htn.box X.out (by decide))
   clear htn hW TS k0 k1 k2 k3 k4 k5
   have hb : Below W.heap.size W W.drew := (Below.refl _ _).drew
   replace TQ := Lib.hid (TQ.out.below hb)
   replace X := Lib.hid (Blk.below X.out hb X.out.lt)
   replace HB := Lib.hid (HB.out.trans (hb.mono HB.out.size))
   clear hb
   refine region_x 5 (fun W : World => W.cell? ⟨bt, 0, none⟩ = some (.slice (some ⟨g0, 0, none⟩) m c0) /\ W.cell? ⟨bt, 1, none⟩ = some (.slice (some ⟨g1, 0, none⟩) m c1) /\ W.cell? ⟨bt, 2, none⟩ = some (.slice (some ⟨g2, 0, none⟩) k c2) /\ W.cell? ⟨bt, 3, none⟩ = some (.slice (some ⟨g3, 0, none⟩) k c3) /\ W.cell? ⟨bt, 4, none⟩ = some (.slice (some ⟨g4, 0, none⟩) k c4) /\ W.cell? ⟨bt, 5, none⟩ = some (.slice (some ⟨g5, 0, none⟩) k c5)) (by kernel_rfl) ?_
   generalize W.drew = V6 at *
   have hS : (fun W : World => W.cell? ⟨bt, 0, none⟩ = some (.slice (some ⟨g0, 0, none⟩) m c0) /\ W.cell? ⟨bt, 1, none⟩ = some (.slice (some ⟨g1, 0, none⟩) m c1) /\ W.cell? ⟨bt, 2, none⟩ = some (.slice (some ⟨g2, 0, none⟩) k c2) /\ W.cell? ⟨bt, 3, none⟩ = some (.slice (some ⟨g3, 0, none⟩) k c3) /\ W.cell? ⟨bt, 4, none⟩ = some (.slice (some ⟨g4, 0, none⟩) k c4) /\ W.cell? ⟨bt, 5, none⟩ = some (.slice (some ⟨g5, 0, none⟩) k c5)) V6 := ⟨X.out.cell 0, X.out.cell 1, X.out.cell 2, X.out.cell 3, X.out.cell 4, X.out.cell 5⟩
   obtain ⟨t, htr, htl⟩ := TQ.out.tab
   have HTR := Lib.hid htr; have HTL := Lib.hid htl
   clear htr htl TQ
   refine tkx (i := 0) (v := ?_) hS ?_ ?_
   rotate_left
   ·rintro w' ⟨s0', s1', s2', s3', s4', s5'⟩
    go_simp
    try with_reducible rfl
   try simp only [Act.put, zq1, zq2, zq3, zq4, zq5, zq6]
   refine tkx (i := 2) (v := ?_) hS ?_ ?_
   rotate_left
   ·rintro w' ⟨s0', s1', s2', s3', s4', s5'⟩
    go_simp
    try with_reducible rfl
   try simp only [Act.put, zq1, zq2, zq3, zq4, zq5, zq6]
   refine anyX_g (i := 1) (by kernel_rfl) (by decide) rfl (by rfl) ?_
   intro K hK
   try simp only [zq1, zq2, zq3]
   refine wp_enterE #[.agg #[.slice (some ⟨g0, 0, none⟩) m c0, .slice (some ⟨g1, 0, none⟩) m c1, .slice (some ⟨g2, 0, none⟩) k c2, .slice (some ⟨g3, 0, none⟩) k c3, .slice (some ⟨g4, 0, none⟩) k c4, .slice (some ⟨g5, 0, none⟩) k c5]] Try.func14 (by kernel_rfl) (by kernel_rfl) ?_ (tright_any HTR.out) ?_
   ·go_simp
   rintro e V7 ⟨b1, rfl, hb1, hb⟩
   replace HTR := Lib.hid (HTR.out.below hb)
   replace X := Lib.hid (Blk.below X.out hb X.out.lt)
   have H1 := Lib.hid hb1
   replace HB := Lib.hid (HB.out.trans (hb.mono HB.out.size))
   clear hb
   clear hb1 hS
   have hS : (fun W : World => W.cell? ⟨bt, 0, none⟩ = some (.slice (some ⟨g0, 0, none⟩) m c0) /\ W.cell? ⟨bt, 1, none⟩ = some (.slice (some ⟨g1, 0, none⟩) m c1) /\ W.cell? ⟨bt, 2, none⟩ = some (.slice (some ⟨g2, 0, none⟩) k c2) /\ W.cell? ⟨bt, 3, none⟩ = some (.slice (some ⟨g3, 0, none⟩) k c3) /\ W.cell? ⟨bt, 4, none⟩ = some (.slice (some ⟨g4, 0, none⟩) k c4) /\ W.cell? ⟨bt, 5, none⟩ = some (.slice (some ⟨g5, 0, none⟩) k c5)) V7 := ⟨X.out.cell 0, X.out.cell 1, X.out.cell 2, X.out.cell 3, X.out.cell 4, X.out.cell 5⟩
   refine ⟨_, rfl, ?_⟩
   refine hK _ _ hS ?_
   clear hK
   try simp only [Act.put, zq1, zq2, zq3, zq4, zq5, zq6]
   refine anyX_g (i := 3) (by kernel_rfl) (by decide) rfl (by rfl) ?_
   intro K hK
   try simp only [zq1, zq2, zq3]
   refine wp_enterE #[.agg #[.slice (some ⟨g0, 0, none⟩) m c0, .slice (some ⟨g1, 0, none⟩) m c1, .slice (some ⟨g2, 0, none⟩) k c2, .slice (some ⟨g3, 0, none⟩) k c3, .slice (some ⟨g4, 0, none⟩) k c4, .slice (some ⟨g5, 0, none⟩) k c5]] Try.func22 (by kernel_rfl) (by kernel_rfl) ?_ (rright_any HTR.out HTL.out) ?_
   ·go_simp
   intro e V8 hro
   unfold RrO at hro
   obtain ⟨b2, rfl, hb2, hb⟩ := hro
   replace X := Lib.hid (Blk.below X.out hb X.out.lt)
   have hbb : b2 = b1 := Bool.eq_iff_iff.2 (hb2.trans H1.out.symm)
   subst hbb
   replace HB := Lib.hid (HB.out.trans (hb.mono HB.out.size))
   clear hb
   clear hb2 hS
   have hS : (fun W : World => W.cell? ⟨bt, 0, none⟩ = some (.slice (some ⟨g0, 0, none⟩) m c0) /\ W.cell? ⟨bt, 1, none⟩ = some (.slice (some ⟨g1, 0, none⟩) m c1) /\ W.cell? ⟨bt, 2, none⟩ = some (.slice (some ⟨g2, 0, none⟩) k c2) /\ W.cell? ⟨bt, 3, none⟩ = some (.slice (some ⟨g3, 0, none⟩) k c3) /\ W.cell? ⟨bt, 4, none⟩ = some (.slice (some ⟨g4, 0, none⟩) k c4) /\ W.cell? ⟨bt, 5, none⟩ = some (.slice (some ⟨g5, 0, none⟩) k c5)) V8 := ⟨X.out.cell 0, X.out.cell 1, X.out.cell 2, X.out.cell 3, X.out.cell 4, X.out.cell 5⟩
   refine ⟨_, rfl, ?_⟩
   refine hK _ _ hS ?_
   clear hK
   try simp only [Act.put, zq1, zq2, zq3, zq4, zq5, zq6]
   have hxx : (b2 == b2) = true := by cases b2 <;> rfl
   refine tkx (i := 4) (v := ?_) hS ?_ ?_
   rotate_left
   ·rintro w' ⟨s0', s1', s2', s3', s4', s5'⟩
    go_simp
    try with_reducible rfl
   try simp only [Act.put, zq1, zq2, zq3, zq4, zq5, zq6]
   clear hS
   refine anyX_last (by kernel_rfl) (by kernel_rfl) rfl rfl ?_
   try simp only [zq1, zq2, zq3]
   go_simp
   try apply_assumption
   go_wp2_with fail
   go_ret
   exact ⟨by cases b2 <;> rfl, HB.out⟩
  ·obtain ⟨ga, ca, xa, ea, -, -, hga, -, hca, hfa, htn0⟩ := TS.out.bo.at_ (o := j2) (by omega)
   simp only [Value.slice.injEq, Option.some.injEq, Addr.mk.injEq, and_true, true_and] at ea
   obtain ⟨rfl, rfl⟩ := ea
   have hgw : w.heap.size <= g3 := Nat.le_trans HWB.out hga
   go_wp2_with fail
   obtain ⟨W, hW⟩ : ∃ W, V5.setCell ⟨g3, j2, none⟩ (.int .i64 v) = W := ⟨_, rfl⟩
   have htn := htn0 v
   replace HB : Hid (Below w.heap.size w W) := Lib.hid (by rw [<- hW]; exact HB.out.setCell (p := ⟨g3, j2, none⟩) hgw _)
   rw [hW] at htn ⊢
   have TQ := Lib.hid ((TS.out.q (by omega)).turn htn (by decide) (by decide))
   replace X := Lib.hid (htn.box X.out (by decide))
   clear htn hW TS k0 k1 k2 k3 k4 k5
   have hb : Below W.heap.size W W.drew := (Below.refl _ _).drew
   replace TQ := Lib.hid (TQ.out.below hb)
   replace X := Lib.hid (Blk.below X.out hb X.out.lt)
   replace HB := Lib.hid (HB.out.trans (hb.mono HB.out.size))
   clear hb
   refine region_x 5 (fun W : World => W.cell? ⟨bt, 0, none⟩ = some (.slice (some ⟨g0, 0, none⟩) m c0) /\ W.cell? ⟨bt, 1, none⟩ = some (.slice (some ⟨g1, 0, none⟩) m c1) /\ W.cell? ⟨bt, 2, none⟩ = some (.slice (some ⟨g2, 0, none⟩) k c2) /\ W.cell? ⟨bt, 3, none⟩ = some (.slice (some ⟨g3, 0, none⟩) k c3) /\ W.cell? ⟨bt, 4, none⟩ = some (.slice (some ⟨g4, 0, none⟩) k c4) /\ W.cell? ⟨bt, 5, none⟩ = some (.slice (some ⟨g5, 0, none⟩) k c5)) (by kernel_rfl) ?_
   generalize W.drew = V6 at *
   have hS : (fun W : World => W.cell? ⟨bt, 0, none⟩ = some (.slice (some ⟨g0, 0, none⟩) m c0) /\ W.cell? ⟨bt, 1, none⟩ = some (.slice (some ⟨g1, 0, none⟩) m c1) /\ W.cell? ⟨bt, 2, none⟩ = some (.slice (some ⟨g2, 0, none⟩) k c2) /\ W.cell? ⟨bt, 3, none⟩ = some (.slice (some ⟨g3, 0, none⟩) k c3) /\ W.cell? ⟨bt, 4, none⟩ = some (.slice (some ⟨g4, 0, none⟩) k c4) /\ W.cell? ⟨bt, 5, none⟩ = some (.slice (some ⟨g5, 0, none⟩) k c5)) V6 := ⟨X.out.cell 0, X.out.cell 1, X.out.cell 2, X.out.cell 3, X.out.cell 4, X.out.cell 5⟩
   obtain ⟨t, htr, htl⟩ := TQ.out.tab
   have HTR := Lib.hid htr; have HTL := Lib.hid htl
   clear htr htl TQ
   refine tkx (i := 0) (v := ?_) hS ?_ ?_
   rotate_left
   ·rintro w' ⟨s0', s1', s2', s3', s4', s5'⟩
    go_simp
    try with_reducible rfl
   try simp only [Act.put, zq1, zq2, zq3, zq4, zq5, zq6]
   refine tkx (i := 2) (v := ?_) hS ?_ ?_
   rotate_left
   ·rintro w' ⟨s0', s1', s2', s3', s4', s5'⟩
    go_simp
    try with_reducible rfl
   try simp only [Act.put, zq1, zq2, zq3, zq4, zq5, zq6]
   refine anyX_g (i := 1) (by kernel_rfl) (by decide) rfl (by rfl) ?_
   intro K hK
   try simp only [zq1, zq2, zq3]
   refine wp_enterE #[.agg #[.slice (some ⟨g0, 0, none⟩) m c0, .slice (some ⟨g1, 0, none⟩) m c1, .slice (some ⟨g2, 0, none⟩) k c2, .slice (some ⟨g3, 0, none⟩) k c3, .slice (some ⟨g4, 0, none⟩) k c4, .slice (some ⟨g5, 0, none⟩) k c5]] Try.func14 (by kernel_rfl) (by kernel_rfl) ?_ (tright_any HTR.out) ?_
   ·go_simp
   rintro e V7 ⟨b1, rfl, hb1, hb⟩
   replace HTR := Lib.hid (HTR.out.below hb)
   replace X := Lib.hid (Blk.below X.out hb X.out.lt)
   have H1 := Lib.hid hb1
   replace HB := Lib.hid (HB.out.trans (hb.mono HB.out.size))
   clear hb
   clear hb1 hS
   have hS : (fun W : World => W.cell? ⟨bt, 0, none⟩ = some (.slice (some ⟨g0, 0, none⟩) m c0) /\ W.cell? ⟨bt, 1, none⟩ = some (.slice (some ⟨g1, 0, none⟩) m c1) /\ W.cell? ⟨bt, 2, none⟩ = some (.slice (some ⟨g2, 0, none⟩) k c2) /\ W.cell? ⟨bt, 3, none⟩ = some (.slice (some ⟨g3, 0, none⟩) k c3) /\ W.cell? ⟨bt, 4, none⟩ = some (.slice (some ⟨g4, 0, none⟩) k c4) /\ W.cell? ⟨bt, 5, none⟩ = some (.slice (some ⟨g5, 0, none⟩) k c5)) V7 := ⟨X.out.cell 0, X.out.cell 1, X.out.cell 2, X.out.cell 3, X.out.cell 4, X.out.cell 5⟩
   refine ⟨_, rfl, ?_⟩
   refine hK _ _ hS ?_
   clear hK
   try simp only [Act.put, zq1, zq2, zq3, zq4, zq5, zq6]
   refine anyX_g (i := 3) (by kernel_rfl) (by decide) rfl (by rfl) ?_
   intro K hK
   try simp only [zq1, zq2, zq3]
   refine wp_enterE #[.agg #[.slice (some ⟨g0, 0, none⟩) m c0, .slice (some ⟨g1, 0, none⟩) m c1, .slice (some ⟨g2, 0, none⟩) k c2, .slice (some ⟨g3, 0, none⟩) k c3, .slice (some ⟨g4, 0, none⟩) k c4, .slice (some ⟨g5, 0, none⟩) k c5]] Try.func22 (by kernel_rfl) (by kernel_rfl) ?_ (rright_any HTR.out HTL.out) ?_
   ·go_simp
   intro e V8 hro
   unfold RrO at hro
   obtain ⟨b2, rfl, hb2, hb⟩ := hro
   replace X := Lib.hid (Blk.below X.out hb X.out.lt)
   have hbb : b2 = b1 := Bool.eq_iff_iff.2 (hb2.trans H1.out.symm)
   subst hbb
   replace HB := Lib.hid (HB.out.trans (hb.mono HB.out.size))
   clear hb
   clear hb2 hS
   have hS : (fun W : World => W.cell? ⟨bt, 0, none⟩ = some (.slice (some ⟨g0, 0, none⟩) m c0) /\ W.cell? ⟨bt, 1, none⟩ = some (.slice (some ⟨g1, 0, none⟩) m c1) /\ W.cell? ⟨bt, 2, none⟩ = some (.slice (some ⟨g2, 0, none⟩) k c2) /\ W.cell? ⟨bt, 3, none⟩ = some (.slice (some ⟨g3, 0, none⟩) k c3) /\ W.cell? ⟨bt, 4, none⟩ = some (.slice (some ⟨g4, 0, none⟩) k c4) /\ W.cell? ⟨bt, 5, none⟩ = some (.slice (some ⟨g5, 0, none⟩) k c5)) V8 := ⟨X.out.cell 0, X.out.cell 1, X.out.cell 2, X.out.cell 3, X.out.cell 4, X.out.cell 5⟩
   refine ⟨_, rfl, ?_⟩
   refine hK _ _ hS ?_
   clear hK
   try simp only [Act.put, zq1, zq2, zq3, zq4, zq5, zq6]
   have hxx : (b2 == b2) = true := by cases b2 <;> rfl
   refine tkx (i := 4) (v := ?_) hS ?_ ?_
   rotate_left
   ·rintro w' ⟨s0', s1', s2', s3', s4', s5'⟩
    go_simp
    try with_reducible rfl
   try simp only [Act.put, zq1, zq2, zq3, zq4, zq5, zq6]
   clear hS
   refine anyX_last (by kernel_rfl) (by kernel_rfl) rfl rfl ?_
   try simp only [zq1, zq2, zq3]
   go_simp
   try apply_assumption
   go_wp2_with fail
   go_ret
   exact ⟨by cases b2 <;> rfl, HB.out⟩
  ·go_wp2_with fail
   have hb : Below V5.heap.size V5 V5.drew := (Below.refl _ _).drew
   replace TS := Lib.hid (TS.out.below hb)
   replace X := Lib.hid (Blk.below X.out hb X.out.lt)
   replace HBS := Lib.hid (Nat.le_trans HBS.out hb.size)
   replace HB := Lib.hid (HB.out.trans (hb.mono HB.out.size))
   clear hb
   clear k0 k1 k2 k3 k4 k5
   obtain ⟨V6, hV6⟩ : ∃ W, V5.drew = W := ⟨_, rfl⟩
   rw [hV6] at TS X HBS HB
   obtain ⟨ga, ca, ur, mr, ea, -, -, hga, -, hcu, hfu, hmr, hmr9, hou⟩ := TS.out.fn.at_ (i := j2) (by omega)
   simp only [Value.slice.injEq, Option.some.injEq, Addr.mk.injEq, and_true, true_and] at ea
   obtain ⟨rfl, rfl⟩ := ea
   obtain ⟨gr, cr, xr, er, hrc, hrc', hgr, hgr', hcx, hfx, htn0⟩ := hou.at_ (o := 0) (by omega)
   subst er
   have hgw : w.heap.size <= gr := Nat.le_trans HWB.out hgr
   have hmi : (0 : Int) < (mr : Int) := by omega
   have hmn : 0 < mr := by omega
   refine region_x 13 (fun W : World => W.cell? ⟨bt, 4, none⟩ = some (.slice (some ⟨g4, 0, none⟩) k c4) /\ W.cell? ⟨g4, j2, none⟩ = some (.slice (some ⟨gr, 0, none⟩) mr cr)) (by kernel_rfl) ?_
   rw [hV6]
   clear hV6
   have hS : (fun W : World => W.cell? ⟨bt, 4, none⟩ = some (.slice (some ⟨g4, 0, none⟩) k c4) /\ W.cell? ⟨g4, j2, none⟩ = some (.slice (some ⟨gr, 0, none⟩) mr cr)) V6 := ⟨(by have h := X.out.cell 4; simpa using h), hcu⟩
   refine tkx (i := 0) (v := ?_) hS ?_ ?_
   rotate_left
   ·rintro w' ⟨s0', s1'⟩
    go_simp
    try with_reducible rfl
   try simp only [Act.put, zq1, zq2, zq3, zq4, zq5, zq6]
   refine tkx (i := 1) (v := ?_) hS ?_ ?_
   rotate_left
   ·rintro w' ⟨s0', s1'⟩
    go_simp
    try with_reducible rfl
   try simp only [Act.put, zq1, zq2, zq3, zq4, zq5, zq6]
   refine tkx (i := 2) (v := ?_) hS ?_ ?_
   rotate_left
   ·rintro w' ⟨s0', s1'⟩
    go_simp
    try with_reducible rfl
   try simp only [Act.put, zq1, zq2, zq3, zq4, zq5, zq6]
   refine tkx (i := 3) (v := ?_) hS ?_ ?_
   rotate_left
   ·rintro w' ⟨s0', s1'⟩
    go_simp
    try with_reducible rfl
   try simp only [Act.put, zq1, zq2, zq3, zq4, zq5, zq6]
   refine tkx (i := 4) (v := ?_) hS ?_ ?_
   rotate_left
   ·rintro w' ⟨s0', s1'⟩
    go_simp
    try with_reducible rfl
   try simp only [Act.put, zq1, zq2, zq3, zq4, zq5, zq6]
   refine tkx (i := 5) (v := ?_) hS ?_ ?_
   rotate_left
   ·rintro w' ⟨s0', s1'⟩
    go_simp
    try with_reducible rfl
   try simp only [Act.put, zq1, zq2, zq3, zq4, zq5, zq6]
   refine tkx (i := 6) (v := ?_) hS ?_ ?_
   rotate_left
   ·rintro w' ⟨s0', s1'⟩
    go_simp
    try with_reducible rfl
   try simp only [Act.put, zq1, zq2, zq3, zq4, zq5, zq6]
   refine tkx (i := 7) (v := ?_) hS ?_ ?_
   rotate_left
   ·rintro w' ⟨s0', s1'⟩
    go_simp
    try with_reducible rfl
   try simp only [Act.put, zq1, zq2, zq3, zq4, zq5, zq6]
   refine tkx (i := 11) (v := ?_) hS ?_ ?_
   rotate_left
   ·rintro w' ⟨s0', s1'⟩
    go_simp
    try with_reducible rfl
   try simp only [Act.put, zq1, zq2, zq3, zq4, zq5, zq6]
   refine anyX_g (i := 8) (by kernel_rfl) (by decide) rfl (by rfl) ?_
   intro K hK
   try simp only [zq1, zq2, zq3]
   refine wp_enterE #[.int .i64 a6, .int .i64 (k : Int)] Try.func19 (by kernel_rfl) (by kernel_rfl) ?_ (HW2.out _) ?_
   ·go_simp
   rintro e Vx ⟨rfl, hV⟩
   subst Vx
   refine ⟨_, rfl, ?_⟩
   refine hK _ _ hS ?_
   clear hK
   try simp only [Act.put, zq1, zq2, zq3, zq4, zq5, zq6]
   refine tkx (i := 9) (v := ?_) hS ?_ ?_
   rotate_left
   ·rintro w' ⟨s0', s1'⟩
    go_simp
    try with_reducible rfl
   try simp only [Act.put, zq1, zq2, zq3, zq4, zq5, zq6]
   refine tkx (i := 10) (v := ?_) hS ?_ ?_
   rotate_left
   ·rintro w' ⟨s0', s1'⟩
    go_simp
    try with_reducible rfl
   try simp only [Act.put, zq1, zq2, zq3, zq4, zq5, zq6]
   refine tkx (i := 12) (v := ?_) hS ?_ ?_
   rotate_left
   ·rintro w' ⟨s0', s1'⟩
    go_simp
    try with_reducible rfl
   try simp only [Act.put, zq1, zq2, zq3, zq4, zq5, zq6]
   clear hS
   refine anyX_last (by kernel_rfl) (by kernel_rfl) rfl rfl ?_
   try simp only [zq1, zq2, zq3]
   go_simp
   try apply_assumption
   go_wp2_with fail
   obtain ⟨W, hW⟩ : ∃ W, V6.setCell ⟨gr, 0, none⟩ (.int .i64 v) = W := ⟨_, rfl⟩
   have htn := htn0 v
   replace HB : Hid (Below w.heap.size w W) := Lib.hid (by rw [<- hW]; exact HB.out.setCell (p := ⟨gr, 0, none⟩) hgw _)
   rw [hW] at htn ⊢
   have TQ := Lib.hid ((TS.out.q (by omega)).turn htn (by decide) (by decide))
   replace X := Lib.hid (htn.box X.out (by decide))
   clear htn hW TS
   have hb : Below W.heap.size W W.drew := (Below.refl _ _).drew
   replace TQ := Lib.hid (TQ.out.below hb)
   replace X := Lib.hid (Blk.below X.out hb X.out.lt)
   replace HB := Lib.hid (HB.out.trans (hb.mono HB.out.size))
   clear hb
   refine region_x 5 (fun W : World => W.cell? ⟨bt, 0, none⟩ = some (.slice (some ⟨g0, 0, none⟩) m c0) /\ W.cell? ⟨bt, 1, none⟩ = some (.slice (some ⟨g1, 0, none⟩) m c1) /\ W.cell? ⟨bt, 2, none⟩ = some (.slice (some ⟨g2, 0, none⟩) k c2) /\ W.cell? ⟨bt, 3, none⟩ = some (.slice (some ⟨g3, 0, none⟩) k c3) /\ W.cell? ⟨bt, 4, none⟩ = some (.slice (some ⟨g4, 0, none⟩) k c4) /\ W.cell? ⟨bt, 5, none⟩ = some (.slice (some ⟨g5, 0, none⟩) k c5)) (by kernel_rfl) ?_
   generalize W.drew = V6 at *
   have hS : (fun W : World => W.cell? ⟨bt, 0, none⟩ = some (.slice (some ⟨g0, 0, none⟩) m c0) /\ W.cell? ⟨bt, 1, none⟩ = some (.slice (some ⟨g1, 0, none⟩) m c1) /\ W.cell? ⟨bt, 2, none⟩ = some (.slice (some ⟨g2, 0, none⟩) k c2) /\ W.cell? ⟨bt, 3, none⟩ = some (.slice (some ⟨g3, 0, none⟩) k c3) /\ W.cell? ⟨bt, 4, none⟩ = some (.slice (some ⟨g4, 0, none⟩) k c4) /\ W.cell? ⟨bt, 5, none⟩ = some (.slice (some ⟨g5, 0, none⟩) k c5)) V6 := ⟨X.out.cell 0, X.out.cell 1, X.out.cell 2, X.out.cell 3, X.out.cell 4, X.out.cell 5⟩
   obtain ⟨t, htr, htl⟩ := TQ.out.tab
   have HTR := Lib.hid htr; have HTL := Lib.hid htl
   clear htr htl TQ
   refine tkx (i := 0) (v := ?_) hS ?_ ?_
   rotate_left
   ·rintro w' ⟨s0', s1', s2', s3', s4', s5'⟩
    go_simp
    try with_reducible rfl
   try simp only [Act.put, zq1, zq2, zq3, zq4, zq5, zq6]
   refine tkx (i := 2) (v := ?_) hS ?_ ?_
   rotate_left
   ·rintro w' ⟨s0', s1', s2', s3', s4', s5'⟩
    go_simp
    try with_reducible rfl
   try simp only [Act.put, zq1, zq2, zq3, zq4, zq5, zq6]
   refine anyX_g (i := 1) (by kernel_rfl) (by decide) rfl (by rfl) ?_
   intro K hK
   try simp only [zq1, zq2, zq3]
   refine wp_enterE #[.agg #[.slice (some ⟨g0, 0, none⟩) m c0, .slice (some ⟨g1, 0, none⟩) m c1, .slice (some ⟨g2, 0, none⟩) k c2, .slice (some ⟨g3, 0, none⟩) k c3, .slice (some ⟨g4, 0, none⟩) k c4, .slice (some ⟨g5, 0, none⟩) k c5]] Try.func14 (by kernel_rfl) (by kernel_rfl) ?_ (tright_any HTR.out) ?_
   ·go_simp
   rintro e V7 ⟨b1, rfl, hb1, hb⟩
   replace HTR := Lib.hid (HTR.out.below hb)
   replace X := Lib.hid (Blk.below X.out hb X.out.lt)
   have H1 := Lib.hid hb1
   replace HB := Lib.hid (HB.out.trans (hb.mono HB.out.size))
   clear hb
   clear hb1 hS
   have hS : (fun W : World => W.cell? ⟨bt, 0, none⟩ = some (.slice (some ⟨g0, 0, none⟩) m c0) /\ W.cell? ⟨bt, 1, none⟩ = some (.slice (some ⟨g1, 0, none⟩) m c1) /\ W.cell? ⟨bt, 2, none⟩ = some (.slice (some ⟨g2, 0, none⟩) k c2) /\ W.cell? ⟨bt, 3, none⟩ = some (.slice (some ⟨g3, 0, none⟩) k c3) /\ W.cell? ⟨bt, 4, none⟩ = some (.slice (some ⟨g4, 0, none⟩) k c4) /\ W.cell? ⟨bt, 5, none⟩ = some (.slice (some ⟨g5, 0, none⟩) k c5)) V7 := ⟨X.out.cell 0, X.out.cell 1, X.out.cell 2, X.out.cell 3, X.out.cell 4, X.out.cell 5⟩
   refine ⟨_, rfl, ?_⟩
   refine hK _ _ hS ?_
   clear hK
   try simp only [Act.put, zq1, zq2, zq3, zq4, zq5, zq6]
   refine anyX_g (i := 3) (by kernel_rfl) (by decide) rfl (by rfl) ?_
   intro K hK
   try simp only [zq1, zq2, zq3]
   refine wp_enterE #[.agg #[.slice (some ⟨g0, 0, none⟩) m c0, .slice (some ⟨g1, 0, none⟩) m c1, .slice (some ⟨g2, 0, none⟩) k c2, .slice (some ⟨g3, 0, none⟩) k c3, .slice (some ⟨g4, 0, none⟩) k c4, .slice (some ⟨g5, 0, none⟩) k c5]] Try.func22 (by kernel_rfl) (by kernel_rfl) ?_ (rright_any HTR.out HTL.out) ?_
   ·go_simp
   intro e V8 hro
   unfold RrO at hro
   obtain ⟨b2, rfl, hb2, hb⟩ := hro
   replace X := Lib.hid (Blk.below X.out hb X.out.lt)
   have hbb : b2 = b1 := Bool.eq_iff_iff.2 (hb2.trans H1.out.symm)
   subst hbb
   replace HB := Lib.hid (HB.out.trans (hb.mono HB.out.size))
   clear hb
   clear hb2 hS
   have hS : (fun W : World => W.cell? ⟨bt, 0, none⟩ = some (.slice (some ⟨g0, 0, none⟩) m c0) /\ W.cell? ⟨bt, 1, none⟩ = some (.slice (some ⟨g1, 0, none⟩) m c1) /\ W.cell? ⟨bt, 2, none⟩ = some (.slice (some ⟨g2, 0, none⟩) k c2) /\ W.cell? ⟨bt, 3, none⟩ = some (.slice (some ⟨g3, 0, none⟩) k c3) /\ W.cell? ⟨bt, 4, none⟩ = some (.slice (some ⟨g4, 0, none⟩) k c4) /\ W.cell? ⟨bt, 5, none⟩ = some (.slice (some ⟨g5, 0, none⟩) k c5)) V8 := ⟨X.out.cell 0, X.out.cell 1, X.out.cell 2, X.out.cell 3, X.out.cell 4, X.out.cell 5⟩
   refine ⟨_, rfl, ?_⟩
   refine hK _ _ hS ?_
   clear hK
   try simp only [Act.put, zq1, zq2, zq3, zq4, zq5, zq6]
   have hxx : (b2 == b2) = true := by cases b2 <;> rfl
   refine tkx (i := 4) (v := ?_) hS ?_ ?_
   rotate_left
   ·rintro w' ⟨s0', s1', s2', s3', s4', s5'⟩
    go_simp
    try with_reducible rfl
   try simp only [Act.put, zq1, zq2, zq3, zq4, zq5, zq6]
   clear hS
   refine anyX_last (by kernel_rfl) (by kernel_rfl) rfl rfl ?_
   try simp only [zq1, zq2, zq3]
   go_simp
   try apply_assumption
   go_wp2_with fail
   go_ret
   exact ⟨by cases b2 <;> rfl, HB.out⟩
  ·obtain ⟨p2, hp2⟩ : ∃ j : Nat, a7 % (2 : Int) = (j : Int) := ⟨(a7 % (2 : Int)).toNat, by have := Int.emod_nonneg a7 (show (2 : Int) ≠ 0 by omega); omega⟩
   have p2l : (p2 : Int) < (2 : Int) := by rw [<- hp2]; exact Int.emod_lt_of_pos _ (by omega)
   have p20 : (0 : Int) <= (p2 : Int) := Int.natCast_nonneg _
   obtain ⟨p3, hp3⟩ : ∃ j : Nat, a6 % (3 : Int) = (j : Int) := ⟨(a6 % (3 : Int)).toNat, by have := Int.emod_nonneg a6 (show (3 : Int) ≠ 0 by omega); omega⟩
   have p3l : (p3 : Int) < (3 : Int) := by rw [<- hp3]; exact Int.emod_lt_of_pos _ (by omega)
   have p30 : (0 : Int) <= (p3 : Int) := Int.natCast_nonneg _
   have HP2 := Lib.hid hp2; have HP3 := Lib.hid hp3
   clear hp2 hp3
   have HWA : Hid (∀ V, Calls Try.prog 19 #[.int .i64 a7, .int .i64 2] V fun e w' => e = .returned (.int .i64 (p2 : Int)) /\ w' = V) := Lib.hid (fun V => by rw [<- HP2.out]; exact (twithin2_any a7 2 (by omega) (by omega) V).mono fun e w' h => ⟨h.1, h.2.symm⟩)
   have HWC : Hid (∀ V, Calls Try.prog 19 #[.int .i64 a6, .int .i64 3] V fun e w' => e = .returned (.int .i64 (p3 : Int)) /\ w' = V) := Lib.hid (fun V => by rw [<- HP3.out]; exact (twithin2_any a6 3 (by omega) (by omega) V).mono fun e w' h => ⟨h.1, h.2.symm⟩)
   go_wp2_with fail
   have hb : Below V5.heap.size V5 V5.drew := (Below.refl _ _).drew
   replace TS := Lib.hid (TS.out.below hb)
   replace X := Lib.hid (Blk.below X.out hb X.out.lt)
   replace HBS := Lib.hid (Nat.le_trans HBS.out hb.size)
   replace HB := Lib.hid (HB.out.trans (hb.mono HB.out.size))
   clear hb
   clear k0 k1 k2 k3 k4 k5
   obtain ⟨V6, hV6⟩ : ∃ W, V5.drew = W := ⟨_, rfl⟩
   rw [hV6] at TS X HBS HB
   obtain ⟨ga, ca, ur, mr, ea, -, -, hga, -, hcu, hfu, hmr, hmr9, hou⟩ := TS.out.fe.at_ (i := j2) (by omega)
   simp only [Value.slice.injEq, Option.some.injEq, Addr.mk.injEq, and_true, true_and] at ea
   obtain ⟨rfl, rfl⟩ := ea
   obtain ⟨gr, cr, xr, er, hrc, hrc', hgr, hgr', hcx, hfx, htn0⟩ := hou.at_ (o := p2 * 3 + p3) (by omega)
   subst er
   have hgw : w.heap.size <= gr := Nat.le_trans HWB.out hgr
   have hmi : (p2 : Int) < (mr : Int) := by omega
   have hmi2 : p2 < mr := by omega
   have hmi3 : p3 < 3 := by omega
   refine region_y 18 (fun W : World => W.cell? ⟨bt, 5, none⟩ = some (.slice (some ⟨g5, 0, none⟩) k c5) /\ W.cell? ⟨g5, j2, none⟩ = some (.slice (some ⟨gr, 0, none⟩) mr cr)) (by kernel_rfl) ?_
   rw [hV6]
   clear hV6
   have hS : (fun W : World => W.cell? ⟨bt, 5, none⟩ = some (.slice (some ⟨g5, 0, none⟩) k c5) /\ W.cell? ⟨g5, j2, none⟩ = some (.slice (some ⟨gr, 0, none⟩) mr cr)) V6 := ⟨(by have h := X.out.cell 5; simpa using h), hcu⟩
   refine tky (i := 0) (v := ?_) hS ?_ ?_
   rotate_left
   ·rintro w' ⟨s0', s1'⟩
    go_simp
    try with_reducible rfl
   try simp only [Act.put, zq1, zq2, zq3, zq4, zq5, zq6]
   refine tky (i := 1) (v := ?_) hS ?_ ?_
   rotate_left
   ·rintro w' ⟨s0', s1'⟩
    go_simp
    try with_reducible rfl
   try simp only [Act.put, zq1, zq2, zq3, zq4, zq5, zq6]
   refine tky (i := 2) (v := ?_) hS ?_ ?_
   rotate_left
   ·rintro w' ⟨s0', s1'⟩
    go_simp
    try with_reducible rfl
   try simp only [Act.put, zq1, zq2, zq3, zq4, zq5, zq6]
   refine tky (i := 3) (v := ?_) hS ?_ ?_
   rotate_left
   ·rintro w' ⟨s0', s1'⟩
    go_simp
    try with_reducible rfl
   try simp only [Act.put, zq1, zq2, zq3, zq4, zq5, zq6]
   refine tky (i := 4) (v := ?_) hS ?_ ?_
   rotate_left
   ·rintro w' ⟨s0', s1'⟩
    go_simp
    try with_reducible rfl
   try simp only [Act.put, zq1, zq2, zq3, zq4, zq5, zq6]
   refine tky (i := 5) (v := ?_) hS ?_ ?_
   rotate_left
   ·rintro w' ⟨s0', s1'⟩
    go_simp
    try with_reducible rfl
   try simp only [Act.put, zq1, zq2, zq3, zq4, zq5, zq6]
   refine tky (i := 6) (v := ?_) hS ?_ ?_
   rotate_left
   ·rintro w' ⟨s0', s1'⟩
    go_simp
    try with_reducible rfl
   try simp only [Act.put, zq1, zq2, zq3, zq4, zq5, zq6]
   refine tky (i := 7) (v := ?_) hS ?_ ?_
   rotate_left
   ·rintro w' ⟨s0', s1'⟩
    go_simp
    try with_reducible rfl
   try simp only [Act.put, zq1, zq2, zq3, zq4, zq5, zq6]
   refine tky (i := 11) (v := ?_) hS ?_ ?_
   rotate_left
   ·rintro w' ⟨s0', s1'⟩
    go_simp
    try with_reducible rfl
   try simp only [Act.put, zq1, zq2, zq3, zq4, zq5, zq6]
   refine tky (i := 13) (v := ?_) hS ?_ ?_
   rotate_left
   ·rintro w' ⟨s0', s1'⟩
    go_simp
    try with_reducible rfl
   try simp only [Act.put, zq1, zq2, zq3, zq4, zq5, zq6]
   refine tky (i := 15) (v := ?_) hS ?_ ?_
   rotate_left
   ·rintro w' ⟨s0', s1'⟩
    go_simp
    try with_reducible rfl
   try simp only [Act.put, zq1, zq2, zq3, zq4, zq5, zq6]
   refine anyY_gw (i := 8) (by kernel_rfl) rfl (by rfl) ?_
   intro K hK
   try simp only [zq1, zq2, zq3]
   refine wp_enterE #[.int .i64 a6, .int .i64 (k : Int)] Try.func19 (by kernel_rfl) (by kernel_rfl) ?_ (HW2.out _) ?_
   ·go_simp
   rintro e Vx ⟨rfl, hV⟩
   subst Vx
   refine ⟨_, rfl, ?_⟩
   refine hK _ _ hS ?_
   clear hK
   try simp only [Act.put, zq1, zq2, zq3, zq4, zq5, zq6]
   refine tky (i := 9) (v := ?_) hS ?_ ?_
   rotate_left
   ·rintro w' ⟨s0', s1'⟩
    go_simp
    try with_reducible rfl
   try simp only [Act.put, zq1, zq2, zq3, zq4, zq5, zq6]
   refine tky (i := 10) (v := ?_) hS ?_ ?_
   rotate_left
   ·rintro w' ⟨s0', s1'⟩
    go_simp
    try with_reducible rfl
   try simp only [Act.put, zq1, zq2, zq3, zq4, zq5, zq6]
   refine anyY_gw (i := 12) (by kernel_rfl) rfl (by rfl) ?_
   intro K hK
   try simp only [zq1, zq2, zq3]
   refine wp_enterE #[.int .i64 a7, .int .i64 2] Try.func19 (by kernel_rfl) (by kernel_rfl) ?_ (HWA.out _) ?_
   ·go_simp
   rintro e Vx ⟨rfl, hV⟩
   subst Vx
   refine ⟨_, rfl, ?_⟩
   refine hK _ _ hS ?_
   clear hK
   try simp only [Act.put, zq1, zq2, zq3, zq4, zq5, zq6]
   refine tkyg [17] (i := 16) (v := ?_) hS ?_ ?_
   rotate_left
   ·rintro w' ⟨s0', s1'⟩
    go_simp
    try with_reducible rfl
   try simp only [Act.put, zq1, zq2, zq3, zq4, zq5, zq6]
   refine anyY_gw (i := 14) (by kernel_rfl) rfl (by rfl) ?_
   intro K hK
   try simp only [zq1, zq2, zq3]
   refine wp_enterE #[.int .i64 a6, .int .i64 3] Try.func19 (by kernel_rfl) (by kernel_rfl) ?_ (HWC.out _) ?_
   ·go_simp
   rintro e Vx ⟨rfl, hV⟩
   subst Vx
   refine ⟨_, rfl, ?_⟩
   refine hK _ _ hS ?_
   clear hK
   try simp only [Act.put, zq1, zq2, zq3, zq4, zq5, zq6]
   refine tky (i := 17) (v := ?_) hS ?_ ?_
   rotate_left
   ·rintro w' ⟨s0', s1'⟩
    go_simp
    try with_reducible rfl
   try simp only [Act.put, zq1, zq2, zq3, zq4, zq5, zq6]
   clear hS
   refine anyY_last (i := 18) (by kernel_rfl) (by kernel_rfl) (by kernel_rfl) rfl rfl ?_
   try simp only [zq1, zq2, zq3]
   go_simp
   try apply_assumption
   go_wp2_with fail
   obtain ⟨W, hW⟩ : ∃ W, V6.setCell ⟨gr, p2 * 3 + p3, none⟩ (.int .i64 v) = W := ⟨_, rfl⟩
   have htn := htn0 v
   replace HB : Hid (Below w.heap.size w W) := Lib.hid (by rw [<- hW]; exact HB.out.setCell (p := ⟨gr, p2 * 3 + p3, none⟩) hgw _)
   rw [hW] at htn ⊢
   have TQ := Lib.hid ((TS.out.q (by omega)).turn htn (by decide) (by decide))
   replace X := Lib.hid (htn.box X.out (by decide))
   clear htn hW TS
   have hb : Below W.heap.size W W.drew := (Below.refl _ _).drew
   replace TQ := Lib.hid (TQ.out.below hb)
   replace X := Lib.hid (Blk.below X.out hb X.out.lt)
   replace HB := Lib.hid (HB.out.trans (hb.mono HB.out.size))
   clear hb
   refine region_x 5 (fun W : World => W.cell? ⟨bt, 0, none⟩ = some (.slice (some ⟨g0, 0, none⟩) m c0) /\ W.cell? ⟨bt, 1, none⟩ = some (.slice (some ⟨g1, 0, none⟩) m c1) /\ W.cell? ⟨bt, 2, none⟩ = some (.slice (some ⟨g2, 0, none⟩) k c2) /\ W.cell? ⟨bt, 3, none⟩ = some (.slice (some ⟨g3, 0, none⟩) k c3) /\ W.cell? ⟨bt, 4, none⟩ = some (.slice (some ⟨g4, 0, none⟩) k c4) /\ W.cell? ⟨bt, 5, none⟩ = some (.slice (some ⟨g5, 0, none⟩) k c5)) (by kernel_rfl) ?_
   generalize W.drew = V6 at *
   have hS : (fun W : World => W.cell? ⟨bt, 0, none⟩ = some (.slice (some ⟨g0, 0, none⟩) m c0) /\ W.cell? ⟨bt, 1, none⟩ = some (.slice (some ⟨g1, 0, none⟩) m c1) /\ W.cell? ⟨bt, 2, none⟩ = some (.slice (some ⟨g2, 0, none⟩) k c2) /\ W.cell? ⟨bt, 3, none⟩ = some (.slice (some ⟨g3, 0, none⟩) k c3) /\ W.cell? ⟨bt, 4, none⟩ = some (.slice (some ⟨g4, 0, none⟩) k c4) /\ W.cell? ⟨bt, 5, none⟩ = some (.slice (some ⟨g5, 0, none⟩) k c5)) V6 := ⟨X.out.cell 0, X.out.cell 1, X.out.cell 2, X.out.cell 3, X.out.cell 4, X.out.cell 5⟩
   obtain ⟨t, htr, htl⟩ := TQ.out.tab
   have HTR := Lib.hid htr; have HTL := Lib.hid htl
   clear htr htl TQ
   refine tkx (i := 0) (v := ?_) hS ?_ ?_
   rotate_left
   ·rintro w' ⟨s0', s1', s2', s3', s4', s5'⟩
    go_simp
    try with_reducible rfl
   try simp only [Act.put, zq1, zq2, zq3, zq4, zq5, zq6]
   refine tkx (i := 2) (v := ?_) hS ?_ ?_
   rotate_left
   ·rintro w' ⟨s0', s1', s2', s3', s4', s5'⟩
    go_simp
    try with_reducible rfl
   try simp only [Act.put, zq1, zq2, zq3, zq4, zq5, zq6]
   refine anyX_g (i := 1) (by kernel_rfl) (by decide) rfl (by rfl) ?_
   intro K hK
   try simp only [zq1, zq2, zq3]
   refine wp_enterE #[.agg #[.slice (some ⟨g0, 0, none⟩) m c0, .slice (some ⟨g1, 0, none⟩) m c1, .slice (some ⟨g2, 0, none⟩) k c2, .slice (some ⟨g3, 0, none⟩) k c3, .slice (some ⟨g4, 0, none⟩) k c4, .slice (some ⟨g5, 0, none⟩) k c5]] Try.func14 (by kernel_rfl) (by kernel_rfl) ?_ (tright_any HTR.out) ?_
   ·go_simp
   rintro e V7 ⟨b1, rfl, hb1, hb⟩
   replace HTR := Lib.hid (HTR.out.below hb)
   replace X := Lib.hid (Blk.below X.out hb X.out.lt)
   have H1 := Lib.hid hb1
   replace HB := Lib.hid (HB.out.trans (hb.mono HB.out.size))
   clear hb
   clear hb1 hS
   have hS : (fun W : World => W.cell? ⟨bt, 0, none⟩ = some (.slice (some ⟨g0, 0, none⟩) m c0) /\ W.cell? ⟨bt, 1, none⟩ = some (.slice (some ⟨g1, 0, none⟩) m c1) /\ W.cell? ⟨bt, 2, none⟩ = some (.slice (some ⟨g2, 0, none⟩) k c2) /\ W.cell? ⟨bt, 3, none⟩ = some (.slice (some ⟨g3, 0, none⟩) k c3) /\ W.cell? ⟨bt, 4, none⟩ = some (.slice (some ⟨g4, 0, none⟩) k c4) /\ W.cell? ⟨bt, 5, none⟩ = some (.slice (some ⟨g5, 0, none⟩) k c5)) V7 := ⟨X.out.cell 0, X.out.cell 1, X.out.cell 2, X.out.cell 3, X.out.cell 4, X.out.cell 5⟩
   refine ⟨_, rfl, ?_⟩
   refine hK _ _ hS ?_
   clear hK
   try simp only [Act.put, zq1, zq2, zq3, zq4, zq5, zq6]
   refine anyX_g (i := 3) (by kernel_rfl) (by decide) rfl (by rfl) ?_
   intro K hK
   try simp only [zq1, zq2, zq3]
   refine wp_enterE #[.agg #[.slice (some ⟨g0, 0, none⟩) m c0, .slice (some ⟨g1, 0, none⟩) m c1, .slice (some ⟨g2, 0, none⟩) k c2, .slice (some ⟨g3, 0, none⟩) k c3, .slice (some ⟨g4, 0, none⟩) k c4, .slice (some ⟨g5, 0, none⟩) k c5]] Try.func22 (by kernel_rfl) (by kernel_rfl) ?_ (rright_any HTR.out HTL.out) ?_
   ·go_simp
   intro e V8 hro
   unfold RrO at hro
   obtain ⟨b2, rfl, hb2, hb⟩ := hro
   replace X := Lib.hid (Blk.below X.out hb X.out.lt)
   have hbb : b2 = b1 := Bool.eq_iff_iff.2 (hb2.trans H1.out.symm)
   subst hbb
   replace HB := Lib.hid (HB.out.trans (hb.mono HB.out.size))
   clear hb
   clear hb2 hS
   have hS : (fun W : World => W.cell? ⟨bt, 0, none⟩ = some (.slice (some ⟨g0, 0, none⟩) m c0) /\ W.cell? ⟨bt, 1, none⟩ = some (.slice (some ⟨g1, 0, none⟩) m c1) /\ W.cell? ⟨bt, 2, none⟩ = some (.slice (some ⟨g2, 0, none⟩) k c2) /\ W.cell? ⟨bt, 3, none⟩ = some (.slice (some ⟨g3, 0, none⟩) k c3) /\ W.cell? ⟨bt, 4, none⟩ = some (.slice (some ⟨g4, 0, none⟩) k c4) /\ W.cell? ⟨bt, 5, none⟩ = some (.slice (some ⟨g5, 0, none⟩) k c5)) V8 := ⟨X.out.cell 0, X.out.cell 1, X.out.cell 2, X.out.cell 3, X.out.cell 4, X.out.cell 5⟩
   refine ⟨_, rfl, ?_⟩
   refine hK _ _ hS ?_
   clear hK
   try simp only [Act.put, zq1, zq2, zq3, zq4, zq5, zq6]
   have hxx : (b2 == b2) = true := by cases b2 <;> rfl
   refine tkx (i := 4) (v := ?_) hS ?_ ?_
   rotate_left
   ·rintro w' ⟨s0', s1', s2', s3', s4', s5'⟩
    go_simp
    try with_reducible rfl
   try simp only [Act.put, zq1, zq2, zq3, zq4, zq5, zq6]
   clear hS
   refine anyX_last (by kernel_rfl) (by kernel_rfl) rfl rfl ?_
   try simp only [zq1, zq2, zq3]
   go_simp
   try apply_assumption
   go_wp2_with fail
   go_ret
   exact ⟨by cases b2 <;> rfl, HB.out⟩
  ·go_wp2_with fail
   have hb : Below V5.heap.size V5 V5.drew := (Below.refl _ _).drew
   replace TS := Lib.hid (TS.out.below hb)
   replace X := Lib.hid (Blk.below X.out hb X.out.lt)
   replace HBS := Lib.hid (Nat.le_trans HBS.out hb.size)
   replace HB := Lib.hid (HB.out.trans (hb.mono HB.out.size))
   clear hb
   clear k0 k1 k2 k3 k4 k5
   obtain ⟨V6, hV6⟩ : ∃ W, V5.drew = W := ⟨_, rfl⟩
   rw [hV6] at TS X HBS HB
   obtain ⟨ga, ca, ur, mr, ea, -, -, hga, -, hcu, hfu, hmr, hmr9, hou⟩ := TS.out.bn.at_ (i := j2) (by omega)
   simp only [Value.slice.injEq, Option.some.injEq, Addr.mk.injEq, and_true, true_and] at ea
   obtain ⟨rfl, rfl⟩ := ea
   obtain ⟨gr, cr, xr, er, hrc, hrc', hgr, hgr', hcx, hfx, htn0⟩ := hou.at_ (o := 0) (by omega)
   subst er
   have hgw : w.heap.size <= gr := Nat.le_trans HWB.out hgr
   obtain ⟨cs2, hb2⟩ := TS.out.bn.blk
   have HCS : Hid (cs2[j2]? = some (.slice (some ⟨gr, 0, none⟩) mr cr)) := Lib.hid ((hb2.cell j2).symm.trans hcu)
   have HB2 := Lib.hid hb2
   have HOU := Lib.hid hou
   have hg2w : w.heap.size <= g2 := Nat.le_trans HWB.out bg2
   clear hb2 hcu hfu htn0 hcx hfx hou
   refine region_x 13 (fun W : World => W.cell? ⟨bt, 2, none⟩ = some (.slice (some ⟨g2, 0, none⟩) k c2) /\ W.cell? ⟨g2, j2, none⟩ = some (.slice (some ⟨gr, 0, none⟩) mr cr)) (by kernel_rfl) ?_
   rw [hV6]
   clear hV6
   have hS : (fun W : World => W.cell? ⟨bt, 2, none⟩ = some (.slice (some ⟨g2, 0, none⟩) k c2) /\ W.cell? ⟨g2, j2, none⟩ = some (.slice (some ⟨gr, 0, none⟩) mr cr)) V6 := ⟨(by have h := X.out.cell 2; simpa using h), (HB2.out.cell j2).trans HCS.out⟩
   refine tkx (i := 0) (v := ?_) hS ?_ ?_
   rotate_left
   ·rintro w' ⟨s0', s1'⟩
    go_simp
    try with_reducible rfl
   try simp only [Act.put, zq1, zq2, zq3, zq4, zq5, zq6]
   refine tkx (i := 1) (v := ?_) hS ?_ ?_
   rotate_left
   ·rintro w' ⟨s0', s1'⟩
    go_simp
    try with_reducible rfl
   try simp only [Act.put, zq1, zq2, zq3, zq4, zq5, zq6]
   refine tkx (i := 2) (v := ?_) hS ?_ ?_
   rotate_left
   ·rintro w' ⟨s0', s1'⟩
    go_simp
    try with_reducible rfl
   try simp only [Act.put, zq1, zq2, zq3, zq4, zq5, zq6]
   refine tkx (i := 3) (v := ?_) hS ?_ ?_
   rotate_left
   ·rintro w' ⟨s0', s1'⟩
    go_simp
    try with_reducible rfl
   try simp only [Act.put, zq1, zq2, zq3, zq4, zq5, zq6]
   refine tkx (i := 4) (v := ?_) hS ?_ ?_
   rotate_left
   ·rintro w' ⟨s0', s1'⟩
    go_simp
    try with_reducible rfl
   try simp only [Act.put, zq1, zq2, zq3, zq4, zq5, zq6]
   refine tkx (i := 5) (v := ?_) hS ?_ ?_
   rotate_left
   ·rintro w' ⟨s0', s1'⟩
    go_simp
    try with_reducible rfl
   try simp only [Act.put, zq1, zq2, zq3, zq4, zq5, zq6]
   refine tkx (i := 6) (v := ?_) hS ?_ ?_
   rotate_left
   ·rintro w' ⟨s0', s1'⟩
    go_simp
    try with_reducible rfl
   try simp only [Act.put, zq1, zq2, zq3, zq4, zq5, zq6]
   refine tkx (i := 7) (v := ?_) hS ?_ ?_
   rotate_left
   ·rintro w' ⟨s0', s1'⟩
    go_simp
    try with_reducible rfl
   try simp only [Act.put, zq1, zq2, zq3, zq4, zq5, zq6]
   refine tkx (i := 8) (v := ?_) hS ?_ ?_
   rotate_left
   ·rintro w' ⟨s0', s1'⟩
    go_simp
    try with_reducible rfl
   try simp only [Act.put, zq1, zq2, zq3, zq4, zq5, zq6]
   refine tkx (i := 9) (v := ?_) hS ?_ ?_
   rotate_left
   ·rintro w' ⟨s0', s1'⟩
    go_simp
    try with_reducible rfl
   try simp only [Act.put, zq1, zq2, zq3, zq4, zq5, zq6]
   refine anyX_g (i := 10) (by kernel_rfl) (by decide) rfl (by rfl) ?_
   intro K hK
   try simp only [zq1, zq2, zq3]
   go_simp
   obtain ⟨V7, eV⟩ : ∃ W', V6.alloc (.cells #[.int .i64 0] 3) = W' := ⟨_, rfl⟩
   have hb : Below V6.heap.size V6 V7 := by rw [<- eV]; exact (Below.refl _ _).alloc (Nat.le_refl _) _
   have HC : Hid (V7.heap[V6.heap.size]? = some (.cells #[.int .i64 0] 3 (0, 0))) := Lib.hid (by rw [<- eV]; exact Blk.new V6 _ _)
   rw [eV]
   clear eV
   replace TS := Lib.hid (TS.out.below hb)
   replace X := Lib.hid (Blk.below X.out hb X.out.lt)
   replace HB2 := Lib.hid (Blk.below HB2.out hb HB2.out.lt)
   replace HOU := Lib.hid (HOU.out.below hb)
   replace HBS := Lib.hid (Nat.le_trans HBS.out hb.size)
   replace HB := Lib.hid (HB.out.trans (hb.mono HB.out.size))
   clear hb
   clear hS
   have hS : (fun W : World => W.cell? ⟨bt, 2, none⟩ = some (.slice (some ⟨g2, 0, none⟩) k c2) /\ W.cell? ⟨g2, j2, none⟩ = some (.slice (some ⟨gr, 0, none⟩) mr cr)) V7 := ⟨(by have h := X.out.cell 2; simpa using h), (HB2.out.cell j2).trans HCS.out⟩
   refine hK _ _ hS ?_
   clear hK
   try simp only [Act.put, zq1, zq2, zq3, zq4, zq5, zq6]
   refine anyX_g (i := 11) (by kernel_rfl) (by decide) rfl (by rfl) ?_
   intro K hK
   try simp only [zq1, zq2, zq3]
   refine wp_pushI (.tmp 126) (.tmp 127) rfl B (.slice (some ⟨gr, 0, none⟩) mr cr) mr (by rfl) HOU.out hmr (by omega) V6.heap.size 0 (by rfl) HC.out HBS.out ?_
   intro g9 cap9 V8 hown hchg hbl
   have TQ8 := Lib.hid (chg_tab hchg (TS.out.q (by omega)))
   replace X := Lib.hid (chg_box hchg X.out (by decide))
   replace HB2 := Lib.hid (chg_box hchg HB2.out (by decide))
   have HOWN := Lib.hid hown
   replace HB := Lib.hid (HB.out.trans (hbl.mono HWB.out))
   clear hown hchg hbl HC HOU TS HBS hS
   have hS : (fun W : World => W.cell? ⟨bt, 2, none⟩ = some (.slice (some ⟨g2, 0, none⟩) k c2) /\ W.cell? ⟨g2, j2, none⟩ = some (.slice (some ⟨gr, 0, none⟩) mr cr)) V8 := ⟨(by have h := X.out.cell 2; simpa using h), (HB2.out.cell j2).trans HCS.out⟩
   refine hK _ _ hS ?_
   clear hK
   try simp only [Act.put, zq1, zq2, zq3, zq4, zq5, zq6]
   refine tkx (i := 12) (v := ?_) hS ?_ ?_
   rotate_left
   ·rintro w' ⟨s0', s1'⟩
    go_simp
    try with_reducible rfl
   try simp only [Act.put, zq1, zq2, zq3, zq4, zq5, zq6]
   obtain ⟨-, hcu'⟩ := hS
   have hfu' := HB2.out.frozen j2
   refine anyX_last (by kernel_rfl) (by kernel_rfl) rfl rfl ?_
   try simp only [zq1, zq2, zq3]
   go_simp
   try apply_assumption
   go_wp2_with fail
   obtain ⟨W, hW⟩ : ∃ W, V8.setCell ⟨g2, j2, none⟩ (.slice (some ⟨g9, 0, none⟩) (mr + 1) cap9) = W := ⟨_, rfl⟩
   have has := aside_set (o := j2) HB2.out (.slice (some ⟨g9, 0, none⟩) (mr + 1) cap9)
   replace HB : Hid (Below w.heap.size w W) := Lib.hid (by rw [<- hW]; exact HB.out.setCell (p := ⟨g2, j2, none⟩) hg2w _)
   have hp2 := TQ8.out.bn.imp fun _ a => a.put_any (o := j2) HB2.out HOWN.out.flat (by decide) (Nat.zero_le _)
   have hp4 := TQ8.out.fn.imp fun _ a => a.put_any (o := j2) HB2.out HOWN.out.flat (by decide) (Nat.zero_le _)
   have q0 := TQ8.out
   rw [hW] at has hp2 hp4 ⊢
   have TQ : Hid (TabQ W (.slice (some ⟨g0, 0, none⟩) m c0) (.slice (some ⟨g1, 0, none⟩) m c1) (.slice (some ⟨g2, 0, none⟩) k c2) (.slice (some ⟨g3, 0, none⟩) k c3) (.slice (some ⟨g4, 0, none⟩) k c4) (.slice (some ⟨g5, 0, none⟩) k c5)) := Lib.hid ⟨q0.c.imp fun _ a => a.aside has (by decide), q0.l.imp fun _ a => ⟨a.1, a.2.aside has (by decide)⟩, hp2, q0.bo.imp fun _ a => a.aside has (by decide), hp4, q0.fe.imp fun _ a => a.aside has (by decide) (by decide)⟩
   replace X := Lib.hid (has.box X.out (by decide))
   clear has hp2 hp4 q0 hW TQ8 HB2 HOWN HCS hcu' hfu'
   have hb : Below W.heap.size W W.drew := (Below.refl _ _).drew
   replace TQ := Lib.hid (TQ.out.below hb)
   replace X := Lib.hid (Blk.below X.out hb X.out.lt)
   replace HB := Lib.hid (HB.out.trans (hb.mono HB.out.size))
   clear hb
   refine region_x 5 (fun W : World => W.cell? ⟨bt, 0, none⟩ = some (.slice (some ⟨g0, 0, none⟩) m c0) /\ W.cell? ⟨bt, 1, none⟩ = some (.slice (some ⟨g1, 0, none⟩) m c1) /\ W.cell? ⟨bt, 2, none⟩ = some (.slice (some ⟨g2, 0, none⟩) k c2) /\ W.cell? ⟨bt, 3, none⟩ = some (.slice (some ⟨g3, 0, none⟩) k c3) /\ W.cell? ⟨bt, 4, none⟩ = some (.slice (some ⟨g4, 0, none⟩) k c4) /\ W.cell? ⟨bt, 5, none⟩ = some (.slice (some ⟨g5, 0, none⟩) k c5)) (by kernel_rfl) ?_
   generalize W.drew = V6 at *
   have hS : (fun W : World => W.cell? ⟨bt, 0, none⟩ = some (.slice (some ⟨g0, 0, none⟩) m c0) /\ W.cell? ⟨bt, 1, none⟩ = some (.slice (some ⟨g1, 0, none⟩) m c1) /\ W.cell? ⟨bt, 2, none⟩ = some (.slice (some ⟨g2, 0, none⟩) k c2) /\ W.cell? ⟨bt, 3, none⟩ = some (.slice (some ⟨g3, 0, none⟩) k c3) /\ W.cell? ⟨bt, 4, none⟩ = some (.slice (some ⟨g4, 0, none⟩) k c4) /\ W.cell? ⟨bt, 5, none⟩ = some (.slice (some ⟨g5, 0, none⟩) k c5)) V6 := ⟨X.out.cell 0, X.out.cell 1, X.out.cell 2, X.out.cell 3, X.out.cell 4, X.out.cell 5⟩
   obtain ⟨t, htr, htl⟩ := TQ.out.tab
   have HTR := Lib.hid htr; have HTL := Lib.hid htl
   clear htr htl TQ
   refine tkx (i := 0) (v := ?_) hS ?_ ?_
   rotate_left
   ·rintro w' ⟨s0', s1', s2', s3', s4', s5'⟩
    go_simp
    try with_reducible rfl
   try simp only [Act.put, zq1, zq2, zq3, zq4, zq5, zq6]
   refine tkx (i := 2) (v := ?_) hS ?_ ?_
   rotate_left
   ·rintro w' ⟨s0', s1', s2', s3', s4', s5'⟩
    go_simp
    try with_reducible rfl
   try simp only [Act.put, zq1, zq2, zq3, zq4, zq5, zq6]
   refine anyX_g (i := 1) (by kernel_rfl) (by decide) rfl (by rfl) ?_
   intro K hK
   try simp only [zq1, zq2, zq3]
   refine wp_enterE #[.agg #[.slice (some ⟨g0, 0, none⟩) m c0, .slice (some ⟨g1, 0, none⟩) m c1, .slice (some ⟨g2, 0, none⟩) k c2, .slice (some ⟨g3, 0, none⟩) k c3, .slice (some ⟨g4, 0, none⟩) k c4, .slice (some ⟨g5, 0, none⟩) k c5]] Try.func14 (by kernel_rfl) (by kernel_rfl) ?_ (tright_any HTR.out) ?_
   ·go_simp
   rintro e V7 ⟨b1, rfl, hb1, hb⟩
   replace HTR := Lib.hid (HTR.out.below hb)
   replace X := Lib.hid (Blk.below X.out hb X.out.lt)
   have H1 := Lib.hid hb1
   replace HB := Lib.hid (HB.out.trans (hb.mono HB.out.size))
   clear hb
   clear hb1 hS
   have hS : (fun W : World => W.cell? ⟨bt, 0, none⟩ = some (.slice (some ⟨g0, 0, none⟩) m c0) /\ W.cell? ⟨bt, 1, none⟩ = some (.slice (some ⟨g1, 0, none⟩) m c1) /\ W.cell? ⟨bt, 2, none⟩ = some (.slice (some ⟨g2, 0, none⟩) k c2) /\ W.cell? ⟨bt, 3, none⟩ = some (.slice (some ⟨g3, 0, none⟩) k c3) /\ W.cell? ⟨bt, 4, none⟩ = some (.slice (some ⟨g4, 0, none⟩) k c4) /\ W.cell? ⟨bt, 5, none⟩ = some (.slice (some ⟨g5, 0, none⟩) k c5)) V7 := ⟨X.out.cell 0, X.out.cell 1, X.out.cell 2, X.out.cell 3, X.out.cell 4, X.out.cell 5⟩
   refine ⟨_, rfl, ?_⟩
   refine hK _ _ hS ?_
   clear hK
   try simp only [Act.put, zq1, zq2, zq3, zq4, zq5, zq6]
   refine anyX_g (i := 3) (by kernel_rfl) (by decide) rfl (by rfl) ?_
   intro K hK
   try simp only [zq1, zq2, zq3]
   refine wp_enterE #[.agg #[.slice (some ⟨g0, 0, none⟩) m c0, .slice (some ⟨g1, 0, none⟩) m c1, .slice (some ⟨g2, 0, none⟩) k c2, .slice (some ⟨g3, 0, none⟩) k c3, .slice (some ⟨g4, 0, none⟩) k c4, .slice (some ⟨g5, 0, none⟩) k c5]] Try.func22 (by kernel_rfl) (by kernel_rfl) ?_ (rright_any HTR.out HTL.out) ?_
   ·go_simp
   intro e V8 hro
   unfold RrO at hro
   obtain ⟨b2, rfl, hb2, hb⟩ := hro
   replace X := Lib.hid (Blk.below X.out hb X.out.lt)
   have hbb : b2 = b1 := Bool.eq_iff_iff.2 (hb2.trans H1.out.symm)
   subst hbb
   replace HB := Lib.hid (HB.out.trans (hb.mono HB.out.size))
   clear hb
   clear hb2 hS
   have hS : (fun W : World => W.cell? ⟨bt, 0, none⟩ = some (.slice (some ⟨g0, 0, none⟩) m c0) /\ W.cell? ⟨bt, 1, none⟩ = some (.slice (some ⟨g1, 0, none⟩) m c1) /\ W.cell? ⟨bt, 2, none⟩ = some (.slice (some ⟨g2, 0, none⟩) k c2) /\ W.cell? ⟨bt, 3, none⟩ = some (.slice (some ⟨g3, 0, none⟩) k c3) /\ W.cell? ⟨bt, 4, none⟩ = some (.slice (some ⟨g4, 0, none⟩) k c4) /\ W.cell? ⟨bt, 5, none⟩ = some (.slice (some ⟨g5, 0, none⟩) k c5)) V8 := ⟨X.out.cell 0, X.out.cell 1, X.out.cell 2, X.out.cell 3, X.out.cell 4, X.out.cell 5⟩
   refine ⟨_, rfl, ?_⟩
   refine hK _ _ hS ?_
   clear hK
   try simp only [Act.put, zq1, zq2, zq3, zq4, zq5, zq6]
   have hxx : (b2 == b2) = true := by cases b2 <;> rfl
   refine tkx (i := 4) (v := ?_) hS ?_ ?_
   rotate_left
   ·rintro w' ⟨s0', s1', s2', s3', s4', s5'⟩
    go_simp
    try with_reducible rfl
   try simp only [Act.put, zq1, zq2, zq3, zq4, zq5, zq6]
   clear hS
   refine anyX_last (by kernel_rfl) (by kernel_rfl) rfl rfl ?_
   try simp only [zq1, zq2, zq3]
   go_simp
   try apply_assumption
   go_wp2_with fail
   go_ret
   exact ⟨by cases b2 <;> rfl, HB.out⟩
  ·by_cases hc3 : c3 = 1
   ·subst hc3
    obtain rfl : k = 1 := by omega
    have f3 := X.out.frozen 3
    go_wp2_with fail
    have q0 := TS.out.q (by omega)
    have q1 : TabQ V5 (.slice (some ⟨g0, 0, none⟩) m c0) (.slice (some ⟨g1, 0, none⟩) m c1) (.slice (some ⟨g2, 0, none⟩) 1 c2) (.slice (some ⟨g3, 0, none⟩) 0 0) (.slice (some ⟨g4, 0, none⟩) 1 c4) (.slice (some ⟨g5, 0, none⟩) 1 c5) := ⟨q0.c, q0.l, q0.bn, ⟨_, TS.out.bo.flat.none0⟩, q0.fn, q0.fe⟩
    obtain ⟨W, hW⟩ : ∃ W, V5.setCell ⟨bt, 3, none⟩ (.slice (some ⟨g3, 0, none⟩) 0 0) = W := ⟨_, rfl⟩
    have hbt : w.heap.size <= bt := by have := HBT.out; have := HB0.out.size; omega
    have TQ : Hid (TabQ W (.slice (some ⟨g0, 0, none⟩) m c0) (.slice (some ⟨g1, 0, none⟩) m c1) (.slice (some ⟨g2, 0, none⟩) 1 c2) (.slice (some ⟨g3, 0, none⟩) 0 0) (.slice (some ⟨g4, 0, none⟩) 1 c4) (.slice (some ⟨g5, 0, none⟩) 1 c5)) := Lib.hid (by rw [<- hW]; exact q1.box X.out)
    replace X : Hid (Blk W bt 31 #[.slice (some ⟨g0, 0, none⟩) m c0, .slice (some ⟨g1, 0, none⟩) m c1, .slice (some ⟨g2, 0, none⟩) 1 c2, .slice (some ⟨g3, 0, none⟩) 0 0, .slice (some ⟨g4, 0, none⟩) 1 c4, .slice (some ⟨g5, 0, none⟩) 1 c5]) := Lib.hid (by rw [<- hW]; simpa using X.out.set_ 3 (.slice (some ⟨g3, 0, none⟩) 0 0))
    replace HB : Hid (Below w.heap.size w W) := Lib.hid (by rw [<- hW]; exact HB.out.setCell (p := ⟨bt, 3, none⟩) hbt _)
    rw [hW]
    clear hW q0 q1 f3 TS hbt
    clear k0 k1 k2 k3 k4 k5
    have hb : Below W.heap.size W W.drew := (Below.refl _ _).drew
    replace TQ := Lib.hid (TQ.out.below hb)
    replace X := Lib.hid (Blk.below X.out hb X.out.lt)
    replace HB := Lib.hid (HB.out.trans (hb.mono HB.out.size))
    clear hb
    refine region_x 5 (fun W : World => W.cell? ⟨bt, 0, none⟩ = some (.slice (some ⟨g0, 0, none⟩) m c0) /\ W.cell? ⟨bt, 1, none⟩ = some (.slice (some ⟨g1, 0, none⟩) m c1) /\ W.cell? ⟨bt, 2, none⟩ = some (.slice (some ⟨g2, 0, none⟩) 1 c2) /\ W.cell? ⟨bt, 3, none⟩ = some (.slice (some ⟨g3, 0, none⟩) 0 0) /\ W.cell? ⟨bt, 4, none⟩ = some (.slice (some ⟨g4, 0, none⟩) 1 c4) /\ W.cell? ⟨bt, 5, none⟩ = some (.slice (some ⟨g5, 0, none⟩) 1 c5)) (by kernel_rfl) ?_
    generalize W.drew = V6 at *
    have hS : (fun W : World => W.cell? ⟨bt, 0, none⟩ = some (.slice (some ⟨g0, 0, none⟩) m c0) /\ W.cell? ⟨bt, 1, none⟩ = some (.slice (some ⟨g1, 0, none⟩) m c1) /\ W.cell? ⟨bt, 2, none⟩ = some (.slice (some ⟨g2, 0, none⟩) 1 c2) /\ W.cell? ⟨bt, 3, none⟩ = some (.slice (some ⟨g3, 0, none⟩) 0 0) /\ W.cell? ⟨bt, 4, none⟩ = some (.slice (some ⟨g4, 0, none⟩) 1 c4) /\ W.cell? ⟨bt, 5, none⟩ = some (.slice (some ⟨g5, 0, none⟩) 1 c5)) V6 := ⟨X.out.cell 0, X.out.cell 1, X.out.cell 2, X.out.cell 3, X.out.cell 4, X.out.cell 5⟩
    obtain ⟨t, htr, htl⟩ := TQ.out.tab
    have HTR := Lib.hid htr; have HTL := Lib.hid htl
    clear htr htl TQ
    refine tkx (i := 0) (v := ?_) hS ?_ ?_
    rotate_left
    ·rintro w' ⟨s0', s1', s2', s3', s4', s5'⟩
     go_simp
     try with_reducible rfl
    try simp only [Act.put, zq1, zq2, zq3, zq4, zq5, zq6]
    refine tkx (i := 2) (v := ?_) hS ?_ ?_
    rotate_left
    ·rintro w' ⟨s0', s1', s2', s3', s4', s5'⟩
     go_simp
     try with_reducible rfl
    try simp only [Act.put, zq1, zq2, zq3, zq4, zq5, zq6]
    refine anyX_g (i := 1) (by kernel_rfl) (by decide) rfl (by rfl) ?_
    intro K hK
    try simp only [zq1, zq2, zq3]
    refine wp_enterE #[.agg #[.slice (some ⟨g0, 0, none⟩) m c0, .slice (some ⟨g1, 0, none⟩) m c1, .slice (some ⟨g2, 0, none⟩) 1 c2, .slice (some ⟨g3, 0, none⟩) 0 0, .slice (some ⟨g4, 0, none⟩) 1 c4, .slice (some ⟨g5, 0, none⟩) 1 c5]] Try.func14 (by kernel_rfl) (by kernel_rfl) ?_ (tright_any HTR.out) ?_
    ·go_simp
    rintro e V7 ⟨b1, rfl, hb1, hb⟩
    replace HTR := Lib.hid (HTR.out.below hb)
    replace X := Lib.hid (Blk.below X.out hb X.out.lt)
    have H1 := Lib.hid hb1
    replace HB := Lib.hid (HB.out.trans (hb.mono HB.out.size))
    clear hb
    clear hb1 hS
    have hS : (fun W : World => W.cell? ⟨bt, 0, none⟩ = some (.slice (some ⟨g0, 0, none⟩) m c0) /\ W.cell? ⟨bt, 1, none⟩ = some (.slice (some ⟨g1, 0, none⟩) m c1) /\ W.cell? ⟨bt, 2, none⟩ = some (.slice (some ⟨g2, 0, none⟩) 1 c2) /\ W.cell? ⟨bt, 3, none⟩ = some (.slice (some ⟨g3, 0, none⟩) 0 0) /\ W.cell? ⟨bt, 4, none⟩ = some (.slice (some ⟨g4, 0, none⟩) 1 c4) /\ W.cell? ⟨bt, 5, none⟩ = some (.slice (some ⟨g5, 0, none⟩) 1 c5)) V7 := ⟨X.out.cell 0, X.out.cell 1, X.out.cell 2, X.out.cell 3, X.out.cell 4, X.out.cell 5⟩
    refine ⟨_, rfl, ?_⟩
    refine hK _ _ hS ?_
    clear hK
    try simp only [Act.put, zq1, zq2, zq3, zq4, zq5, zq6]
    refine anyX_g (i := 3) (by kernel_rfl) (by decide) rfl (by rfl) ?_
    intro K hK
    try simp only [zq1, zq2, zq3]
    refine wp_enterE #[.agg #[.slice (some ⟨g0, 0, none⟩) m c0, .slice (some ⟨g1, 0, none⟩) m c1, .slice (some ⟨g2, 0, none⟩) 1 c2, .slice (some ⟨g3, 0, none⟩) 0 0, .slice (some ⟨g4, 0, none⟩) 1 c4, .slice (some ⟨g5, 0, none⟩) 1 c5]] Try.func22 (by kernel_rfl) (by kernel_rfl) ?_ (rright_any HTR.out HTL.out) ?_
    ·go_simp
    intro e V8 hro
    unfold RrO at hro
    obtain ⟨b2, rfl, hb2, hb⟩ := hro
    replace X := Lib.hid (Blk.below X.out hb X.out.lt)
    have hbb : b2 = b1 := Bool.eq_iff_iff.2 (hb2.trans H1.out.symm)
    subst hbb
    replace HB := Lib.hid (HB.out.trans (hb.mono HB.out.size))
    clear hb
    clear hb2 hS
    have hS : (fun W : World => W.cell? ⟨bt, 0, none⟩ = some (.slice (some ⟨g0, 0, none⟩) m c0) /\ W.cell? ⟨bt, 1, none⟩ = some (.slice (some ⟨g1, 0, none⟩) m c1) /\ W.cell? ⟨bt, 2, none⟩ = some (.slice (some ⟨g2, 0, none⟩) 1 c2) /\ W.cell? ⟨bt, 3, none⟩ = some (.slice (some ⟨g3, 0, none⟩) 0 0) /\ W.cell? ⟨bt, 4, none⟩ = some (.slice (some ⟨g4, 0, none⟩) 1 c4) /\ W.cell? ⟨bt, 5, none⟩ = some (.slice (some ⟨g5, 0, none⟩) 1 c5)) V8 := ⟨X.out.cell 0, X.out.cell 1, X.out.cell 2, X.out.cell 3, X.out.cell 4, X.out.cell 5⟩
    refine ⟨_, rfl, ?_⟩
    refine hK _ _ hS ?_
    clear hK
    try simp only [Act.put, zq1, zq2, zq3, zq4, zq5, zq6]
    have hxx : (b2 == b2) = true := by cases b2 <;> rfl
    refine tkx (i := 4) (v := ?_) hS ?_ ?_
    rotate_left
    ·rintro w' ⟨s0', s1', s2', s3', s4', s5'⟩
     go_simp
     try with_reducible rfl
    try simp only [Act.put, zq1, zq2, zq3, zq4, zq5, zq6]
    clear hS
    refine anyX_last (by kernel_rfl) (by kernel_rfl) rfl rfl ?_
    try simp only [zq1, zq2, zq3]
    go_simp
    try apply_assumption
    go_wp2_with fail
    go_ret
    exact ⟨by cases b2 <;> rfl, HB.out⟩
   ·have o1 : (1 : Int) <= (k : Int) := by omega
    have o2 : (1 : Int) <= (c3 : Int) := by omega
    have o3 : 1 <= k := by omega
    have o4 : 1 <= c3 := by omega
    have f3 := X.out.frozen 3
    go_wp2_with fail
    have q0 := TS.out.q (by omega)
    have q1 : TabQ V5 (.slice (some ⟨g0, 0, none⟩) m c0) (.slice (some ⟨g1, 0, none⟩) m c1) (.slice (some ⟨g2, 0, none⟩) k c2) (.slice (some ⟨g3, 1, none⟩) (k - 1) (c3 - 1)) (.slice (some ⟨g4, 0, none⟩) k c4) (.slice (some ⟨g5, 0, none⟩) k c5) := ⟨q0.c, q0.l, q0.bn, ⟨_, TS.out.bo.flat.rest (by omega)⟩, q0.fn, q0.fe⟩
    obtain ⟨W, hW⟩ : ∃ W, V5.setCell ⟨bt, 3, none⟩ (.slice (some ⟨g3, 1, none⟩) (k - 1) (c3 - 1)) = W := ⟨_, rfl⟩
    have hbt : w.heap.size <= bt := by have := HBT.out; have := HB0.out.size; omega
    have TQ : Hid (TabQ W (.slice (some ⟨g0, 0, none⟩) m c0) (.slice (some ⟨g1, 0, none⟩) m c1) (.slice (some ⟨g2, 0, none⟩) k c2) (.slice (some ⟨g3, 1, none⟩) (k - 1) (c3 - 1)) (.slice (some ⟨g4, 0, none⟩) k c4) (.slice (some ⟨g5, 0, none⟩) k c5)) := Lib.hid (by rw [<- hW]; exact q1.box X.out)
    replace X : Hid (Blk W bt 31 #[.slice (some ⟨g0, 0, none⟩) m c0, .slice (some ⟨g1, 0, none⟩) m c1, .slice (some ⟨g2, 0, none⟩) k c2, .slice (some ⟨g3, 1, none⟩) (k - 1) (c3 - 1), .slice (some ⟨g4, 0, none⟩) k c4, .slice (some ⟨g5, 0, none⟩) k c5]) := Lib.hid (by rw [<- hW]; simpa using X.out.set_ 3 (.slice (some ⟨g3, 1, none⟩) (k - 1) (c3 - 1)))
    replace HB : Hid (Below w.heap.size w W) := Lib.hid (by rw [<- hW]; exact HB.out.setCell (p := ⟨bt, 3, none⟩) hbt _)
    rw [hW]
    clear hW q0 q1 f3 TS hbt
    clear k0 k1 k2 k3 k4 k5
    have hb : Below W.heap.size W W.drew := (Below.refl _ _).drew
    replace TQ := Lib.hid (TQ.out.below hb)
    replace X := Lib.hid (Blk.below X.out hb X.out.lt)
    replace HB := Lib.hid (HB.out.trans (hb.mono HB.out.size))
    clear hb
    refine region_x 5 (fun W : World => W.cell? ⟨bt, 0, none⟩ = some (.slice (some ⟨g0, 0, none⟩) m c0) /\ W.cell? ⟨bt, 1, none⟩ = some (.slice (some ⟨g1, 0, none⟩) m c1) /\ W.cell? ⟨bt, 2, none⟩ = some (.slice (some ⟨g2, 0, none⟩) k c2) /\ W.cell? ⟨bt, 3, none⟩ = some (.slice (some ⟨g3, 1, none⟩) (k - 1) (c3 - 1)) /\ W.cell? ⟨bt, 4, none⟩ = some (.slice (some ⟨g4, 0, none⟩) k c4) /\ W.cell? ⟨bt, 5, none⟩ = some (.slice (some ⟨g5, 0, none⟩) k c5)) (by kernel_rfl) ?_
    generalize W.drew = V6 at *
    have hS : (fun W : World => W.cell? ⟨bt, 0, none⟩ = some (.slice (some ⟨g0, 0, none⟩) m c0) /\ W.cell? ⟨bt, 1, none⟩ = some (.slice (some ⟨g1, 0, none⟩) m c1) /\ W.cell? ⟨bt, 2, none⟩ = some (.slice (some ⟨g2, 0, none⟩) k c2) /\ W.cell? ⟨bt, 3, none⟩ = some (.slice (some ⟨g3, 1, none⟩) (k - 1) (c3 - 1)) /\ W.cell? ⟨bt, 4, none⟩ = some (.slice (some ⟨g4, 0, none⟩) k c4) /\ W.cell? ⟨bt, 5, none⟩ = some (.slice (some ⟨g5, 0, none⟩) k c5)) V6 := ⟨X.out.cell 0, X.out.cell 1, X.out.cell 2, X.out.cell 3, X.out.cell 4, X.out.cell 5⟩
    obtain ⟨t, htr, htl⟩ := TQ.out.tab
    have HTR := Lib.hid htr; have HTL := Lib.hid htl
    clear htr htl TQ
    refine tkx (i := 0) (v := ?_) hS ?_ ?_
    rotate_left
    ·rintro w' ⟨s0', s1', s2', s3', s4', s5'⟩
     go_simp
     try with_reducible rfl
    try simp only [Act.put, zq1, zq2, zq3, zq4, zq5, zq6]
    refine tkx (i := 2) (v := ?_) hS ?_ ?_
    rotate_left
    ·rintro w' ⟨s0', s1', s2', s3', s4', s5'⟩
     go_simp
     try with_reducible rfl
    try simp only [Act.put, zq1, zq2, zq3, zq4, zq5, zq6]
    refine anyX_g (i := 1) (by kernel_rfl) (by decide) rfl (by rfl) ?_
    intro K hK
    try simp only [zq1, zq2, zq3]
    refine wp_enterE #[.agg #[.slice (some ⟨g0, 0, none⟩) m c0, .slice (some ⟨g1, 0, none⟩) m c1, .slice (some ⟨g2, 0, none⟩) k c2, .slice (some ⟨g3, 1, none⟩) (k - 1) (c3 - 1), .slice (some ⟨g4, 0, none⟩) k c4, .slice (some ⟨g5, 0, none⟩) k c5]] Try.func14 (by kernel_rfl) (by kernel_rfl) ?_ (tright_any HTR.out) ?_
    ·go_simp
    rintro e V7 ⟨b1, rfl, hb1, hb⟩
    replace HTR := Lib.hid (HTR.out.below hb)
    replace X := Lib.hid (Blk.below X.out hb X.out.lt)
    have H1 := Lib.hid hb1
    replace HB := Lib.hid (HB.out.trans (hb.mono HB.out.size))
    clear hb
    clear hb1 hS
    have hS : (fun W : World => W.cell? ⟨bt, 0, none⟩ = some (.slice (some ⟨g0, 0, none⟩) m c0) /\ W.cell? ⟨bt, 1, none⟩ = some (.slice (some ⟨g1, 0, none⟩) m c1) /\ W.cell? ⟨bt, 2, none⟩ = some (.slice (some ⟨g2, 0, none⟩) k c2) /\ W.cell? ⟨bt, 3, none⟩ = some (.slice (some ⟨g3, 1, none⟩) (k - 1) (c3 - 1)) /\ W.cell? ⟨bt, 4, none⟩ = some (.slice (some ⟨g4, 0, none⟩) k c4) /\ W.cell? ⟨bt, 5, none⟩ = some (.slice (some ⟨g5, 0, none⟩) k c5)) V7 := ⟨X.out.cell 0, X.out.cell 1, X.out.cell 2, X.out.cell 3, X.out.cell 4, X.out.cell 5⟩
    refine ⟨_, rfl, ?_⟩
    refine hK _ _ hS ?_
    clear hK
    try simp only [Act.put, zq1, zq2, zq3, zq4, zq5, zq6]
    refine anyX_g (i := 3) (by kernel_rfl) (by decide) rfl (by rfl) ?_
    intro K hK
    try simp only [zq1, zq2, zq3]
    refine wp_enterE #[.agg #[.slice (some ⟨g0, 0, none⟩) m c0, .slice (some ⟨g1, 0, none⟩) m c1, .slice (some ⟨g2, 0, none⟩) k c2, .slice (some ⟨g3, 1, none⟩) (k - 1) (c3 - 1), .slice (some ⟨g4, 0, none⟩) k c4, .slice (some ⟨g5, 0, none⟩) k c5]] Try.func22 (by kernel_rfl) (by kernel_rfl) ?_ (rright_any HTR.out HTL.out) ?_
    ·go_simp
    intro e V8 hro
    unfold RrO at hro
    obtain ⟨b2, rfl, hb2, hb⟩ := hro
    replace X := Lib.hid (Blk.below X.out hb X.out.lt)
    have hbb : b2 = b1 := Bool.eq_iff_iff.2 (hb2.trans H1.out.symm)
    subst hbb
    replace HB := Lib.hid (HB.out.trans (hb.mono HB.out.size))
    clear hb
    clear hb2 hS
    have hS : (fun W : World => W.cell? ⟨bt, 0, none⟩ = some (.slice (some ⟨g0, 0, none⟩) m c0) /\ W.cell? ⟨bt, 1, none⟩ = some (.slice (some ⟨g1, 0, none⟩) m c1) /\ W.cell? ⟨bt, 2, none⟩ = some (.slice (some ⟨g2, 0, none⟩) k c2) /\ W.cell? ⟨bt, 3, none⟩ = some (.slice (some ⟨g3, 1, none⟩) (k - 1) (c3 - 1)) /\ W.cell? ⟨bt, 4, none⟩ = some (.slice (some ⟨g4, 0, none⟩) k c4) /\ W.cell? ⟨bt, 5, none⟩ = some (.slice (some ⟨g5, 0, none⟩) k c5)) V8 := ⟨X.out.cell 0, X.out.cell 1, X.out.cell 2, X.out.cell 3, X.out.cell 4, X.out.cell 5⟩
    refine ⟨_, rfl, ?_⟩
    refine hK _ _ hS ?_
    clear hK
    try simp only [Act.put, zq1, zq2, zq3, zq4, zq5, zq6]
    have hxx : (b2 == b2) = true := by cases b2 <;> rfl
    refine tkx (i := 4) (v := ?_) hS ?_ ?_
    rotate_left
    ·rintro w' ⟨s0', s1', s2', s3', s4', s5'⟩
     go_simp
     try with_reducible rfl
    try simp only [Act.put, zq1, zq2, zq3, zq4, zq5, zq6]
    clear hS
    refine anyX_last (by kernel_rfl) (by kernel_rfl) rfl rfl ?_
    try simp only [zq1, zq2, zq3]
    go_simp
    try apply_assumption
    go_wp2_with fail
    go_ret
    exact ⟨by cases b2 <;> rfl, HB.out⟩
  ·have hb1 : Below V5.heap.size V5 (V5.alloc (.cells #[.int .i64 0, .int .i64 0, .int .i64 0, .int .i64 0, .int .i64 0, .int .i64 0] 45)) := (Below.refl _ _).alloc (Nat.le_refl _) _
   have hb2 : Below (V5.alloc (.cells #[.int .i64 0, .int .i64 0, .int .i64 0, .int .i64 0, .int .i64 0, .int .i64 0] 45)).heap.size (V5.alloc (.cells #[.int .i64 0, .int .i64 0, .int .i64 0, .int .i64 0, .int .i64 0, .int .i64 0] 45)) ((V5.alloc (.cells #[.int .i64 0, .int .i64 0, .int .i64 0, .int .i64 0, .int .i64 0, .int .i64 0] 45)).alloc (.cells #[.slice (some ⟨V5.heap.size, 0, none⟩) 2 2] 46)) := (Below.refl _ _).alloc (Nat.le_refl _) _
   have hb := hb1.trans (hb2.mono hb1.size)
   have hz1 : (V5.alloc (.cells #[.int .i64 0, .int .i64 0, .int .i64 0, .int .i64 0, .int .i64 0, .int .i64 0] 45)).heap.size = V5.heap.size + 1 := World.size_alloc _ _
   obtain ⟨vals, hv, hrows⟩ := TS.out.fe
   have HV := Lib.hid (own_below' hv hb)
   have HROWS : Hid (∀ i, i < k -> ∃ n, OwnI 45 3 ((V5.alloc (.cells #[.int .i64 0, .int .i64 0, .int .i64 0, .int .i64 0, .int .i64 0, .int .i64 0] 45)).alloc (.cells #[.slice (some ⟨V5.heap.size, 0, none⟩) 2 2] 46)) B (vals.getD i undef) n) := Lib.hid (fun i hi => (hrows i hi).elim fun n h => ⟨n, h.2.2.below hb⟩)
   have HC : Hid (((V5.alloc (.cells #[.int .i64 0, .int .i64 0, .int .i64 0, .int .i64 0, .int .i64 0, .int .i64 0] 45)).alloc (.cells #[.slice (some ⟨V5.heap.size, 0, none⟩) 2 2] 46)).heap[V5.heap.size + 1]? = some (.cells #[.slice (some ⟨V5.heap.size, 0, none⟩) 2 2] 46 (0, 0))) := Lib.hid (Blk.newAt _ hz1 _ _)
   have hxr : Blk ((V5.alloc (.cells #[.int .i64 0, .int .i64 0, .int .i64 0, .int .i64 0, .int .i64 0, .int .i64 0] 45)).alloc (.cells #[.slice (some ⟨V5.heap.size, 0, none⟩) 2 2] 46)) V5.heap.size 45 #[.int .i64 0, .int .i64 0, .int .i64 0, .int .i64 0, .int .i64 0, .int .i64 0] := Blk.below (Blk.new V5 _ _) hb2 (Blk.new V5 _ _).lt
   have XR : Hid (OwnI 45 3 ((V5.alloc (.cells #[.int .i64 0, .int .i64 0, .int .i64 0, .int .i64 0, .int .i64 0, .int .i64 0] 45)).alloc (.cells #[.slice (some ⟨V5.heap.size, 0, none⟩) 2 2] 46)) B (.slice (some ⟨V5.heap.size, 0, none⟩) 2 2) 2) := Lib.hid ⟨[.int .i64 0, .int .i64 0, .int .i64 0, .int .i64 0, .int .i64 0, .int .i64 0], ⟨rfl, .inr ⟨_, 2, _, rfl, HBS.out, hxr, Nat.le_refl _, by unfold maxLen; omega, rfl, rfl⟩⟩, fun u hu => ⟨0, by simpa using hu⟩⟩
   have HBA : Hid (B <= ((V5.alloc (.cells #[.int .i64 0, .int .i64 0, .int .i64 0, .int .i64 0, .int .i64 0, .int .i64 0] 45)).alloc (.cells #[.slice (some ⟨V5.heap.size, 0, none⟩) 2 2] 46)).heap.size) := Lib.hid (Nat.le_trans HBS.out hb.size)
   have XA := Lib.hid (Blk.below X.out hb X.out.lt)
   have TQA := Lib.hid ((TS.out.q (by omega)).below hb)
   have HBB := Lib.hid hb
   clear hb hb1 hb2 hz1 hv hrows hxr TS
   go_wp2_with (at_builtin; refine wpList_pushK rfl (.tmp 142) (.tmp 146) rfl B (.slice (some ⟨g5, 0, none⟩) k c5) k vals (by rfl) HV.out (V5.heap.size + 1) (by rfl) #[.slice (some ⟨V5.heap.size, 0, none⟩) 2 2] rfl HC.out (by simp [Value.oneCell']) (by omega) HBA.out ?_; intro g9 cap9 W9 hown hg; have HE := Lib.hid (fe_push XR.out HV.out HROWS.out hown hg (by simp)); have HAS := Lib.hid (aside_grown HV.out hg); have X9 := Lib.hid (HAS.out.box XA.out (by decide)); have TQ9 := Lib.hid TQA.out; have HBL := Lib.hid (below_own HV.out hg HBA.out); clear hown hg; have k5' := X9.out.cell 5; have f5' := X9.out.frozen 5; simp only [List.getElem?_toArray, List.getElem?_cons_zero, List.getElem?_cons_succ] at k5')
   have hbt : w.heap.size <= bt := by have := HBT.out; have := HB0.out.size; omega
   have q1 : TabQ W9 (.slice (some ⟨g0, 0, none⟩) m c0) (.slice (some ⟨g1, 0, none⟩) m c1) (.slice (some ⟨g2, 0, none⟩) k c2) (.slice (some ⟨g3, 0, none⟩) k c3) (.slice (some ⟨g4, 0, none⟩) k c4) (.slice (some ⟨g9, 0, none⟩) (k + 1) cap9) := ⟨TQ9.out.c.imp fun _ a => a.aside HAS.out (by decide), TQ9.out.l.imp fun _ a => ⟨a.1, a.2.aside HAS.out (by decide)⟩, TQ9.out.bn.imp fun _ a => a.aside HAS.out (by decide) (by decide), TQ9.out.bo.imp fun _ a => a.aside HAS.out (by decide), TQ9.out.fn.imp fun _ a => a.aside HAS.out (by decide) (by decide), ⟨_, HE.out⟩⟩
   obtain ⟨W, hW⟩ : ∃ W, W9.setCell ⟨bt, 5, none⟩ (.slice (some ⟨g9, 0, none⟩) (k + 1) cap9) = W := ⟨_, rfl⟩
   have TQ : Hid (TabQ W (.slice (some ⟨g0, 0, none⟩) m c0) (.slice (some ⟨g1, 0, none⟩) m c1) (.slice (some ⟨g2, 0, none⟩) k c2) (.slice (some ⟨g3, 0, none⟩) k c3) (.slice (some ⟨g4, 0, none⟩) k c4) (.slice (some ⟨g9, 0, none⟩) (k + 1) cap9)) := Lib.hid (by rw [<- hW]; exact q1.box X9.out)
   replace X : Hid (Blk W bt 31 #[.slice (some ⟨g0, 0, none⟩) m c0, .slice (some ⟨g1, 0, none⟩) m c1, .slice (some ⟨g2, 0, none⟩) k c2, .slice (some ⟨g3, 0, none⟩) k c3, .slice (some ⟨g4, 0, none⟩) k c4, .slice (some ⟨g9, 0, none⟩) (k + 1) cap9]) := Lib.hid (by rw [<- hW]; simpa using X9.out.set_ 5 (.slice (some ⟨g9, 0, none⟩) (k + 1) cap9))
   have hb9 : Below w.heap.size w W9 := (HB.out.trans (HBB.out.mono HB.out.size)).trans (HBL.out.mono HWB.out)
   replace HB : Hid (Below w.heap.size w W) := Lib.hid (by rw [<- hW]; exact hb9.setCell (p := ⟨bt, 5, none⟩) hbt _)
   rw [hW]
   clear hW q1 hb9 hbt X9 TQ9 HBL HBB HE HAS HV HROWS HC XR XA TQA k5' f5'
   clear k0 k1 k2 k3 k4 k5
   have hb : Below W.heap.size W W.drew := (Below.refl _ _).drew
   replace TQ := Lib.hid (TQ.out.below hb)
   replace X := Lib.hid (Blk.below X.out hb X.out.lt)
   replace HB := Lib.hid (HB.out.trans (hb.mono HB.out.size))
   clear hb
   refine region_x 5 (fun W : World => W.cell? ⟨bt, 0, none⟩ = some (.slice (some ⟨g0, 0, none⟩) m c0) /\ W.cell? ⟨bt, 1, none⟩ = some (.slice (some ⟨g1, 0, none⟩) m c1) /\ W.cell? ⟨bt, 2, none⟩ = some (.slice (some ⟨g2, 0, none⟩) k c2) /\ W.cell? ⟨bt, 3, none⟩ = some (.slice (some ⟨g3, 0, none⟩) k c3) /\ W.cell? ⟨bt, 4, none⟩ = some (.slice (some ⟨g4, 0, none⟩) k c4) /\ W.cell? ⟨bt, 5, none⟩ = some (.slice (some ⟨g9, 0, none⟩) (k + 1) cap9)) (by kernel_rfl) ?_
   generalize W.drew = V6 at *
   have hS : (fun W : World => W.cell? ⟨bt, 0, none⟩ = some (.slice (some ⟨g0, 0, none⟩) m c0) /\ W.cell? ⟨bt, 1, none⟩ = some (.slice (some ⟨g1, 0, none⟩) m c1) /\ W.cell? ⟨bt, 2, none⟩ = some (.slice (some ⟨g2, 0, none⟩) k c2) /\ W.cell? ⟨bt, 3, none⟩ = some (.slice (some ⟨g3, 0, none⟩) k c3) /\ W.cell? ⟨bt, 4, none⟩ = some (.slice (some ⟨g4, 0, none⟩) k c4) /\ W.cell? ⟨bt, 5, none⟩ = some (.slice (some ⟨g9, 0, none⟩) (k + 1) cap9)) V6 := ⟨X.out.cell 0, X.out.cell 1, X.out.cell 2, X.out.cell 3, X.out.cell 4, X.out.cell 5⟩
   obtain ⟨t, htr, htl⟩ := TQ.out.tab
   have HTR := Lib.hid htr; have HTL := Lib.hid htl
   clear htr htl TQ
   refine tkx (i := 0) (v := ?_) hS ?_ ?_
   rotate_left
   ·rintro w' ⟨s0', s1', s2', s3', s4', s5'⟩
    go_simp
    try with_reducible rfl
   try simp only [Act.put, zq1, zq2, zq3, zq4, zq5, zq6]
   refine tkx (i := 2) (v := ?_) hS ?_ ?_
   rotate_left
   ·rintro w' ⟨s0', s1', s2', s3', s4', s5'⟩
    go_simp
    try with_reducible rfl
   try simp only [Act.put, zq1, zq2, zq3, zq4, zq5, zq6]
   refine anyX_g (i := 1) (by kernel_rfl) (by decide) rfl (by rfl) ?_
   intro K hK
   try simp only [zq1, zq2, zq3]
   refine wp_enterE #[.agg #[.slice (some ⟨g0, 0, none⟩) m c0, .slice (some ⟨g1, 0, none⟩) m c1, .slice (some ⟨g2, 0, none⟩) k c2, .slice (some ⟨g3, 0, none⟩) k c3, .slice (some ⟨g4, 0, none⟩) k c4, .slice (some ⟨g9, 0, none⟩) (k + 1) cap9]] Try.func14 (by kernel_rfl) (by kernel_rfl) ?_ (tright_any HTR.out) ?_
   ·go_simp
   rintro e V7 ⟨b1, rfl, hb1, hb⟩
   replace HTR := Lib.hid (HTR.out.below hb)
   replace X := Lib.hid (Blk.below X.out hb X.out.lt)
   have H1 := Lib.hid hb1
   replace HB := Lib.hid (HB.out.trans (hb.mono HB.out.size))
   clear hb
   clear hb1 hS
   have hS : (fun W : World => W.cell? ⟨bt, 0, none⟩ = some (.slice (some ⟨g0, 0, none⟩) m c0) /\ W.cell? ⟨bt, 1, none⟩ = some (.slice (some ⟨g1, 0, none⟩) m c1) /\ W.cell? ⟨bt, 2, none⟩ = some (.slice (some ⟨g2, 0, none⟩) k c2) /\ W.cell? ⟨bt, 3, none⟩ = some (.slice (some ⟨g3, 0, none⟩) k c3) /\ W.cell? ⟨bt, 4, none⟩ = some (.slice (some ⟨g4, 0, none⟩) k c4) /\ W.cell? ⟨bt, 5, none⟩ = some (.slice (some ⟨g9, 0, none⟩) (k + 1) cap9)) V7 := ⟨X.out.cell 0, X.out.cell 1, X.out.cell 2, X.out.cell 3, X.out.cell 4, X.out.cell 5⟩
   refine ⟨_, rfl, ?_⟩
   refine hK _ _ hS ?_
   clear hK
   try simp only [Act.put, zq1, zq2, zq3, zq4, zq5, zq6]
   refine anyX_g (i := 3) (by kernel_rfl) (by decide) rfl (by rfl) ?_
   intro K hK
   try simp only [zq1, zq2, zq3]
   refine wp_enterE #[.agg #[.slice (some ⟨g0, 0, none⟩) m c0, .slice (some ⟨g1, 0, none⟩) m c1, .slice (some ⟨g2, 0, none⟩) k c2, .slice (some ⟨g3, 0, none⟩) k c3, .slice (some ⟨g4, 0, none⟩) k c4, .slice (some ⟨g9, 0, none⟩) (k + 1) cap9]] Try.func22 (by kernel_rfl) (by kernel_rfl) ?_ (rright_any HTR.out HTL.out) ?_
   ·go_simp
   intro e V8 hro
   unfold RrO at hro
   obtain ⟨b2, rfl, hb2, hb⟩ := hro
   replace X := Lib.hid (Blk.below X.out hb X.out.lt)
   have hbb : b2 = b1 := Bool.eq_iff_iff.2 (hb2.trans H1.out.symm)
   subst hbb
   replace HB := Lib.hid (HB.out.trans (hb.mono HB.out.size))
   clear hb
   clear hb2 hS
   have hS : (fun W : World => W.cell? ⟨bt, 0, none⟩ = some (.slice (some ⟨g0, 0, none⟩) m c0) /\ W.cell? ⟨bt, 1, none⟩ = some (.slice (some ⟨g1, 0, none⟩) m c1) /\ W.cell? ⟨bt, 2, none⟩ = some (.slice (some ⟨g2, 0, none⟩) k c2) /\ W.cell? ⟨bt, 3, none⟩ = some (.slice (some ⟨g3, 0, none⟩) k c3) /\ W.cell? ⟨bt, 4, none⟩ = some (.slice (some ⟨g4, 0, none⟩) k c4) /\ W.cell? ⟨bt, 5, none⟩ = some (.slice (some ⟨g9, 0, none⟩) (k + 1) cap9)) V8 := ⟨X.out.cell 0, X.out.cell 1, X.out.cell 2, X.out.cell 3, X.out.cell 4, X.out.cell 5⟩
   refine ⟨_, rfl, ?_⟩
   refine hK _ _ hS ?_
   clear hK
   try simp only [Act.put, zq1, zq2, zq3, zq4, zq5, zq6]
   have hxx : (b2 == b2) = true := by cases b2 <;> rfl
   refine tkx (i := 4) (v := ?_) hS ?_ ?_
   rotate_left
   ·rintro w' ⟨s0', s1', s2', s3', s4', s5'⟩
    go_simp
    try with_reducible rfl
   try simp only [Act.put, zq1, zq2, zq3, zq4, zq5, zq6]
   clear hS
   refine anyX_last (by kernel_rfl) (by kernel_rfl) rfl rfl ?_
   try simp only [zq1, zq2, zq3]
   go_simp
   try apply_assumption
   go_wp2_with fail
   go_ret
   exact ⟨by cases b2 <;> rfl, HB.out⟩
  ·go_wp2_with fail
   have hb : Below V5.heap.size V5 V5.drew := (Below.refl _ _).drew
   replace TS := Lib.hid (TS.out.below hb)
   replace X := Lib.hid (Blk.below X.out hb X.out.lt)
   replace HBS := Lib.hid (Nat.le_trans HBS.out hb.size)
   replace HB := Lib.hid (HB.out.trans (hb.mono HB.out.size))
   clear hb
   clear k0 k1 k2 k3 k4 k5
   obtain ⟨V6, hV6⟩ : ∃ W, V5.drew = W := ⟨_, rfl⟩
   rw [hV6] at TS X HBS HB
   obtain ⟨ga, ca, ur, mr, ea, -, -, hga, -, hcu, hfu, hmr, hmr9, hou⟩ := TS.out.fe.at_ (i := 0) (by omega)
   simp only [Value.slice.injEq, Option.some.injEq, Addr.mk.injEq, and_true, true_and] at ea
   obtain ⟨rfl, rfl⟩ := ea
   obtain ⟨gr, cr, xr, er, hrc, hrc', hgr, hgr', hcx, hfx, htn0⟩ := hou.at_ (o := 0) (by omega)
   subst er
   have hgw : w.heap.size <= gr := Nat.le_trans HWB.out hgr
   have FR := Lib.hid (hou.flat.one (by omega))
   obtain ⟨cs5, hb5⟩ := TS.out.fe.blk
   have HB5 := Lib.hid hb5
   have o1 : (1 : Int) <= (cr : Int) := by omega
   have o2 : 1 <= cr := by omega
   have o3 : (0 : Int) < (k : Int) := by omega
   have hg5w : w.heap.size <= g5 := Nat.le_trans HWB.out bg5
   clear hb5 htn0 hcx hfx
   refine region_x 10 (fun W : World => W.cell? ⟨bt, 5, none⟩ = some (.slice (some ⟨g5, 0, none⟩) k c5) /\ W.cell? ⟨g5, 0, none⟩ = some (.slice (some ⟨gr, 0, none⟩) mr cr)) (by kernel_rfl) ?_
   rw [hV6]
   clear hV6
   have hS : (fun W : World => W.cell? ⟨bt, 5, none⟩ = some (.slice (some ⟨g5, 0, none⟩) k c5) /\ W.cell? ⟨g5, 0, none⟩ = some (.slice (some ⟨gr, 0, none⟩) mr cr)) V6 := ⟨(by have h := X.out.cell 5; simpa using h), hcu⟩
   refine tkx (i := 0) (v := ?_) hS ?_ ?_
   rotate_left
   ·rintro w' ⟨s0', s1'⟩
    go_simp
    try with_reducible rfl
   try simp only [Act.put, zq1, zq2, zq3, zq4, zq5, zq6]
   refine tkx (i := 1) (v := ?_) hS ?_ ?_
   rotate_left
   ·rintro w' ⟨s0', s1'⟩
    go_simp
    try with_reducible rfl
   try simp only [Act.put, zq1, zq2, zq3, zq4, zq5, zq6]
   refine tkx (i := 2) (v := ?_) hS ?_ ?_
   rotate_left
   ·rintro w' ⟨s0', s1'⟩
    go_simp
    try with_reducible rfl
   try simp only [Act.put, zq1, zq2, zq3, zq4, zq5, zq6]
   refine tkx (i := 3) (v := ?_) hS ?_ ?_
   rotate_left
   ·rintro w' ⟨s0', s1'⟩
    go_simp
    try with_reducible rfl
   try simp only [Act.put, zq1, zq2, zq3, zq4, zq5, zq6]
   refine tkx (i := 4) (v := ?_) hS ?_ ?_
   rotate_left
   ·rintro w' ⟨s0', s1'⟩
    go_simp
    try with_reducible rfl
   try simp only [Act.put, zq1, zq2, zq3, zq4, zq5, zq6]
   refine tkx (i := 5) (v := ?_) hS ?_ ?_
   rotate_left
   ·rintro w' ⟨s0', s1'⟩
    go_simp
    try with_reducible rfl
   try simp only [Act.put, zq1, zq2, zq3, zq4, zq5, zq6]
   refine tkx (i := 6) (v := ?_) hS ?_ ?_
   rotate_left
   ·rintro w' ⟨s0', s1'⟩
    go_simp
    try with_reducible rfl
   try simp only [Act.put, zq1, zq2, zq3, zq4, zq5, zq6]
   refine tkx (i := 7) (v := ?_) hS ?_ ?_
   rotate_left
   ·rintro w' ⟨s0', s1'⟩
    go_simp
    try with_reducible rfl
   try simp only [Act.put, zq1, zq2, zq3, zq4, zq5, zq6]
   refine tkx (i := 8) (v := ?_) hS ?_ ?_
   rotate_left
   ·rintro w' ⟨s0', s1'⟩
    go_simp
    try with_reducible rfl
   try simp only [Act.put, zq1, zq2, zq3, zq4, zq5, zq6]
   refine tkx (i := 9) (v := ?_) hS ?_ ?_
   rotate_left
   ·rintro w' ⟨s0', s1'⟩
    go_simp
    try with_reducible rfl
   try simp only [Act.put, zq1, zq2, zq3, zq4, zq5, zq6]
   obtain ⟨-, hcu'⟩ := hS
   refine anyX_last (by kernel_rfl) (by kernel_rfl) rfl rfl ?_
   try simp only [zq1, zq2, zq3]
   go_simp
   try apply_assumption
   go_wp2_with fail
   obtain ⟨W, hW⟩ : ∃ W, V6.setCell ⟨g5, 0, none⟩ (.slice (some ⟨gr, 0, none⟩) 1 cr) = W := ⟨_, rfl⟩
   have has := aside_set (o := 0) HB5.out (.slice (some ⟨gr, 0, none⟩) 1 cr)
   replace HB : Hid (Below w.heap.size w W) := Lib.hid (by rw [<- hW]; exact HB.out.setCell (p := ⟨g5, 0, none⟩) hg5w _)
   have hpe := TS.out.fe.row.put_any (o := 0) HB5.out FR.out (by decide) (Nat.zero_le _)
   have q0 := TS.out.q (by omega)
   rw [hW] at has hpe ⊢
   have TQ : Hid (TabQ W (.slice (some ⟨g0, 0, none⟩) m c0) (.slice (some ⟨g1, 0, none⟩) m c1) (.slice (some ⟨g2, 0, none⟩) k c2) (.slice (some ⟨g3, 0, none⟩) k c3) (.slice (some ⟨g4, 0, none⟩) k c4) (.slice (some ⟨g5, 0, none⟩) k c5)) := Lib.hid ⟨q0.c.imp fun _ a => a.aside has (by decide), q0.l.imp fun _ a => ⟨a.1, a.2.aside has (by decide)⟩, q0.bn.imp fun _ a => a.aside has (by decide) (by decide), q0.bo.imp fun _ a => a.aside has (by decide), q0.fn.imp fun _ a => a.aside has (by decide) (by decide), ⟨_, hpe⟩⟩
   replace X := Lib.hid (has.box X.out (by decide))
   clear has hpe q0 hW TS HB5 FR hcu' hfu
   have hb : Below W.heap.size W W.drew := (Below.refl _ _).drew
   replace TQ := Lib.hid (TQ.out.below hb)
   replace X := Lib.hid (Blk.below X.out hb X.out.lt)
   replace HB := Lib.hid (HB.out.trans (hb.mono HB.out.size))
   clear hb
   refine region_x 5 (fun W : World => W.cell? ⟨bt, 0, none⟩ = some (.slice (some ⟨g0, 0, none⟩) m c0) /\ W.cell? ⟨bt, 1, none⟩ = some (.slice (some ⟨g1, 0, none⟩) m c1) /\ W.cell? ⟨bt, 2, none⟩ = some (.slice (some ⟨g2, 0, none⟩) k c2) /\ W.cell? ⟨bt, 3, none⟩ = some (.slice (some ⟨g3, 0, none⟩) k c3) /\ W.cell? ⟨bt, 4, none⟩ = some (.slice (some ⟨g4, 0, none⟩) k c4) /\ W.cell? ⟨bt, 5, none⟩ = some (.slice (some ⟨g5, 0, none⟩) k c5)) (by kernel_rfl) ?_
   generalize W.drew = V6 at *
   have hS : (fun W : World => W.cell? ⟨bt, 0, none⟩ = some (.slice (some ⟨g0, 0, none⟩) m c0) /\ W.cell? ⟨bt, 1, none⟩ = some (.slice (some ⟨g1, 0, none⟩) m c1) /\ W.cell? ⟨bt, 2, none⟩ = some (.slice (some ⟨g2, 0, none⟩) k c2) /\ W.cell? ⟨bt, 3, none⟩ = some (.slice (some ⟨g3, 0, none⟩) k c3) /\ W.cell? ⟨bt, 4, none⟩ = some (.slice (some ⟨g4, 0, none⟩) k c4) /\ W.cell? ⟨bt, 5, none⟩ = some (.slice (some ⟨g5, 0, none⟩) k c5)) V6 := ⟨X.out.cell 0, X.out.cell 1, X.out.cell 2, X.out.cell 3, X.out.cell 4, X.out.cell 5⟩
   obtain ⟨t, htr, htl⟩ := TQ.out.tab
   have HTR := Lib.hid htr; have HTL := Lib.hid htl
   clear htr htl TQ
   refine tkx (i := 0) (v := ?_) hS ?_ ?_
   rotate_left
   ·rintro w' ⟨s0', s1', s2', s3', s4', s5'⟩
    go_simp
    try with_reducible rfl
   try simp only [Act.put, zq1, zq2, zq3, zq4, zq5, zq6]
   refine tkx (i := 2) (v := ?_) hS ?_ ?_
   rotate_left
   ·rintro w' ⟨s0', s1', s2', s3', s4', s5'⟩
    go_simp
    try with_reducible rfl
   try simp only [Act.put, zq1, zq2, zq3, zq4, zq5, zq6]
   refine anyX_g (i := 1) (by kernel_rfl) (by decide) rfl (by rfl) ?_
   intro K hK
   try simp only [zq1, zq2, zq3]
   refine wp_enterE #[.agg #[.slice (some ⟨g0, 0, none⟩) m c0, .slice (some ⟨g1, 0, none⟩) m c1, .slice (some ⟨g2, 0, none⟩) k c2, .slice (some ⟨g3, 0, none⟩) k c3, .slice (some ⟨g4, 0, none⟩) k c4, .slice (some ⟨g5, 0, none⟩) k c5]] Try.func14 (by kernel_rfl) (by kernel_rfl) ?_ (tright_any HTR.out) ?_
   ·go_simp
   rintro e V7 ⟨b1, rfl, hb1, hb⟩
   replace HTR := Lib.hid (HTR.out.below hb)
   replace X := Lib.hid (Blk.below X.out hb X.out.lt)
   have H1 := Lib.hid hb1
   replace HB := Lib.hid (HB.out.trans (hb.mono HB.out.size))
   clear hb
   clear hb1 hS
   have hS : (fun W : World => W.cell? ⟨bt, 0, none⟩ = some (.slice (some ⟨g0, 0, none⟩) m c0) /\ W.cell? ⟨bt, 1, none⟩ = some (.slice (some ⟨g1, 0, none⟩) m c1) /\ W.cell? ⟨bt, 2, none⟩ = some (.slice (some ⟨g2, 0, none⟩) k c2) /\ W.cell? ⟨bt, 3, none⟩ = some (.slice (some ⟨g3, 0, none⟩) k c3) /\ W.cell? ⟨bt, 4, none⟩ = some (.slice (some ⟨g4, 0, none⟩) k c4) /\ W.cell? ⟨bt, 5, none⟩ = some (.slice (some ⟨g5, 0, none⟩) k c5)) V7 := ⟨X.out.cell 0, X.out.cell 1, X.out.cell 2, X.out.cell 3, X.out.cell 4, X.out.cell 5⟩
   refine ⟨_, rfl, ?_⟩
   refine hK _ _ hS ?_
   clear hK
   try simp only [Act.put, zq1, zq2, zq3, zq4, zq5, zq6]
   refine anyX_g (i := 3) (by kernel_rfl) (by decide) rfl (by rfl) ?_
   intro K hK
   try simp only [zq1, zq2, zq3]
   refine wp_enterE #[.agg #[.slice (some ⟨g0, 0, none⟩) m c0, .slice (some ⟨g1, 0, none⟩) m c1, .slice (some ⟨g2, 0, none⟩) k c2, .slice (some ⟨g3, 0, none⟩) k c3, .slice (some ⟨g4, 0, none⟩) k c4, .slice (some ⟨g5, 0, none⟩) k c5]] Try.func22 (by kernel_rfl) (by kernel_rfl) ?_ (rright_any HTR.out HTL.out) ?_
   ·go_simp
   intro e V8 hro
   unfold RrO at hro
   obtain ⟨b2, rfl, hb2, hb⟩ := hro
   replace X := Lib.hid (Blk.below X.out hb X.out.lt)
   have hbb : b2 = b1 := Bool.eq_iff_iff.2 (hb2.trans H1.out.symm)
   subst hbb
   replace HB := Lib.hid (HB.out.trans (hb.mono HB.out.size))
   clear hb
   clear hb2 hS
   have hS : (fun W : World => W.cell? ⟨bt, 0, none⟩ = some (.slice (some ⟨g0, 0, none⟩) m c0) /\ W.cell? ⟨bt, 1, none⟩ = some (.slice (some ⟨g1, 0, none⟩) m c1) /\ W.cell? ⟨bt, 2, none⟩ = some (.slice (some ⟨g2, 0, none⟩) k c2) /\ W.cell? ⟨bt, 3, none⟩ = some (.slice (some ⟨g3, 0, none⟩) k c3) /\ W.cell? ⟨bt, 4, none⟩ = some (.slice (some ⟨g4, 0, none⟩) k c4) /\ W.cell? ⟨bt, 5, none⟩ = some (.slice (some ⟨g5, 0, none⟩) k c5)) V8 := ⟨X.out.cell 0, X.out.cell 1, X.out.cell 2, X.out.cell 3, X.out.cell 4, X.out.cell 5⟩
   refine ⟨_, rfl, ?_⟩
   refine hK _ _ hS ?_
   clear hK
   try simp only [Act.put, zq1, zq2, zq3, zq4, zq5, zq6]
   have hxx : (b2 == b2) = true := by cases b2 <;> rfl
   refine tkx (i := 4) (v := ?_) hS ?_ ?_
   rotate_left
   ·rintro w' ⟨s0', s1', s2', s3', s4', s5'⟩
    go_simp
    try with_reducible rfl
   try simp only [Act.put, zq1, zq2, zq3, zq4, zq5, zq6]
   clear hS
   refine anyX_last (by kernel_rfl) (by kernel_rfl) rfl rfl ?_
   try simp only [zq1, zq2, zq3]
   go_simp
   try apply_assumption
   go_wp2_with fail
   go_ret
   exact ⟨by cases b2 <;> rfl, HB.out⟩
  ·have hb : Below V5.heap.size V5 (V5.alloc (.cells #[.int .i64 0] 3)) := (Below.refl _ _).alloc (Nat.le_refl _) _
   have HL := Lib.hid (TS.out.l.below hb)
   have HC : Hid ((V5.alloc (.cells #[.int .i64 0] 3)).heap[V5.heap.size]? = some (.cells #[.int .i64 0] 3 (0, 0))) := Lib.hid (Blk.new V5 _ _)
   have HBA : Hid (B <= (V5.alloc (.cells #[.int .i64 0] 3)).heap.size) := Lib.hid (Nat.le_trans HBS.out hb.size)
   have XA := Lib.hid (Blk.below X.out hb X.out.lt)
   have TQA := Lib.hid ((TS.out.q (by omega)).below hb)
   have HBB := Lib.hid hb
   clear hb TS
   go_wp2_with (at_builtin; refine wpList_pushI rfl (.tmp 165) (.tmp 166) rfl B (.slice (some ⟨g1, 0, none⟩) m c1) m (by rfl) HL.out hm1 (by omega) V5.heap.size 0 (by rfl) HC.out HBA.out ?_; intro g9 cap9 W9 hown hchg hbl; have HOWN := Lib.hid hown; have X9 := Lib.hid (chg_box hchg XA.out (by decide)); have TQ9 := Lib.hid (chg_tab hchg TQA.out); have HBL := Lib.hid hbl; clear hown hchg hbl HL HC XA TQA; have k1' := X9.out.cell 1; have f1' := X9.out.frozen 1; simp only [List.getElem?_toArray, List.getElem?_cons_zero, List.getElem?_cons_succ] at k1')
   have hbt : w.heap.size <= bt := by have := HBT.out; have := HB0.out.size; omega
   have q1 : TabQ W9 (.slice (some ⟨g0, 0, none⟩) m c0) (.slice (some ⟨g9, 0, none⟩) (m + 1) cap9) (.slice (some ⟨g2, 0, none⟩) k c2) (.slice (some ⟨g3, 0, none⟩) k c3) (.slice (some ⟨g4, 0, none⟩) k c4) (.slice (some ⟨g5, 0, none⟩) k c5) := ⟨TQ9.out.c, ⟨_, by omega, HOWN.out.flat⟩, TQ9.out.bn, TQ9.out.bo, TQ9.out.fn, TQ9.out.fe⟩
   obtain ⟨W, hW⟩ : ∃ W, W9.setCell ⟨bt, 1, none⟩ (.slice (some ⟨g9, 0, none⟩) (m + 1) cap9) = W := ⟨_, rfl⟩
   have TQ : Hid (TabQ W (.slice (some ⟨g0, 0, none⟩) m c0) (.slice (some ⟨g9, 0, none⟩) (m + 1) cap9) (.slice (some ⟨g2, 0, none⟩) k c2) (.slice (some ⟨g3, 0, none⟩) k c3) (.slice (some ⟨g4, 0, none⟩) k c4) (.slice (some ⟨g5, 0, none⟩) k c5)) := Lib.hid (by rw [<- hW]; exact q1.box X9.out)
   replace X : Hid (Blk W bt 31 #[.slice (some ⟨g0, 0, none⟩) m c0, .slice (some ⟨g9, 0, none⟩) (m + 1) cap9, .slice (some ⟨g2, 0, none⟩) k c2, .slice (some ⟨g3, 0, none⟩) k c3, .slice (some ⟨g4, 0, none⟩) k c4, .slice (some ⟨g5, 0, none⟩) k c5]) := Lib.hid (by rw [<- hW]; simpa using X9.out.set_ 1 (.slice (some ⟨g9, 0, none⟩) (m + 1) cap9))
   have hb9 : Below w.heap.size w W9 := (HB.out.trans (HBB.out.mono HB.out.size)).trans (HBL.out.mono HWB.out)
   replace HB : Hid (Below w.heap.size w W) := Lib.hid (by rw [<- hW]; exact hb9.setCell (p := ⟨bt, 1, none⟩) hbt _)
   rw [hW]
   clear hW q1 hb9 hbt X9 TQ9 HBL HBB HOWN k1' f1'
   clear k0 k1 k2 k3 k4 k5
   have hb : Below W.heap.size W W.drew := (Below.refl _ _).drew
   replace TQ := Lib.hid (TQ.out.below hb)
   replace X := Lib.hid (Blk.below X.out hb X.out.lt)
   replace HB := Lib.hid (HB.out.trans (hb.mono HB.out.size))
   clear hb
   refine region_x 5 (fun W : World => W.cell? ⟨bt, 0, none⟩ = some (.slice (some ⟨g0, 0, none⟩) m c0) /\ W.cell? ⟨bt, 1, none⟩ = some (.slice (some ⟨g9, 0, none⟩) (m + 1) cap9) /\ W.cell? ⟨bt, 2, none⟩ = some (.slice (some ⟨g2, 0, none⟩) k c2) /\ W.cell? ⟨bt, 3, none⟩ = some (.slice (some ⟨g3, 0, none⟩) k c3) /\ W.cell? ⟨bt, 4, none⟩ = some (.slice (some ⟨g4, 0, none⟩) k c4) /\ W.cell? ⟨bt, 5, none⟩ = some (.slice (some ⟨g5, 0, none⟩) k c5)) (by kernel_rfl) ?_
   generalize W.drew = V6 at *
   have hS : (fun W : World => W.cell? ⟨bt, 0, none⟩ = some (.slice (some ⟨g0, 0, none⟩) m c0) /\ W.cell? ⟨bt, 1, none⟩ = some (.slice (some ⟨g9, 0, none⟩) (m + 1) cap9) /\ W.cell? ⟨bt, 2, none⟩ = some (.slice (some ⟨g2, 0, none⟩) k c2) /\ W.cell? ⟨bt, 3, none⟩ = some (.slice (some ⟨g3, 0, none⟩) k c3) /\ W.cell? ⟨bt, 4, none⟩ = some (.slice (some ⟨g4, 0, none⟩) k c4) /\ W.cell? ⟨bt, 5, none⟩ = some (.slice (some ⟨g5, 0, none⟩) k c5)) V6 := ⟨X.out.cell 0, X.out.cell 1, X.out.cell 2, X.out.cell 3, X.out.cell 4, X.out.cell 5⟩
   obtain ⟨t, htr, htl⟩ := TQ.out.tab
   have HTR := Lib.hid htr; have HTL := Lib.hid htl
   clear htr htl TQ
   refine tkx (i := 0) (v := ?_) hS ?_ ?_
   rotate_left
   ·rintro w' ⟨s0', s1', s2', s3', s4', s5'⟩
    go_simp
    try with_reducible rfl
   try simp only [Act.put, zq1, zq2, zq3, zq4, zq5, zq6]
   refine tkx (i := 2) (v := ?_) hS ?_ ?_
   rotate_left
   ·rintro w' ⟨s0', s1', s2', s3', s4', s5'⟩
    go_simp
    try with_reducible rfl
   try simp only [Act.put, zq1, zq2, zq3, zq4, zq5, zq6]
   refine anyX_g (i := 1) (by kernel_rfl) (by decide) rfl (by rfl) ?_
   intro K hK
   try simp only [zq1, zq2, zq3]
   refine wp_enterE #[.agg #[.slice (some ⟨g0, 0, none⟩) m c0, .slice (some ⟨g9, 0, none⟩) (m + 1) cap9, .slice (some ⟨g2, 0, none⟩) k c2, .slice (some ⟨g3, 0, none⟩) k c3, .slice (some ⟨g4, 0, none⟩) k c4, .slice (some ⟨g5, 0, none⟩) k c5]] Try.func14 (by kernel_rfl) (by kernel_rfl) ?_ (tright_any HTR.out) ?_
   ·go_simp
   rintro e V7 ⟨b1, rfl, hb1, hb⟩
   replace HTR := Lib.hid (HTR.out.below hb)
   replace X := Lib.hid (Blk.below X.out hb X.out.lt)
   have H1 := Lib.hid hb1
   replace HB := Lib.hid (HB.out.trans (hb.mono HB.out.size))
   clear hb
   clear hb1 hS
   have hS : (fun W : World => W.cell? ⟨bt, 0, none⟩ = some (.slice (some ⟨g0, 0, none⟩) m c0) /\ W.cell? ⟨bt, 1, none⟩ = some (.slice (some ⟨g9, 0, none⟩) (m + 1) cap9) /\ W.cell? ⟨bt, 2, none⟩ = some (.slice (some ⟨g2, 0, none⟩) k c2) /\ W.cell? ⟨bt, 3, none⟩ = some (.slice (some ⟨g3, 0, none⟩) k c3) /\ W.cell? ⟨bt, 4, none⟩ = some (.slice (some ⟨g4, 0, none⟩) k c4) /\ W.cell? ⟨bt, 5, none⟩ = some (.slice (some ⟨g5, 0, none⟩) k c5)) V7 := ⟨X.out.cell 0, X.out.cell 1, X.out.cell 2, X.out.cell 3, X.out.cell 4, X.out.cell 5⟩
   refine ⟨_, rfl, ?_⟩
   refine hK _ _ hS ?_
   clear hK
   try simp only [Act.put, zq1, zq2, zq3, zq4, zq5, zq6]
   refine anyX_g (i := 3) (by kernel_rfl) (by decide) rfl (by rfl) ?_
   intro K hK
   try simp only [zq1, zq2, zq3]
   refine wp_enterE #[.agg #[.slice (some ⟨g0, 0, none⟩) m c0, .slice (some ⟨g9, 0, none⟩) (m + 1) cap9, .slice (some ⟨g2, 0, none⟩) k c2, .slice (some ⟨g3, 0, none⟩) k c3, .slice (some ⟨g4, 0, none⟩) k c4, .slice (some ⟨g5, 0, none⟩) k c5]] Try.func22 (by kernel_rfl) (by kernel_rfl) ?_ (rright_any HTR.out HTL.out) ?_
   ·go_simp
   intro e V8 hro
   unfold RrO at hro
   obtain ⟨b2, rfl, hb2, hb⟩ := hro
   replace X := Lib.hid (Blk.below X.out hb X.out.lt)
   have hbb : b2 = b1 := Bool.eq_iff_iff.2 (hb2.trans H1.out.symm)
   subst hbb
   replace HB := Lib.hid (HB.out.trans (hb.mono HB.out.size))
   clear hb
   clear hb2 hS
   have hS : (fun W : World => W.cell? ⟨bt, 0, none⟩ = some (.slice (some ⟨g0, 0, none⟩) m c0) /\ W.cell? ⟨bt, 1, none⟩ = some (.slice (some ⟨g9, 0, none⟩) (m + 1) cap9) /\ W.cell? ⟨bt, 2, none⟩ = some (.slice (some ⟨g2, 0, none⟩) k c2) /\ W.cell? ⟨bt, 3, none⟩ = some (.slice (some ⟨g3, 0, none⟩) k c3) /\ W.cell? ⟨bt, 4, none⟩ = some (.slice (some ⟨g4, 0, none⟩) k c4) /\ W.cell? ⟨bt, 5, none⟩ = some (.slice (some ⟨g5, 0, none⟩) k c5)) V8 := ⟨X.out.cell 0, X.out.cell 1, X.out.cell 2, X.out.cell 3, X.out.cell 4, X.out.cell 5⟩
   refine ⟨_, rfl, ?_⟩
   refine hK _ _ hS ?_
   clear hK
   try simp only [Act.put, zq1, zq2, zq3, zq4, zq5, zq6]
   have hxx : (b2 == b2) = true := by cases b2 <;> rfl
   refine tkx (i := 4) (v := ?_) hS ?_ ?_
   rotate_left
   ·rintro w' ⟨s0', s1', s2', s3', s4', s5'⟩
    go_simp
    try with_reducible rfl
   try simp only [Act.put, zq1, zq2, zq3, zq4, zq5, zq6]
   clear hS
   refine anyX_last (by kernel_rfl) (by kernel_rfl) rfl rfl ?_
   try simp only [zq1, zq2, zq3]
   go_simp
   try apply_assumption
   go_wp2_with fail
   go_ret
   exact ⟨by cases b2 <;> rfl, HB.out⟩
  ·go_wp2_with fail
   have hb : Below V5.heap.size V5 V5.drew := (Below.refl _ _).drew
   replace TS := Lib.hid (TS.out.below hb)
   replace X := Lib.hid (Blk.below X.out hb X.out.lt)
   replace HBS := Lib.hid (Nat.le_trans HBS.out hb.size)
   replace HB := Lib.hid (HB.out.trans (hb.mono HB.out.size))
   clear hb
   clear k0 k1 k2 k3 k4 k5
   obtain ⟨V6, hV6⟩ : ∃ W, V5.drew = W := ⟨_, rfl⟩
   rw [hV6] at TS X HBS HB
   have n1 : IntKind.i64.wrap ((m : Int) - 1) = (m : Int) - 1 := IntWalk.i64_in _ (by omega)
   have n2 : (1 : Int) <= (m : Int) := by omega
   have n3 : (0 : Int) <= (m : Int) - 1 := by omega
   have n4 : (m : Int) - 1 < (m : Int) := by omega
   have n5 : ((m : Int) - 1).toNat = m - 1 := by omega
   have HG0 : Hid (g0 < V6.heap.size) := Lib.hid (by obtain ⟨ga, ca, xa, ea, -, -, -, hlt, -⟩ := TS.out.c.at_ (o := 0) (by omega); simp only [Value.slice.injEq, Option.some.injEq, Addr.mk.injEq, and_true, true_and] at ea; obtain ⟨rfl, rfl⟩ := ea; exact hlt)
   have HOC := Lib.hid TS.out.c; have HOL := Lib.hid TS.out.l; have TQ := Lib.hid (TS.out.q (by omega))
   refine region_y 18 (fun W : World => W.cell? ⟨bt, 0, none⟩ = some (.slice (some ⟨g0, 0, none⟩) m c0) /\ W.cell? ⟨bt, 1, none⟩ = some (.slice (some ⟨g1, 0, none⟩) m c1)) (by kernel_rfl) ?_
   rw [hV6]
   clear hV6
   have hS : (fun W : World => W.cell? ⟨bt, 0, none⟩ = some (.slice (some ⟨g0, 0, none⟩) m c0) /\ W.cell? ⟨bt, 1, none⟩ = some (.slice (some ⟨g1, 0, none⟩) m c1)) V6 := ⟨(by have h := X.out.cell 0; simpa using h), (by have h := X.out.cell 1; simpa using h)⟩
   refine tky (i := 0) (v := ?_) hS ?_ ?_
   rotate_left
   ·rintro w' ⟨s0', s1'⟩
    go_simp
    try with_reducible rfl
   try simp only [Act.put, zq1, zq2, zq3, zq4, zq5, zq6]
   refine tky (i := 1) (v := ?_) hS ?_ ?_
   rotate_left
   ·rintro w' ⟨s0', s1'⟩
    go_simp
    try with_reducible rfl
   try simp only [Act.put, zq1, zq2, zq3, zq4, zq5, zq6]
   refine tky (i := 2) (v := ?_) hS ?_ ?_
   rotate_left
   ·rintro w' ⟨s0', s1'⟩
    go_simp
    try with_reducible rfl
   try simp only [Act.put, zq1, zq2, zq3, zq4, zq5, zq6]
   refine tky (i := 3) (v := ?_) hS ?_ ?_
   rotate_left
   ·rintro w' ⟨s0', s1'⟩
    go_simp
    try with_reducible rfl
   try simp only [Act.put, zq1, zq2, zq3, zq4, zq5, zq6]
   refine tky (i := 4) (v := ?_) hS ?_ ?_
   rotate_left
   ·rintro w' ⟨s0', s1'⟩
    go_simp
    try with_reducible rfl
   try simp only [Act.put, zq1, zq2, zq3, zq4, zq5, zq6]
   refine tky (i := 5) (v := ?_) hS ?_ ?_
   rotate_left
   ·rintro w' ⟨s0', s1'⟩
    go_simp
    try with_reducible rfl
   try simp only [Act.put, zq1, zq2, zq3, zq4, zq5, zq6]
   refine tky (i := 6) (v := ?_) hS ?_ ?_
   rotate_left
   ·rintro w' ⟨s0', s1'⟩
    go_simp
    try with_reducible rfl
   try simp only [Act.put, zq1, zq2, zq3, zq4, zq5, zq6]
   refine tky (i := 7) (v := ?_) hS ?_ ?_
   rotate_left
   ·rintro w' ⟨s0', s1'⟩
    go_simp
    try with_reducible rfl
   try simp only [Act.put, zq1, zq2, zq3, zq4, zq5, zq6]
   refine tky (i := 8) (v := ?_) hS ?_ ?_
   rotate_left
   ·rintro w' ⟨s0', s1'⟩
    go_simp
    try with_reducible rfl
   try simp only [Act.put, zq1, zq2, zq3, zq4, zq5, zq6]
   refine tky (i := 13) (v := ?_) hS ?_ ?_
   rotate_left
   ·rintro w' ⟨s0', s1'⟩
    go_simp
    try with_reducible rfl
   try simp only [Act.put, zq1, zq2, zq3, zq4, zq5, zq6]
   refine tky (i := 14) (v := ?_) hS ?_ ?_
   rotate_left
   ·rintro w' ⟨s0', s1'⟩
    go_simp
    try with_reducible rfl
   try simp only [Act.put, zq1, zq2, zq3, zq4, zq5, zq6]
   refine anyY_2 (i := 9) (j := 15) (by kernel_rfl) rfl rfl rfl rfl ?_ ?_
   ·intro K hK
    try simp only [zq1, zq2, zq3]
    obtain ⟨ga, ca, x, ea, -, -, -, -, hcx, -, -⟩ := HOC.out.at_ (o := m - 1) (by omega)
    simp only [Value.slice.injEq, Option.some.injEq, Addr.mk.injEq, and_true, true_and] at ea
    obtain ⟨rfl, rfl⟩ := ea
    go_simp
    clear hcx
    refine hK _ _ hS ?_
    clear hK
    try simp only [Act.put, zq1, zq2, zq3, zq4, zq5, zq6]
    refine tky0 (i := 10) (v := ?_) hS ?_ ?_
    rotate_left
    ·rintro w' -
     go_simp
     try with_reducible rfl
    try simp only [Act.put, zq1, zq2, zq3, zq4, zq5, zq6]
    refine anyY_2 (i := 11) (j := 15) (by kernel_rfl) rfl rfl rfl rfl ?_ ?_
    ·intro K hK
     try simp only [zq1, zq2, zq3]
     go_simp
     obtain ⟨V7, eV⟩ : ∃ W', V6.alloc (.cells #[.int .i64 (IntKind.i64.wrap (x + 1))] 3) = W' := ⟨_, rfl⟩
     have hb : Below V6.heap.size V6 V7 := by rw [<- eV]; exact (Below.refl _ _).alloc (Nat.le_refl _) _
     obtain ⟨p1, hp⟩ : ∃ p, V6.heap.size = p := ⟨_, rfl⟩
     have HC1 : Hid (Blk V7 p1 3 #[.int .i64 (IntKind.i64.wrap (x + 1))]) := Lib.hid (by rw [<- eV]; exact Blk.newAt _ hp _ _)
     have HPG1 : Hid (g0 < p1) := Lib.hid (by rw [<- hp]; exact HG0.out)
     rw [eV, hp]
     clear eV hp
     replace HOC := Lib.hid (HOC.out.below hb)
     replace HOL := Lib.hid (HOL.out.below hb)
     replace TQ := Lib.hid (TQ.out.below hb)
     replace X := Lib.hid (Blk.below X.out hb X.out.lt)
     replace HBS := Lib.hid (Nat.le_trans HBS.out hb.size)
     replace HG0 := Lib.hid (Nat.lt_of_lt_of_le HG0.out hb.size)
     replace HB := Lib.hid (HB.out.trans (hb.mono HB.out.size))
     clear hb
     clear hS
     have hS : (fun W : World => W.cell? ⟨bt, 0, none⟩ = some (.slice (some ⟨g0, 0, none⟩) m c0) /\ W.cell? ⟨bt, 1, none⟩ = some (.slice (some ⟨g1, 0, none⟩) m c1)) V7 := ⟨(by have h := X.out.cell 0; simpa using h), (by have h := X.out.cell 1; simpa using h)⟩
     refine hK _ _ hS ?_
     clear hK
     try simp only [Act.put, zq1, zq2, zq3, zq4, zq5, zq6]
     refine anyY_2 (i := 12) (j := 15) (by kernel_rfl) rfl rfl rfl rfl ?_ ?_
     ·intro K hK
      try simp only [zq1, zq2, zq3]
      refine wp_pushI2 (.tmp 172) (.tmp 182) rfl B (.slice (some ⟨g0, 0, none⟩) m c0) m (by rfl) HOC.out hm1 (by omega) p1 (IntKind.i64.wrap (x + 1)) (by rfl) HC1.out HBS.out ?_
      intro gc' cc' V8 hown hchg hbl hg
      replace HOL := Lib.hid (chg_own hchg HOL.out)
      replace HOC := Lib.hid hown
      replace TQ := Lib.hid (chg_tab hchg TQ.out)
      replace X := Lib.hid (chg_box hchg X.out (by decide))
      replace HB := Lib.hid (HB.out.trans (hbl.mono HWB.out))
      replace HBS := Lib.hid (Nat.le_trans HBS.out hg.size)
      replace HG0 := Lib.hid (Nat.lt_of_lt_of_le HG0.out hg.size)
      clear hown hchg hbl hg HC1 HPG1
      clear hS
      have hS : (fun W : World => W.cell? ⟨bt, 0, none⟩ = some (.slice (some ⟨g0, 0, none⟩) m c0) /\ W.cell? ⟨bt, 1, none⟩ = some (.slice (some ⟨g1, 0, none⟩) m c1)) V8 := ⟨(by have h := X.out.cell 0; simpa using h), (by have h := X.out.cell 1; simpa using h)⟩
      refine hK _ _ hS ?_
      clear hK
      try simp only [Act.put, zq1, zq2, zq3, zq4, zq5, zq6]
      refine tky (i := 17) (v := ?_) hS ?_ ?_
      rotate_left
      ·rintro w' ⟨s0', s1'⟩
       go_simp
       try with_reducible rfl
      try simp only [Act.put, zq1, zq2, zq3, zq4, zq5, zq6]
      refine anyY_g (i := 15) (by kernel_rfl) rfl rfl ?_
      intro K hK
      try simp only [zq1, zq2, zq3]
      go_simp
      obtain ⟨V9, eV⟩ : ∃ W', V8.alloc (.cells #[.int .i64 0] 3) = W' := ⟨_, rfl⟩
      have hb : Below V8.heap.size V8 V9 := by rw [<- eV]; exact (Below.refl _ _).alloc (Nat.le_refl _) _
      obtain ⟨p2, hp⟩ : ∃ p, V8.heap.size = p := ⟨_, rfl⟩
      have HC2 : Hid (Blk V9 p2 3 #[.int .i64 0]) := Lib.hid (by rw [<- eV]; exact Blk.newAt _ hp _ _)
      have HPG2 : Hid (g0 < p2) := Lib.hid (by rw [<- hp]; exact HG0.out)
      rw [eV, hp]
      clear eV hp
      replace HOC := Lib.hid (HOC.out.below hb)
      replace HOL := Lib.hid (HOL.out.below hb)
      replace TQ := Lib.hid (TQ.out.below hb)
      replace X := Lib.hid (Blk.below X.out hb X.out.lt)
      replace HBS := Lib.hid (Nat.le_trans HBS.out hb.size)
      replace HG0 := Lib.hid (Nat.lt_of_lt_of_le HG0.out hb.size)
      replace HB := Lib.hid (HB.out.trans (hb.mono HB.out.size))
      clear hb
      clear hS
      have hS : (fun W : World => W.cell? ⟨bt, 0, none⟩ = some (.slice (some ⟨g0, 0, none⟩) m c0) /\ W.cell? ⟨bt, 1, none⟩ = some (.slice (some ⟨g1, 0, none⟩) m c1)) V9 := ⟨(by have h := X.out.cell 0; simpa using h), (by have h := X.out.cell 1; simpa using h)⟩
      refine hK _ _ hS ?_
      clear hK
      try simp only [Act.put, zq1, zq2, zq3, zq4, zq5, zq6]
      refine anyY_g (i := 16) (by kernel_rfl) rfl rfl ?_
      intro K hK
      try simp only [zq1, zq2, zq3]
      refine wp_pushI2 (.tmp 185) (.tmp 186) rfl B (.slice (some ⟨g1, 0, none⟩) m c1) m (by rfl) HOL.out hm1 (by omega) p2 0 (by rfl) HC2.out HBS.out ?_
      intro gl' cl' V10 hown hchg hbl hg
      replace HOC := Lib.hid (chg_own hchg HOC.out)
      replace HOL := Lib.hid hown
      replace TQ := Lib.hid (chg_tab hchg TQ.out)
      replace X := Lib.hid (chg_box hchg X.out (by decide))
      replace HB := Lib.hid (HB.out.trans (hbl.mono HWB.out))
      replace HBS := Lib.hid (Nat.le_trans HBS.out hg.size)
      replace HG0 := Lib.hid (Nat.lt_of_lt_of_le HG0.out hg.size)
      clear hown hchg hbl hg HC2 HPG2
      clear hS
      have hS : (fun W : World => W.cell? ⟨bt, 0, none⟩ = some (.slice (some ⟨g0, 0, none⟩) m c0) /\ W.cell? ⟨bt, 1, none⟩ = some (.slice (some ⟨g1, 0, none⟩) m c1)) V10 := ⟨(by have h := X.out.cell 0; simpa using h), (by have h := X.out.cell 1; simpa using h)⟩
      refine hK _ _ hS ?_
      clear hK
      try simp only [Act.put, zq1, zq2, zq3, zq4, zq5, zq6]
      have hbt : w.heap.size <= bt := by have := HBT.out; have := HB0.out.size; omega
      have q1 : TabQ V10 (.slice (some ⟨gc', 0, none⟩) (m + 1) cc') (.slice (some ⟨gl', 0, none⟩) (m + 1) cl') (.slice (some ⟨g2, 0, none⟩) k c2) (.slice (some ⟨g3, 0, none⟩) k c3) (.slice (some ⟨g4, 0, none⟩) k c4) (.slice (some ⟨g5, 0, none⟩) k c5) := ⟨⟨_, HOC.out.flat⟩, ⟨_, by omega, HOL.out.flat⟩, TQ.out.bn, TQ.out.bo, TQ.out.fn, TQ.out.fe⟩
      have x1 : Blk (V10.setCell ⟨bt, 0, none⟩ (.slice (some ⟨gc', 0, none⟩) (m + 1) cc')) bt 31 #[.slice (some ⟨gc', 0, none⟩) (m + 1) cc', .slice (some ⟨g1, 0, none⟩) m c1, .slice (some ⟨g2, 0, none⟩) k c2, .slice (some ⟨g3, 0, none⟩) k c3, .slice (some ⟨g4, 0, none⟩) k c4, .slice (some ⟨g5, 0, none⟩) k c5] := by simpa using X.out.set_ 0 (.slice (some ⟨gc', 0, none⟩) (m + 1) cc')
      obtain ⟨W, hW⟩ : ∃ W, (V10.setCell ⟨bt, 0, none⟩ (.slice (some ⟨gc', 0, none⟩) (m + 1) cc')).setCell ⟨bt, 1, none⟩ (.slice (some ⟨gl', 0, none⟩) (m + 1) cl') = W := ⟨_, rfl⟩
      replace TQ : Hid (TabQ W (.slice (some ⟨gc', 0, none⟩) (m + 1) cc') (.slice (some ⟨gl', 0, none⟩) (m + 1) cl') (.slice (some ⟨g2, 0, none⟩) k c2) (.slice (some ⟨g3, 0, none⟩) k c3) (.slice (some ⟨g4, 0, none⟩) k c4) (.slice (some ⟨g5, 0, none⟩) k c5)) := Lib.hid (by rw [<- hW]; exact (q1.box X.out).box x1)
      have k0 := X.out.cell 0; have k1 := X.out.cell 1; have f0 := X.out.frozen 0; have f1 := X.out.frozen 1
      simp only [List.getElem?_toArray, List.getElem?_cons_zero, List.getElem?_cons_succ] at k0 k1
      replace X : Hid (Blk W bt 31 #[.slice (some ⟨gc', 0, none⟩) (m + 1) cc', .slice (some ⟨gl', 0, none⟩) (m + 1) cl', .slice (some ⟨g2, 0, none⟩) k c2, .slice (some ⟨g3, 0, none⟩) k c3, .slice (some ⟨g4, 0, none⟩) k c4, .slice (some ⟨g5, 0, none⟩) k c5]) := Lib.hid (by rw [<- hW]; simpa using x1.set_ 1 (.slice (some ⟨gl', 0, none⟩) (m + 1) cl'))
      replace HB : Hid (Below w.heap.size w W) := Lib.hid (by rw [<- hW]; exact (HB.out.setCell (p := ⟨bt, 0, none⟩) hbt _).setCell (p := ⟨bt, 1, none⟩) hbt _)
      have HWW := Lib.hid hW
      clear hW q1 x1 hbt hS HOC HOL HBS HG0 TS
      refine anyY_h (i := 18) (by kernel_rfl) (by kernel_rfl) rfl rfl ?_
      intro K hK
      try simp only [zq1, zq2, zq3]
      go_simp
      refine hK _ _ ?_
      clear hK
      try simp only [Act.put, zq1, zq2, zq3, zq4, zq5, zq6]
      refine anyY_h (i := 19) (by kernel_rfl) (by kernel_rfl) rfl rfl ?_
      intro K hK
      try simp only [zq1, zq2, zq3]
      go_simp
      refine hK _ _ ?_
      clear hK
      try simp only [Act.put, zq1, zq2, zq3, zq4, zq5, zq6]
      refine anyY_last (i := 20) (by kernel_rfl) (by kernel_rfl) (by kernel_rfl) rfl rfl ?_
      try simp only [zq1, zq2, zq3]
      go_simp
      try apply_assumption
      clear k0 k1 f0 f1
      go_wp2_with fail
      rw [HWW.out]
      clear HWW
      have hb : Below W.heap.size W W.drew := (Below.refl _ _).drew
      replace TQ := Lib.hid (TQ.out.below hb)
      replace X := Lib.hid (Blk.below X.out hb X.out.lt)
      replace HB := Lib.hid (HB.out.trans (hb.mono HB.out.size))
      clear hb
      refine region_x 5 (fun W : World => W.cell? ⟨bt, 0, none⟩ = some (.slice (some ⟨gc', 0, none⟩) (m + 1) cc') /\ W.cell? ⟨bt, 1, none⟩ = some (.slice (some ⟨gl', 0, none⟩) (m + 1) cl') /\ W.cell? ⟨bt, 2, none⟩ = some (.slice (some ⟨g2, 0, none⟩) k c2) /\ W.cell? ⟨bt, 3, none⟩ = some (.slice (some ⟨g3, 0, none⟩) k c3) /\ W.cell? ⟨bt, 4, none⟩ = some (.slice (some ⟨g4, 0, none⟩) k c4) /\ W.cell? ⟨bt, 5, none⟩ = some (.slice (some ⟨g5, 0, none⟩) k c5)) (by kernel_rfl) ?_
      generalize W.drew = V6 at *
      have hS : (fun W : World => W.cell? ⟨bt, 0, none⟩ = some (.slice (some ⟨gc', 0, none⟩) (m + 1) cc') /\ W.cell? ⟨bt, 1, none⟩ = some (.slice (some ⟨gl', 0, none⟩) (m + 1) cl') /\ W.cell? ⟨bt, 2, none⟩ = some (.slice (some ⟨g2, 0, none⟩) k c2) /\ W.cell? ⟨bt, 3, none⟩ = some (.slice (some ⟨g3, 0, none⟩) k c3) /\ W.cell? ⟨bt, 4, none⟩ = some (.slice (some ⟨g4, 0, none⟩) k c4) /\ W.cell? ⟨bt, 5, none⟩ = some (.slice (some ⟨g5, 0, none⟩) k c5)) V6 := ⟨X.out.cell 0, X.out.cell 1, X.out.cell 2, X.out.cell 3, X.out.cell 4, X.out.cell 5⟩
      obtain ⟨t, htr, htl⟩ := TQ.out.tab
      have HTR := Lib.hid htr; have HTL := Lib.hid htl
      clear htr htl TQ
      refine tkx (i := 0) (v := ?_) hS ?_ ?_
      rotate_left
      ·rintro w' ⟨s0', s1', s2', s3', s4', s5'⟩
       go_simp
       try with_reducible rfl
      try simp only [Act.put, zq1, zq2, zq3, zq4, zq5, zq6]
      refine tkx (i := 2) (v := ?_) hS ?_ ?_
      rotate_left
      ·rintro w' ⟨s0', s1', s2', s3', s4', s5'⟩
       go_simp
       try with_reducible rfl
      try simp only [Act.put, zq1, zq2, zq3, zq4, zq5, zq6]
      refine anyX_g (i := 1) (by kernel_rfl) (by decide) rfl (by rfl) ?_
      intro K hK
      try simp only [zq1, zq2, zq3]
      refine wp_enterE #[.agg #[.slice (some ⟨gc', 0, none⟩) (m + 1) cc', .slice (some ⟨gl', 0, none⟩) (m + 1) cl', .slice (some ⟨g2, 0, none⟩) k c2, .slice (some ⟨g3, 0, none⟩) k c3, .slice (some ⟨g4, 0, none⟩) k c4, .slice (some ⟨g5, 0, none⟩) k c5]] Try.func14 (by kernel_rfl) (by kernel_rfl) ?_ (tright_any HTR.out) ?_
      ·go_simp
      rintro e V7 ⟨b1, rfl, hb1, hb⟩
      replace HTR := Lib.hid (HTR.out.below hb)
      replace X := Lib.hid (Blk.below X.out hb X.out.lt)
      have H1 := Lib.hid hb1
      replace HB := Lib.hid (HB.out.trans (hb.mono HB.out.size))
      clear hb
      clear hb1 hS
      have hS : (fun W : World => W.cell? ⟨bt, 0, none⟩ = some (.slice (some ⟨gc', 0, none⟩) (m + 1) cc') /\ W.cell? ⟨bt, 1, none⟩ = some (.slice (some ⟨gl', 0, none⟩) (m + 1) cl') /\ W.cell? ⟨bt, 2, none⟩ = some (.slice (some ⟨g2, 0, none⟩) k c2) /\ W.cell? ⟨bt, 3, none⟩ = some (.slice (some ⟨g3, 0, none⟩) k c3) /\ W.cell? ⟨bt, 4, none⟩ = some (.slice (some ⟨g4, 0, none⟩) k c4) /\ W.cell? ⟨bt, 5, none⟩ = some (.slice (some ⟨g5, 0, none⟩) k c5)) V7 := ⟨X.out.cell 0, X.out.cell 1, X.out.cell 2, X.out.cell 3, X.out.cell 4, X.out.cell 5⟩
      refine ⟨_, rfl, ?_⟩
      refine hK _ _ hS ?_
      clear hK
      try simp only [Act.put, zq1, zq2, zq3, zq4, zq5, zq6]
      refine anyX_g (i := 3) (by kernel_rfl) (by decide) rfl (by rfl) ?_
      intro K hK
      try simp only [zq1, zq2, zq3]
      refine wp_enterE #[.agg #[.slice (some ⟨gc', 0, none⟩) (m + 1) cc', .slice (some ⟨gl', 0, none⟩) (m + 1) cl', .slice (some ⟨g2, 0, none⟩) k c2, .slice (some ⟨g3, 0, none⟩) k c3, .slice (some ⟨g4, 0, none⟩) k c4, .slice (some ⟨g5, 0, none⟩) k c5]] Try.func22 (by kernel_rfl) (by kernel_rfl) ?_ (rright_any HTR.out HTL.out) ?_
      ·go_simp
      intro e V8 hro
      unfold RrO at hro
      obtain ⟨b2, rfl, hb2, hb⟩ := hro
      replace X := Lib.hid (Blk.below X.out hb X.out.lt)
      have hbb : b2 = b1 := Bool.eq_iff_iff.2 (hb2.trans H1.out.symm)
      subst hbb
      replace HB := Lib.hid (HB.out.trans (hb.mono HB.out.size))
      clear hb
      clear hb2 hS
      have hS : (fun W : World => W.cell? ⟨bt, 0, none⟩ = some (.slice (some ⟨gc', 0, none⟩) (m + 1) cc') /\ W.cell? ⟨bt, 1, none⟩ = some (.slice (some ⟨gl', 0, none⟩) (m + 1) cl') /\ W.cell? ⟨bt, 2, none⟩ = some (.slice (some ⟨g2, 0, none⟩) k c2) /\ W.cell? ⟨bt, 3, none⟩ = some (.slice (some ⟨g3, 0, none⟩) k c3) /\ W.cell? ⟨bt, 4, none⟩ = some (.slice (some ⟨g4, 0, none⟩) k c4) /\ W.cell? ⟨bt, 5, none⟩ = some (.slice (some ⟨g5, 0, none⟩) k c5)) V8 := ⟨X.out.cell 0, X.out.cell 1, X.out.cell 2, X.out.cell 3, X.out.cell 4, X.out.cell 5⟩
      refine ⟨_, rfl, ?_⟩
      refine hK _ _ hS ?_
      clear hK
      try simp only [Act.put, zq1, zq2, zq3, zq4, zq5, zq6]
      have hxx : (b2 == b2) = true := by cases b2 <;> rfl
      refine tkx (i := 4) (v := ?_) hS ?_ ?_
      rotate_left
      ·rintro w' ⟨s0', s1', s2', s3', s4', s5'⟩
       go_simp
       try with_reducible rfl
      try simp only [Act.put, zq1, zq2, zq3, zq4, zq5, zq6]
      clear hS
      refine anyX_last (by kernel_rfl) (by kernel_rfl) rfl rfl ?_
      try simp only [zq1, zq2, zq3]
      go_simp
      try apply_assumption
      go_wp2_with fail
      go_ret
      exact ⟨by cases b2 <;> rfl, HB.out⟩
     ·intro K hK
      try simp only [zq1, zq2, zq3]
      go_simp
      obtain ⟨V8, eV⟩ : ∃ W', V7.alloc (.cells #[.int .i64 0] 3) = W' := ⟨_, rfl⟩
      have hb : Below V7.heap.size V7 V8 := by rw [<- eV]; exact (Below.refl _ _).alloc (Nat.le_refl _) _
      obtain ⟨p2, hp⟩ : ∃ p, V7.heap.size = p := ⟨_, rfl⟩
      have HC2 : Hid (Blk V8 p2 3 #[.int .i64 0]) := Lib.hid (by rw [<- eV]; exact Blk.newAt _ hp _ _)
      have HPG2 : Hid (g0 < p2) := Lib.hid (by rw [<- hp]; exact HG0.out)
      rw [eV, hp]
      clear eV hp
      replace HOC := Lib.hid (HOC.out.below hb)
      replace HOL := Lib.hid (HOL.out.below hb)
      replace TQ := Lib.hid (TQ.out.below hb)
      replace X := Lib.hid (Blk.below X.out hb X.out.lt)
      replace HBS := Lib.hid (Nat.le_trans HBS.out hb.size)
      replace HG0 := Lib.hid (Nat.lt_of_lt_of_le HG0.out hb.size)
      replace HC1 := Lib.hid (Blk.below HC1.out hb HC1.out.lt)
      replace HB := Lib.hid (HB.out.trans (hb.mono HB.out.size))
      clear hb
      clear hS
      have hS : (fun W : World => W.cell? ⟨bt, 0, none⟩ = some (.slice (some ⟨g0, 0, none⟩) m c0) /\ W.cell? ⟨bt, 1, none⟩ = some (.slice (some ⟨g1, 0, none⟩) m c1)) V8 := ⟨(by have h := X.out.cell 0; simpa using h), (by have h := X.out.cell 1; simpa using h)⟩
      refine hK _ _ hS ?_
      clear hK
      try simp only [Act.put, zq1, zq2, zq3, zq4, zq5, zq6]
      refine anyY_g (i := 12) (by kernel_rfl) rfl rfl ?_
      intro K hK
      try simp only [zq1, zq2, zq3]
      refine wp_pushI2 (.tmp 172) (.tmp 182) rfl B (.slice (some ⟨g0, 0, none⟩) m c0) m (by rfl) HOC.out hm1 (by omega) p1 (IntKind.i64.wrap (x + 1)) (by rfl) HC1.out HBS.out ?_
      intro gc' cc' V9 hown hchg hbl hg
      replace HOL := Lib.hid (chg_own hchg HOL.out)
      replace HOC := Lib.hid hown
      replace TQ := Lib.hid (chg_tab hchg TQ.out)
      replace X := Lib.hid (chg_box hchg X.out (by decide))
      replace HC2 := Lib.hid (Blk.grown HC2.out hg (fun e => by have h1 := HPG2.out; simp only [Value.ownBlock, Option.some.injEq] at e; omega))
      replace HB := Lib.hid (HB.out.trans (hbl.mono HWB.out))
      replace HBS := Lib.hid (Nat.le_trans HBS.out hg.size)
      replace HG0 := Lib.hid (Nat.lt_of_lt_of_le HG0.out hg.size)
      clear hown hchg hbl hg HC1 HPG1
      clear hS
      have hS : (fun W : World => W.cell? ⟨bt, 0, none⟩ = some (.slice (some ⟨g0, 0, none⟩) m c0) /\ W.cell? ⟨bt, 1, none⟩ = some (.slice (some ⟨g1, 0, none⟩) m c1)) V9 := ⟨(by have h := X.out.cell 0; simpa using h), (by have h := X.out.cell 1; simpa using h)⟩
      refine hK _ _ hS ?_
      clear hK
      try simp only [Act.put, zq1, zq2, zq3, zq4, zq5, zq6]
      refine tky (i := 17) (v := ?_) hS ?_ ?_
      rotate_left
      ·rintro w' ⟨s0', s1'⟩
       go_simp
       try with_reducible rfl
      try simp only [Act.put, zq1, zq2, zq3, zq4, zq5, zq6]
      refine anyY_g (i := 16) (by kernel_rfl) rfl rfl ?_
      intro K hK
      try simp only [zq1, zq2, zq3]
      refine wp_pushI2 (.tmp 185) (.tmp 186) rfl B (.slice (some ⟨g1, 0, none⟩) m c1) m (by rfl) HOL.out hm1 (by omega) p2 0 (by rfl) HC2.out HBS.out ?_
      intro gl' cl' V10 hown hchg hbl hg
      replace HOC := Lib.hid (chg_own hchg HOC.out)
      replace HOL := Lib.hid hown
      replace TQ := Lib.hid (chg_tab hchg TQ.out)
      replace X := Lib.hid (chg_box hchg X.out (by decide))
      replace HB := Lib.hid (HB.out.trans (hbl.mono HWB.out))
      replace HBS := Lib.hid (Nat.le_trans HBS.out hg.size)
      replace HG0 := Lib.hid (Nat.lt_of_lt_of_le HG0.out hg.size)
      clear hown hchg hbl hg HC2 HPG2
      clear hS
      have hS : (fun W : World => W.cell? ⟨bt, 0, none⟩ = some (.slice (some ⟨g0, 0, none⟩) m c0) /\ W.cell? ⟨bt, 1, none⟩ = some (.slice (some ⟨g1, 0, none⟩) m c1)) V10 := ⟨(by have h := X.out.cell 0; simpa using h), (by have h := X.out.cell 1; simpa using h)⟩
      refine hK _ _ hS ?_
      clear hK
      try simp only [Act.put, zq1, zq2, zq3, zq4, zq5, zq6]
      have hbt : w.heap.size <= bt := by have := HBT.out; have := HB0.out.size; omega
      have q1 : TabQ V10 (.slice (some ⟨gc', 0, none⟩) (m + 1) cc') (.slice (some ⟨gl', 0, none⟩) (m + 1) cl') (.slice (some ⟨g2, 0, none⟩) k c2) (.slice (some ⟨g3, 0, none⟩) k c3) (.slice (some ⟨g4, 0, none⟩) k c4) (.slice (some ⟨g5, 0, none⟩) k c5) := ⟨⟨_, HOC.out.flat⟩, ⟨_, by omega, HOL.out.flat⟩, TQ.out.bn, TQ.out.bo, TQ.out.fn, TQ.out.fe⟩
      have x1 : Blk (V10.setCell ⟨bt, 0, none⟩ (.slice (some ⟨gc', 0, none⟩) (m + 1) cc')) bt 31 #[.slice (some ⟨gc', 0, none⟩) (m + 1) cc', .slice (some ⟨g1, 0, none⟩) m c1, .slice (some ⟨g2, 0, none⟩) k c2, .slice (some ⟨g3, 0, none⟩) k c3, .slice (some ⟨g4, 0, none⟩) k c4, .slice (some ⟨g5, 0, none⟩) k c5] := by simpa using X.out.set_ 0 (.slice (some ⟨gc', 0, none⟩) (m + 1) cc')
      obtain ⟨W, hW⟩ : ∃ W, (V10.setCell ⟨bt, 0, none⟩ (.slice (some ⟨gc', 0, none⟩) (m + 1) cc')).setCell ⟨bt, 1, none⟩ (.slice (some ⟨gl', 0, none⟩) (m + 1) cl') = W := ⟨_, rfl⟩
      replace TQ : Hid (TabQ W (.slice (some ⟨gc', 0, none⟩) (m + 1) cc') (.slice (some ⟨gl', 0, none⟩) (m + 1) cl') (.slice (some ⟨g2, 0, none⟩) k c2) (.slice (some ⟨g3, 0, none⟩) k c3) (.slice (some ⟨g4, 0, none⟩) k c4) (.slice (some ⟨g5, 0, none⟩) k c5)) := Lib.hid (by rw [<- hW]; exact (q1.box X.out).box x1)
      have k0 := X.out.cell 0; have k1 := X.out.cell 1; have f0 := X.out.frozen 0; have f1 := X.out.frozen 1
      simp only [List.getElem?_toArray, List.getElem?_cons_zero, List.getElem?_cons_succ] at k0 k1
      replace X : Hid (Blk W bt 31 #[.slice (some ⟨gc', 0, none⟩) (m + 1) cc', .slice (some ⟨gl', 0, none⟩) (m + 1) cl', .slice (some ⟨g2, 0, none⟩) k c2, .slice (some ⟨g3, 0, none⟩) k c3, .slice (some ⟨g4, 0, none⟩) k c4, .slice (some ⟨g5, 0, none⟩) k c5]) := Lib.hid (by rw [<- hW]; simpa using x1.set_ 1 (.slice (some ⟨gl', 0, none⟩) (m + 1) cl'))
      replace HB : Hid (Below w.heap.size w W) := Lib.hid (by rw [<- hW]; exact (HB.out.setCell (p := ⟨bt, 0, none⟩) hbt _).setCell (p := ⟨bt, 1, none⟩) hbt _)
      have HWW := Lib.hid hW
      clear hW q1 x1 hbt hS HOC HOL HBS HG0 TS
      refine anyY_h (i := 18) (by kernel_rfl) (by kernel_rfl) rfl rfl ?_
      intro K hK
      try simp only [zq1, zq2, zq3]
      go_simp
      refine hK _ _ ?_
      clear hK
      try simp only [Act.put, zq1, zq2, zq3, zq4, zq5, zq6]
      refine anyY_h (i := 19) (by kernel_rfl) (by kernel_rfl) rfl rfl ?_
      intro K hK
      try simp only [zq1, zq2, zq3]
      go_simp
      refine hK _ _ ?_
      clear hK
      try simp only [Act.put, zq1, zq2, zq3, zq4, zq5, zq6]
      refine anyY_last (i := 20) (by kernel_rfl) (by kernel_rfl) (by kernel_rfl) rfl rfl ?_
      try simp only [zq1, zq2, zq3]
      go_simp
      try apply_assumption
      clear k0 k1 f0 f1
      go_wp2_with fail
      rw [HWW.out]
      clear HWW
      have hb : Below W.heap.size W W.drew := (Below.refl _ _).drew
      replace TQ := Lib.hid (TQ.out.below hb)
      replace X := Lib.hid (Blk.below X.out hb X.out.lt)
      replace HB := Lib.hid (HB.out.trans (hb.mono HB.out.size))
      clear hb
      refine region_x 5 (fun W : World => W.cell? ⟨bt, 0, none⟩ = some (.slice (some ⟨gc', 0, none⟩) (m + 1) cc') /\ W.cell? ⟨bt, 1, none⟩ = some (.slice (some ⟨gl', 0, none⟩) (m + 1) cl') /\ W.cell? ⟨bt, 2, none⟩ = some (.slice (some ⟨g2, 0, none⟩) k c2) /\ W.cell? ⟨bt, 3, none⟩ = some (.slice (some ⟨g3, 0, none⟩) k c3) /\ W.cell? ⟨bt, 4, none⟩ = some (.slice (some ⟨g4, 0, none⟩) k c4) /\ W.cell? ⟨bt, 5, none⟩ = some (.slice (some ⟨g5, 0, none⟩) k c5)) (by kernel_rfl) ?_
      generalize W.drew = V6 at *
      have hS : (fun W : World => W.cell? ⟨bt, 0, none⟩ = some (.slice (some ⟨gc', 0, none⟩) (m + 1) cc') /\ W.cell? ⟨bt, 1, none⟩ = some (.slice (some ⟨gl', 0, none⟩) (m + 1) cl') /\ W.cell? ⟨bt, 2, none⟩ = some (.slice (some ⟨g2, 0, none⟩) k c2) /\ W.cell? ⟨bt, 3, none⟩ = some (.slice (some ⟨g3, 0, none⟩) k c3) /\ W.cell? ⟨bt, 4, none⟩ = some (.slice (some ⟨g4, 0, none⟩) k c4) /\ W.cell? ⟨bt, 5, none⟩ = some (.slice (some ⟨g5, 0, none⟩) k c5)) V6 := ⟨X.out.cell 0, X.out.cell 1, X.out.cell 2, X.out.cell 3, X.out.cell 4, X.out.cell 5⟩
      obtain ⟨t, htr, htl⟩ := TQ.out.tab
      have HTR := Lib.hid htr; have HTL := Lib.hid htl
      clear htr htl TQ
      refine tkx (i := 0) (v := ?_) hS ?_ ?_
      rotate_left
      ·rintro w' ⟨s0', s1', s2', s3', s4', s5'⟩
       go_simp
       try with_reducible rfl
      try simp only [Act.put, zq1, zq2, zq3, zq4, zq5, zq6]
      refine tkx (i := 2) (v := ?_) hS ?_ ?_
      rotate_left
      ·rintro w' ⟨s0', s1', s2', s3', s4', s5'⟩
       go_simp
       try with_reducible rfl
      try simp only [Act.put, zq1, zq2, zq3, zq4, zq5, zq6]
      refine anyX_g (i := 1) (by kernel_rfl) (by decide) rfl (by rfl) ?_
      intro K hK
      try simp only [zq1, zq2, zq3]
      refine wp_enterE #[.agg #[.slice (some ⟨gc', 0, none⟩) (m + 1) cc', .slice (some ⟨gl', 0, none⟩) (m + 1) cl', .slice (some ⟨g2, 0, none⟩) k c2, .slice (some ⟨g3, 0, none⟩) k c3, .slice (some ⟨g4, 0, none⟩) k c4, .slice (some ⟨g5, 0, none⟩) k c5]] Try.func14 (by kernel_rfl) (by kernel_rfl) ?_ (tright_any HTR.out) ?_
      ·go_simp
      rintro e V7 ⟨b1, rfl, hb1, hb⟩
      replace HTR := Lib.hid (HTR.out.below hb)
      replace X := Lib.hid (Blk.below X.out hb X.out.lt)
      have H1 := Lib.hid hb1
      replace HB := Lib.hid (HB.out.trans (hb.mono HB.out.size))
      clear hb
      clear hb1 hS
      have hS : (fun W : World => W.cell? ⟨bt, 0, none⟩ = some (.slice (some ⟨gc', 0, none⟩) (m + 1) cc') /\ W.cell? ⟨bt, 1, none⟩ = some (.slice (some ⟨gl', 0, none⟩) (m + 1) cl') /\ W.cell? ⟨bt, 2, none⟩ = some (.slice (some ⟨g2, 0, none⟩) k c2) /\ W.cell? ⟨bt, 3, none⟩ = some (.slice (some ⟨g3, 0, none⟩) k c3) /\ W.cell? ⟨bt, 4, none⟩ = some (.slice (some ⟨g4, 0, none⟩) k c4) /\ W.cell? ⟨bt, 5, none⟩ = some (.slice (some ⟨g5, 0, none⟩) k c5)) V7 := ⟨X.out.cell 0, X.out.cell 1, X.out.cell 2, X.out.cell 3, X.out.cell 4, X.out.cell 5⟩
      refine ⟨_, rfl, ?_⟩
      refine hK _ _ hS ?_
      clear hK
      try simp only [Act.put, zq1, zq2, zq3, zq4, zq5, zq6]
      refine anyX_g (i := 3) (by kernel_rfl) (by decide) rfl (by rfl) ?_
      intro K hK
      try simp only [zq1, zq2, zq3]
      refine wp_enterE #[.agg #[.slice (some ⟨gc', 0, none⟩) (m + 1) cc', .slice (some ⟨gl', 0, none⟩) (m + 1) cl', .slice (some ⟨g2, 0, none⟩) k c2, .slice (some ⟨g3, 0, none⟩) k c3, .slice (some ⟨g4, 0, none⟩) k c4, .slice (some ⟨g5, 0, none⟩) k c5]] Try.func22 (by kernel_rfl) (by kernel_rfl) ?_ (rright_any HTR.out HTL.out) ?_
      ·go_simp
      intro e V8 hro
      unfold RrO at hro
      obtain ⟨b2, rfl, hb2, hb⟩ := hro
      replace X := Lib.hid (Blk.below X.out hb X.out.lt)
      have hbb : b2 = b1 := Bool.eq_iff_iff.2 (hb2.trans H1.out.symm)
      subst hbb
      replace HB := Lib.hid (HB.out.trans (hb.mono HB.out.size))
      clear hb
      clear hb2 hS
      have hS : (fun W : World => W.cell? ⟨bt, 0, none⟩ = some (.slice (some ⟨gc', 0, none⟩) (m + 1) cc') /\ W.cell? ⟨bt, 1, none⟩ = some (.slice (some ⟨gl', 0, none⟩) (m + 1) cl') /\ W.cell? ⟨bt, 2, none⟩ = some (.slice (some ⟨g2, 0, none⟩) k c2) /\ W.cell? ⟨bt, 3, none⟩ = some (.slice (some ⟨g3, 0, none⟩) k c3) /\ W.cell? ⟨bt, 4, none⟩ = some (.slice (some ⟨g4, 0, none⟩) k c4) /\ W.cell? ⟨bt, 5, none⟩ = some (.slice (some ⟨g5, 0, none⟩) k c5)) V8 := ⟨X.out.cell 0, X.out.cell 1, X.out.cell 2, X.out.cell 3, X.out.cell 4, X.out.cell 5⟩
      refine ⟨_, rfl, ?_⟩
      refine hK _ _ hS ?_
      clear hK
      try simp only [Act.put, zq1, zq2, zq3, zq4, zq5, zq6]
      have hxx : (b2 == b2) = true := by cases b2 <;> rfl
      refine tkx (i := 4) (v := ?_) hS ?_ ?_
      rotate_left
      ·rintro w' ⟨s0', s1', s2', s3', s4', s5'⟩
       go_simp
       try with_reducible rfl
      try simp only [Act.put, zq1, zq2, zq3, zq4, zq5, zq6]
      clear hS
      refine anyX_last (by kernel_rfl) (by kernel_rfl) rfl rfl ?_
      try simp only [zq1, zq2, zq3]
      go_simp
      try apply_assumption
      go_wp2_with fail
      go_ret
      exact ⟨by cases b2 <;> rfl, HB.out⟩
    ·intro K hK
     try simp only [zq1, zq2, zq3]
     go_simp
     obtain ⟨V7, eV⟩ : ∃ W', V6.alloc (.cells #[.int .i64 0] 3) = W' := ⟨_, rfl⟩
     have hb : Below V6.heap.size V6 V7 := by rw [<- eV]; exact (Below.refl _ _).alloc (Nat.le_refl _) _
     obtain ⟨p2, hp⟩ : ∃ p, V6.heap.size = p := ⟨_, rfl⟩
     have HC2 : Hid (Blk V7 p2 3 #[.int .i64 0]) := Lib.hid (by rw [<- eV]; exact Blk.newAt _ hp _ _)
     have HPG2 : Hid (g0 < p2) := Lib.hid (by rw [<- hp]; exact HG0.out)
     rw [eV, hp]
     clear eV hp
     replace HOC := Lib.hid (HOC.out.below hb)
     replace HOL := Lib.hid (HOL.out.below hb)
     replace TQ := Lib.hid (TQ.out.below hb)
     replace X := Lib.hid (Blk.below X.out hb X.out.lt)
     replace HBS := Lib.hid (Nat.le_trans HBS.out hb.size)
     replace HG0 := Lib.hid (Nat.lt_of_lt_of_le HG0.out hb.size)
     replace HB := Lib.hid (HB.out.trans (hb.mono HB.out.size))
     clear hb
     clear hS
     have hS : (fun W : World => W.cell? ⟨bt, 0, none⟩ = some (.slice (some ⟨g0, 0, none⟩) m c0) /\ W.cell? ⟨bt, 1, none⟩ = some (.slice (some ⟨g1, 0, none⟩) m c1)) V7 := ⟨(by have h := X.out.cell 0; simpa using h), (by have h := X.out.cell 1; simpa using h)⟩
     refine hK _ _ hS ?_
     clear hK
     try simp only [Act.put, zq1, zq2, zq3, zq4, zq5, zq6]
     refine anyY_g (i := 11) (by kernel_rfl) rfl rfl ?_
     intro K hK
     try simp only [zq1, zq2, zq3]
     go_simp
     obtain ⟨V8, eV⟩ : ∃ W', V7.alloc (.cells #[.int .i64 (IntKind.i64.wrap (x + 1))] 3) = W' := ⟨_, rfl⟩
     have hb : Below V7.heap.size V7 V8 := by rw [<- eV]; exact (Below.refl _ _).alloc (Nat.le_refl _) _
     obtain ⟨p1, hp⟩ : ∃ p, V7.heap.size = p := ⟨_, rfl⟩
     have HC1 : Hid (Blk V8 p1 3 #[.int .i64 (IntKind.i64.wrap (x + 1))]) := Lib.hid (by rw [<- eV]; exact Blk.newAt _ hp _ _)
     have HPG1 : Hid (g0 < p1) := Lib.hid (by rw [<- hp]; exact HG0.out)
     rw [eV, hp]
     clear eV hp
     replace HOC := Lib.hid (HOC.out.below hb)
     replace HOL := Lib.hid (HOL.out.below hb)
     replace TQ := Lib.hid (TQ.out.below hb)
     replace X := Lib.hid (Blk.below X.out hb X.out.lt)
     replace HBS := Lib.hid (Nat.le_trans HBS.out hb.size)
     replace HG0 := Lib.hid (Nat.lt_of_lt_of_le HG0.out hb.size)
     replace HC2 := Lib.hid (Blk.below HC2.out hb HC2.out.lt)
     replace HB := Lib.hid (HB.out.trans (hb.mono HB.out.size))
     clear hb
     clear hS
     have hS : (fun W : World => W.cell? ⟨bt, 0, none⟩ = some (.slice (some ⟨g0, 0, none⟩) m c0) /\ W.cell? ⟨bt, 1, none⟩ = some (.slice (some ⟨g1, 0, none⟩) m c1)) V8 := ⟨(by have h := X.out.cell 0; simpa using h), (by have h := X.out.cell 1; simpa using h)⟩
     refine hK _ _ hS ?_
     clear hK
     try simp only [Act.put, zq1, zq2, zq3, zq4, zq5, zq6]
     refine anyY_g (i := 12) (by kernel_rfl) rfl rfl ?_
     intro K hK
     try simp only [zq1, zq2, zq3]
     refine wp_pushI2 (.tmp 172) (.tmp 182) rfl B (.slice (some ⟨g0, 0, none⟩) m c0) m (by rfl) HOC.out hm1 (by omega) p1 (IntKind.i64.wrap (x + 1)) (by rfl) HC1.out HBS.out ?_
     intro gc' cc' V9 hown hchg hbl hg
     replace HOL := Lib.hid (chg_own hchg HOL.out)
     replace HOC := Lib.hid hown
     replace TQ := Lib.hid (chg_tab hchg TQ.out)
     replace X := Lib.hid (chg_box hchg X.out (by decide))
     replace HC2 := Lib.hid (Blk.grown HC2.out hg (fun e => by have h1 := HPG2.out; simp only [Value.ownBlock, Option.some.injEq] at e; omega))
     replace HB := Lib.hid (HB.out.trans (hbl.mono HWB.out))
     replace HBS := Lib.hid (Nat.le_trans HBS.out hg.size)
     replace HG0 := Lib.hid (Nat.lt_of_lt_of_le HG0.out hg.size)
     clear hown hchg hbl hg HC1 HPG1
     clear hS
     have hS : (fun W : World => W.cell? ⟨bt, 0, none⟩ = some (.slice (some ⟨g0, 0, none⟩) m c0) /\ W.cell? ⟨bt, 1, none⟩ = some (.slice (some ⟨g1, 0, none⟩) m c1)) V9 := ⟨(by have h := X.out.cell 0; simpa using h), (by have h := X.out.cell 1; simpa using h)⟩
     refine hK _ _ hS ?_
     clear hK
     try simp only [Act.put, zq1, zq2, zq3, zq4, zq5, zq6]
     refine tky (i := 17) (v := ?_) hS ?_ ?_
     rotate_left
     ·rintro w' ⟨s0', s1'⟩
      go_simp
      try with_reducible rfl
     try simp only [Act.put, zq1, zq2, zq3, zq4, zq5, zq6]
     refine anyY_g (i := 16) (by kernel_rfl) rfl rfl ?_
     intro K hK
     try simp only [zq1, zq2, zq3]
     refine wp_pushI2 (.tmp 185) (.tmp 186) rfl B (.slice (some ⟨g1, 0, none⟩) m c1) m (by rfl) HOL.out hm1 (by omega) p2 0 (by rfl) HC2.out HBS.out ?_
     intro gl' cl' V10 hown hchg hbl hg
     replace HOC := Lib.hid (chg_own hchg HOC.out)
     replace HOL := Lib.hid hown
     replace TQ := Lib.hid (chg_tab hchg TQ.out)
     replace X := Lib.hid (chg_box hchg X.out (by decide))
     replace HB := Lib.hid (HB.out.trans (hbl.mono HWB.out))
     replace HBS := Lib.hid (Nat.le_trans HBS.out hg.size)
     replace HG0 := Lib.hid (Nat.lt_of_lt_of_le HG0.out hg.size)
     clear hown hchg hbl hg HC2 HPG2
     clear hS
     have hS : (fun W : World => W.cell? ⟨bt, 0, none⟩ = some (.slice (some ⟨g0, 0, none⟩) m c0) /\ W.cell? ⟨bt, 1, none⟩ = some (.slice (some ⟨g1, 0, none⟩) m c1)) V10 := ⟨(by have h := X.out.cell 0; simpa using h), (by have h := X.out.cell 1; simpa using h)⟩
     refine hK _ _ hS ?_
     clear hK
     try simp only [Act.put, zq1, zq2, zq3, zq4, zq5, zq6]
     have hbt : w.heap.size <= bt := by have := HBT.out; have := HB0.out.size; omega
     have q1 : TabQ V10 (.slice (some ⟨gc', 0, none⟩) (m + 1) cc') (.slice (some ⟨gl', 0, none⟩) (m + 1) cl') (.slice (some ⟨g2, 0, none⟩) k c2) (.slice (some ⟨g3, 0, none⟩) k c3) (.slice (some ⟨g4, 0, none⟩) k c4) (.slice (some ⟨g5, 0, none⟩) k c5) := ⟨⟨_, HOC.out.flat⟩, ⟨_, by omega, HOL.out.flat⟩, TQ.out.bn, TQ.out.bo, TQ.out.fn, TQ.out.fe⟩
     have x1 : Blk (V10.setCell ⟨bt, 0, none⟩ (.slice (some ⟨gc', 0, none⟩) (m + 1) cc')) bt 31 #[.slice (some ⟨gc', 0, none⟩) (m + 1) cc', .slice (some ⟨g1, 0, none⟩) m c1, .slice (some ⟨g2, 0, none⟩) k c2, .slice (some ⟨g3, 0, none⟩) k c3, .slice (some ⟨g4, 0, none⟩) k c4, .slice (some ⟨g5, 0, none⟩) k c5] := by simpa using X.out.set_ 0 (.slice (some ⟨gc', 0, none⟩) (m + 1) cc')
     obtain ⟨W, hW⟩ : ∃ W, (V10.setCell ⟨bt, 0, none⟩ (.slice (some ⟨gc', 0, none⟩) (m + 1) cc')).setCell ⟨bt, 1, none⟩ (.slice (some ⟨gl', 0, none⟩) (m + 1) cl') = W := ⟨_, rfl⟩
     replace TQ : Hid (TabQ W (.slice (some ⟨gc', 0, none⟩) (m + 1) cc') (.slice (some ⟨gl', 0, none⟩) (m + 1) cl') (.slice (some ⟨g2, 0, none⟩) k c2) (.slice (some ⟨g3, 0, none⟩) k c3) (.slice (some ⟨g4, 0, none⟩) k c4) (.slice (some ⟨g5, 0, none⟩) k c5)) := Lib.hid (by rw [<- hW]; exact (q1.box X.out).box x1)
     have k0 := X.out.cell 0; have k1 := X.out.cell 1; have f0 := X.out.frozen 0; have f1 := X.out.frozen 1
     simp only [List.getElem?_toArray, List.getElem?_cons_zero, List.getElem?_cons_succ] at k0 k1
     replace X : Hid (Blk W bt 31 #[.slice (some ⟨gc', 0, none⟩) (m + 1) cc', .slice (some ⟨gl', 0, none⟩) (m + 1) cl', .slice (some ⟨g2, 0, none⟩) k c2, .slice (some ⟨g3, 0, none⟩) k c3, .slice (some ⟨g4, 0, none⟩) k c4, .slice (some ⟨g5, 0, none⟩) k c5]) := Lib.hid (by rw [<- hW]; simpa using x1.set_ 1 (.slice (some ⟨gl', 0, none⟩) (m + 1) cl'))
     replace HB : Hid (Below w.heap.size w W) := Lib.hid (by rw [<- hW]; exact (HB.out.setCell (p := ⟨bt, 0, none⟩) hbt _).setCell (p := ⟨bt, 1, none⟩) hbt _)
     have HWW := Lib.hid hW
     clear hW q1 x1 hbt hS HOC HOL HBS HG0 TS
     refine anyY_h (i := 18) (by kernel_rfl) (by kernel_rfl) rfl rfl ?_
     intro K hK
     try simp only [zq1, zq2, zq3]
     go_simp
     refine hK _ _ ?_
     clear hK
     try simp only [Act.put, zq1, zq2, zq3, zq4, zq5, zq6]
     refine anyY_h (i := 19) (by kernel_rfl) (by kernel_rfl) rfl rfl ?_
     intro K hK
     try simp only [zq1, zq2, zq3]
     go_simp
     refine hK _ _ ?_
     clear hK
     try simp only [Act.put, zq1, zq2, zq3, zq4, zq5, zq6]
     refine anyY_last (i := 20) (by kernel_rfl) (by kernel_rfl) (by kernel_rfl) rfl rfl ?_
     try simp only [zq1, zq2, zq3]
     go_simp
     try apply_assumption
     clear k0 k1 f0 f1
     go_wp2_with fail
     rw [HWW.out]
     clear HWW
     have hb : Below W.heap.size W W.drew := (Below.refl _ _).drew
     replace TQ := Lib.hid (TQ.out.below hb)
     replace X := Lib.hid (Blk.below X.out hb X.out.lt)
     replace HB := Lib.hid (HB.out.trans (hb.mono HB.out.size))
     clear hb
     refine region_x 5 (fun W : World => W.cell? ⟨bt, 0, none⟩ = some (.slice (some ⟨gc', 0, none⟩) (m + 1) cc') /\ W.cell? ⟨bt, 1, none⟩ = some (.slice (some ⟨gl', 0, none⟩) (m + 1) cl') /\ W.cell? ⟨bt, 2, none⟩ = some (.slice (some ⟨g2, 0, none⟩) k c2) /\ W.cell? ⟨bt, 3, none⟩ = some (.slice (some ⟨g3, 0, none⟩) k c3) /\ W.cell? ⟨bt, 4, none⟩ = some (.slice (some ⟨g4, 0, none⟩) k c4) /\ W.cell? ⟨bt, 5, none⟩ = some (.slice (some ⟨g5, 0, none⟩) k c5)) (by kernel_rfl) ?_
     generalize W.drew = V6 at *
     have hS : (fun W : World => W.cell? ⟨bt, 0, none⟩ = some (.slice (some ⟨gc', 0, none⟩) (m + 1) cc') /\ W.cell? ⟨bt, 1, none⟩ = some (.slice (some ⟨gl', 0, none⟩) (m + 1) cl') /\ W.cell? ⟨bt, 2, none⟩ = some (.slice (some ⟨g2, 0, none⟩) k c2) /\ W.cell? ⟨bt, 3, none⟩ = some (.slice (some ⟨g3, 0, none⟩) k c3) /\ W.cell? ⟨bt, 4, none⟩ = some (.slice (some ⟨g4, 0, none⟩) k c4) /\ W.cell? ⟨bt, 5, none⟩ = some (.slice (some ⟨g5, 0, none⟩) k c5)) V6 := ⟨X.out.cell 0, X.out.cell 1, X.out.cell 2, X.out.cell 3, X.out.cell 4, X.out.cell 5⟩
     obtain ⟨t, htr, htl⟩ := TQ.out.tab
     have HTR := Lib.hid htr; have HTL := Lib.hid htl
     clear htr htl TQ
     refine tkx (i := 0) (v := ?_) hS ?_ ?_
     rotate_left
     ·rintro w' ⟨s0', s1', s2', s3', s4', s5'⟩
      go_simp
      try with_reducible rfl
     try simp only [Act.put, zq1, zq2, zq3, zq4, zq5, zq6]
     refine tkx (i := 2) (v := ?_) hS ?_ ?_
     rotate_left
     ·rintro w' ⟨s0', s1', s2', s3', s4', s5'⟩
      go_simp
      try with_reducible rfl
     try simp only [Act.put, zq1, zq2, zq3, zq4, zq5, zq6]
     refine anyX_g (i := 1) (by kernel_rfl) (by decide) rfl (by rfl) ?_
     intro K hK
     try simp only [zq1, zq2, zq3]
     refine wp_enterE #[.agg #[.slice (some ⟨gc', 0, none⟩) (m + 1) cc', .slice (some ⟨gl', 0, none⟩) (m + 1) cl', .slice (some ⟨g2, 0, none⟩) k c2, .slice (some ⟨g3, 0, none⟩) k c3, .slice (some ⟨g4, 0, none⟩) k c4, .slice (some ⟨g5, 0, none⟩) k c5]] Try.func14 (by kernel_rfl) (by kernel_rfl) ?_ (tright_any HTR.out) ?_
     ·go_simp
     rintro e V7 ⟨b1, rfl, hb1, hb⟩
     replace HTR := Lib.hid (HTR.out.below hb)
     replace X := Lib.hid (Blk.below X.out hb X.out.lt)
     have H1 := Lib.hid hb1
     replace HB := Lib.hid (HB.out.trans (hb.mono HB.out.size))
     clear hb
     clear hb1 hS
     have hS : (fun W : World => W.cell? ⟨bt, 0, none⟩ = some (.slice (some ⟨gc', 0, none⟩) (m + 1) cc') /\ W.cell? ⟨bt, 1, none⟩ = some (.slice (some ⟨gl', 0, none⟩) (m + 1) cl') /\ W.cell? ⟨bt, 2, none⟩ = some (.slice (some ⟨g2, 0, none⟩) k c2) /\ W.cell? ⟨bt, 3, none⟩ = some (.slice (some ⟨g3, 0, none⟩) k c3) /\ W.cell? ⟨bt, 4, none⟩ = some (.slice (some ⟨g4, 0, none⟩) k c4) /\ W.cell? ⟨bt, 5, none⟩ = some (.slice (some ⟨g5, 0, none⟩) k c5)) V7 := ⟨X.out.cell 0, X.out.cell 1, X.out.cell 2, X.out.cell 3, X.out.cell 4, X.out.cell 5⟩
     refine ⟨_, rfl, ?_⟩
     refine hK _ _ hS ?_
     clear hK
     try simp only [Act.put, zq1, zq2, zq3, zq4, zq5, zq6]
     refine anyX_g (i := 3) (by kernel_rfl) (by decide) rfl (by rfl) ?_
     intro K hK
     try simp only [zq1, zq2, zq3]
     refine wp_enterE #[.agg #[.slice (some ⟨gc', 0, none⟩) (m + 1) cc', .slice (some ⟨gl', 0, none⟩) (m + 1) cl', .slice (some ⟨g2, 0, none⟩) k c2, .slice (some ⟨g3, 0, none⟩) k c3, .slice (some ⟨g4, 0, none⟩) k c4, .slice (some ⟨g5, 0, none⟩) k c5]] Try.func22 (by kernel_rfl) (by kernel_rfl) ?_ (rright_any HTR.out HTL.out) ?_
     ·go_simp
     intro e V8 hro
     unfold RrO at hro
     obtain ⟨b2, rfl, hb2, hb⟩ := hro
     replace X := Lib.hid (Blk.below X.out hb X.out.lt)
     have hbb : b2 = b1 := Bool.eq_iff_iff.2 (hb2.trans H1.out.symm)
     subst hbb
     replace HB := Lib.hid (HB.out.trans (hb.mono HB.out.size))
     clear hb
     clear hb2 hS
     have hS : (fun W : World => W.cell? ⟨bt, 0, none⟩ = some (.slice (some ⟨gc', 0, none⟩) (m + 1) cc') /\ W.cell? ⟨bt, 1, none⟩ = some (.slice (some ⟨gl', 0, none⟩) (m + 1) cl') /\ W.cell? ⟨bt, 2, none⟩ = some (.slice (some ⟨g2, 0, none⟩) k c2) /\ W.cell? ⟨bt, 3, none⟩ = some (.slice (some ⟨g3, 0, none⟩) k c3) /\ W.cell? ⟨bt, 4, none⟩ = some (.slice (some ⟨g4, 0, none⟩) k c4) /\ W.cell? ⟨bt, 5, none⟩ = some (.slice (some ⟨g5, 0, none⟩) k c5)) V8 := ⟨X.out.cell 0, X.out.cell 1, X.out.cell 2, X.out.cell 3, X.out.cell 4, X.out.cell 5⟩
     refine ⟨_, rfl, ?_⟩
     refine hK _ _ hS ?_
     clear hK
     try simp only [Act.put, zq1, zq2, zq3, zq4, zq5, zq6]
     have hxx : (b2 == b2) = true := by cases b2 <;> rfl
     refine tkx (i := 4) (v := ?_) hS ?_ ?_
     rotate_left
     ·rintro w' ⟨s0', s1', s2', s3', s4', s5'⟩
      go_simp
      try with_reducible rfl
     try simp only [Act.put, zq1, zq2, zq3, zq4, zq5, zq6]
     clear hS
     refine anyX_last (by kernel_rfl) (by kernel_rfl) rfl rfl ?_
     try simp only [zq1, zq2, zq3]
     go_simp
     try apply_assumption
     go_wp2_with fail
     go_ret
     exact ⟨by cases b2 <;> rfl, HB.out⟩
   ·intro K hK
    try simp only [zq1, zq2, zq3]
    go_simp
    obtain ⟨V7, eV⟩ : ∃ W', V6.alloc (.cells #[.int .i64 0] 3) = W' := ⟨_, rfl⟩
    have hb : Below V6.heap.size V6 V7 := by rw [<- eV]; exact (Below.refl _ _).alloc (Nat.le_refl _) _
    obtain ⟨p2, hp⟩ : ∃ p, V6.heap.size = p := ⟨_, rfl⟩
    have HC2 : Hid (Blk V7 p2 3 #[.int .i64 0]) := Lib.hid (by rw [<- eV]; exact Blk.newAt _ hp _ _)
    have HPG2 : Hid (g0 < p2) := Lib.hid (by rw [<- hp]; exact HG0.out)
    rw [eV, hp]
    clear eV hp
    replace HOC := Lib.hid (HOC.out.below hb)
    replace HOL := Lib.hid (HOL.out.below hb)
    replace TQ := Lib.hid (TQ.out.below hb)
    replace X := Lib.hid (Blk.below X.out hb X.out.lt)
    replace HBS := Lib.hid (Nat.le_trans HBS.out hb.size)
    replace HG0 := Lib.hid (Nat.lt_of_lt_of_le HG0.out hb.size)
    replace HB := Lib.hid (HB.out.trans (hb.mono HB.out.size))
    clear hb
    clear hS
    have hS : (fun W : World => W.cell? ⟨bt, 0, none⟩ = some (.slice (some ⟨g0, 0, none⟩) m c0) /\ W.cell? ⟨bt, 1, none⟩ = some (.slice (some ⟨g1, 0, none⟩) m c1)) V7 := ⟨(by have h := X.out.cell 0; simpa using h), (by have h := X.out.cell 1; simpa using h)⟩
    refine hK _ _ hS ?_
    clear hK
    try simp only [Act.put, zq1, zq2, zq3, zq4, zq5, zq6]
    refine anyY_g (i := 9) (by kernel_rfl) rfl rfl ?_
    intro K hK
    try simp only [zq1, zq2, zq3]
    obtain ⟨ga, ca, x, ea, -, -, -, -, hcx, -, -⟩ := HOC.out.at_ (o := m - 1) (by omega)
    simp only [Value.slice.injEq, Option.some.injEq, Addr.mk.injEq, and_true, true_and] at ea
    obtain ⟨rfl, rfl⟩ := ea
    go_simp
    clear hcx
    refine hK _ _ hS ?_
    clear hK
    try simp only [Act.put, zq1, zq2, zq3, zq4, zq5, zq6]
    refine tky0 (i := 10) (v := ?_) hS ?_ ?_
    rotate_left
    ·rintro w' -
     go_simp
     try with_reducible rfl
    try simp only [Act.put, zq1, zq2, zq3, zq4, zq5, zq6]
    refine anyY_g (i := 11) (by kernel_rfl) rfl rfl ?_
    intro K hK
    try simp only [zq1, zq2, zq3]
    go_simp
    obtain ⟨V8, eV⟩ : ∃ W', V7.alloc (.cells #[.int .i64 (IntKind.i64.wrap (x + 1))] 3) = W' := ⟨_, rfl⟩
    have hb : Below V7.heap.size V7 V8 := by rw [<- eV]; exact (Below.refl _ _).alloc (Nat.le_refl _) _
    obtain ⟨p1, hp⟩ : ∃ p, V7.heap.size = p := ⟨_, rfl⟩
    have HC1 : Hid (Blk V8 p1 3 #[.int .i64 (IntKind.i64.wrap (x + 1))]) := Lib.hid (by rw [<- eV]; exact Blk.newAt _ hp _ _)
    have HPG1 : Hid (g0 < p1) := Lib.hid (by rw [<- hp]; exact HG0.out)
    rw [eV, hp]
    clear eV hp
    replace HOC := Lib.hid (HOC.out.below hb)
    replace HOL := Lib.hid (HOL.out.below hb)
    replace TQ := Lib.hid (TQ.out.below hb)
    replace X := Lib.hid (Blk.below X.out hb X.out.lt)
    replace HBS := Lib.hid (Nat.le_trans HBS.out hb.size)
    replace HG0 := Lib.hid (Nat.lt_of_lt_of_le HG0.out hb.size)
    replace HC2 := Lib.hid (Blk.below HC2.out hb HC2.out.lt)
    replace HB := Lib.hid (HB.out.trans (hb.mono HB.out.size))
    clear hb
    clear hS
    have hS : (fun W : World => W.cell? ⟨bt, 0, none⟩ = some (.slice (some ⟨g0, 0, none⟩) m c0) /\ W.cell? ⟨bt, 1, none⟩ = some (.slice (some ⟨g1, 0, none⟩) m c1)) V8 := ⟨(by have h := X.out.cell 0; simpa using h), (by have h := X.out.cell 1; simpa using h)⟩
    refine hK _ _ hS ?_
    clear hK
    try simp only [Act.put, zq1, zq2, zq3, zq4, zq5, zq6]
    refine anyY_g (i := 12) (by kernel_rfl) rfl rfl ?_
    intro K hK
    try simp only [zq1, zq2, zq3]
    refine wp_pushI2 (.tmp 172) (.tmp 182) rfl B (.slice (some ⟨g0, 0, none⟩) m c0) m (by rfl) HOC.out hm1 (by omega) p1 (IntKind.i64.wrap (x + 1)) (by rfl) HC1.out HBS.out ?_
    intro gc' cc' V9 hown hchg hbl hg
    replace HOL := Lib.hid (chg_own hchg HOL.out)
    replace HOC := Lib.hid hown
    replace TQ := Lib.hid (chg_tab hchg TQ.out)
    replace X := Lib.hid (chg_box hchg X.out (by decide))
    replace HC2 := Lib.hid (Blk.grown HC2.out hg (fun e => by have h1 := HPG2.out; simp only [Value.ownBlock, Option.some.injEq] at e; omega))
    replace HB := Lib.hid (HB.out.trans (hbl.mono HWB.out))
    replace HBS := Lib.hid (Nat.le_trans HBS.out hg.size)
    replace HG0 := Lib.hid (Nat.lt_of_lt_of_le HG0.out hg.size)
    clear hown hchg hbl hg HC1 HPG1
    clear hS
    have hS : (fun W : World => W.cell? ⟨bt, 0, none⟩ = some (.slice (some ⟨g0, 0, none⟩) m c0) /\ W.cell? ⟨bt, 1, none⟩ = some (.slice (some ⟨g1, 0, none⟩) m c1)) V9 := ⟨(by have h := X.out.cell 0; simpa using h), (by have h := X.out.cell 1; simpa using h)⟩
    refine hK _ _ hS ?_
    clear hK
    try simp only [Act.put, zq1, zq2, zq3, zq4, zq5, zq6]
    refine tky (i := 17) (v := ?_) hS ?_ ?_
    rotate_left
    ·rintro w' ⟨s0', s1'⟩
     go_simp
     try with_reducible rfl
    try simp only [Act.put, zq1, zq2, zq3, zq4, zq5, zq6]
    refine anyY_g (i := 16) (by kernel_rfl) rfl rfl ?_
    intro K hK
    try simp only [zq1, zq2, zq3]
    refine wp_pushI2 (.tmp 185) (.tmp 186) rfl B (.slice (some ⟨g1, 0, none⟩) m c1) m (by rfl) HOL.out hm1 (by omega) p2 0 (by rfl) HC2.out HBS.out ?_
    intro gl' cl' V10 hown hchg hbl hg
    replace HOC := Lib.hid (chg_own hchg HOC.out)
    replace HOL := Lib.hid hown
    replace TQ := Lib.hid (chg_tab hchg TQ.out)
    replace X := Lib.hid (chg_box hchg X.out (by decide))
    replace HB := Lib.hid (HB.out.trans (hbl.mono HWB.out))
    replace HBS := Lib.hid (Nat.le_trans HBS.out hg.size)
    replace HG0 := Lib.hid (Nat.lt_of_lt_of_le HG0.out hg.size)
    clear hown hchg hbl hg HC2 HPG2
    clear hS
    have hS : (fun W : World => W.cell? ⟨bt, 0, none⟩ = some (.slice (some ⟨g0, 0, none⟩) m c0) /\ W.cell? ⟨bt, 1, none⟩ = some (.slice (some ⟨g1, 0, none⟩) m c1)) V10 := ⟨(by have h := X.out.cell 0; simpa using h), (by have h := X.out.cell 1; simpa using h)⟩
    refine hK _ _ hS ?_
    clear hK
    try simp only [Act.put, zq1, zq2, zq3, zq4, zq5, zq6]
    have hbt : w.heap.size <= bt := by have := HBT.out; have := HB0.out.size; omega
    have q1 : TabQ V10 (.slice (some ⟨gc', 0, none⟩) (m + 1) cc') (.slice (some ⟨gl', 0, none⟩) (m + 1) cl') (.slice (some ⟨g2, 0, none⟩) k c2) (.slice (some ⟨g3, 0, none⟩) k c3) (.slice (some ⟨g4, 0, none⟩) k c4) (.slice (some ⟨g5, 0, none⟩) k c5) := ⟨⟨_, HOC.out.flat⟩, ⟨_, by omega, HOL.out.flat⟩, TQ.out.bn, TQ.out.bo, TQ.out.fn, TQ.out.fe⟩
    have x1 : Blk (V10.setCell ⟨bt, 0, none⟩ (.slice (some ⟨gc', 0, none⟩) (m + 1) cc')) bt 31 #[.slice (some ⟨gc', 0, none⟩) (m + 1) cc', .slice (some ⟨g1, 0, none⟩) m c1, .slice (some ⟨g2, 0, none⟩) k c2, .slice (some ⟨g3, 0, none⟩) k c3, .slice (some ⟨g4, 0, none⟩) k c4, .slice (some ⟨g5, 0, none⟩) k c5] := by simpa using X.out.set_ 0 (.slice (some ⟨gc', 0, none⟩) (m + 1) cc')
    obtain ⟨W, hW⟩ : ∃ W, (V10.setCell ⟨bt, 0, none⟩ (.slice (some ⟨gc', 0, none⟩) (m + 1) cc')).setCell ⟨bt, 1, none⟩ (.slice (some ⟨gl', 0, none⟩) (m + 1) cl') = W := ⟨_, rfl⟩
    replace TQ : Hid (TabQ W (.slice (some ⟨gc', 0, none⟩) (m + 1) cc') (.slice (some ⟨gl', 0, none⟩) (m + 1) cl') (.slice (some ⟨g2, 0, none⟩) k c2) (.slice (some ⟨g3, 0, none⟩) k c3) (.slice (some ⟨g4, 0, none⟩) k c4) (.slice (some ⟨g5, 0, none⟩) k c5)) := Lib.hid (by rw [<- hW]; exact (q1.box X.out).box x1)
    have k0 := X.out.cell 0; have k1 := X.out.cell 1; have f0 := X.out.frozen 0; have f1 := X.out.frozen 1
    simp only [List.getElem?_toArray, List.getElem?_cons_zero, List.getElem?_cons_succ] at k0 k1
    replace X : Hid (Blk W bt 31 #[.slice (some ⟨gc', 0, none⟩) (m + 1) cc', .slice (some ⟨gl', 0, none⟩) (m + 1) cl', .slice (some ⟨g2, 0, none⟩) k c2, .slice (some ⟨g3, 0, none⟩) k c3, .slice (some ⟨g4, 0, none⟩) k c4, .slice (some ⟨g5, 0, none⟩) k c5]) := Lib.hid (by rw [<- hW]; simpa using x1.set_ 1 (.slice (some ⟨gl', 0, none⟩) (m + 1) cl'))
    replace HB : Hid (Below w.heap.size w W) := Lib.hid (by rw [<- hW]; exact (HB.out.setCell (p := ⟨bt, 0, none⟩) hbt _).setCell (p := ⟨bt, 1, none⟩) hbt _)
    have HWW := Lib.hid hW
    clear hW q1 x1 hbt hS HOC HOL HBS HG0 TS
    refine anyY_h (i := 18) (by kernel_rfl) (by kernel_rfl) rfl rfl ?_
    intro K hK
    try simp only [zq1, zq2, zq3]
    go_simp
    refine hK _ _ ?_
    clear hK
    try simp only [Act.put, zq1, zq2, zq3, zq4, zq5, zq6]
    refine anyY_h (i := 19) (by kernel_rfl) (by kernel_rfl) rfl rfl ?_
    intro K hK
    try simp only [zq1, zq2, zq3]
    go_simp
    refine hK _ _ ?_
    clear hK
    try simp only [Act.put, zq1, zq2, zq3, zq4, zq5, zq6]
    refine anyY_last (i := 20) (by kernel_rfl) (by kernel_rfl) (by kernel_rfl) rfl rfl ?_
    try simp only [zq1, zq2, zq3]
    go_simp
    try apply_assumption
    clear k0 k1 f0 f1
    go_wp2_with fail
    rw [HWW.out]
    clear HWW
    have hb : Below W.heap.size W W.drew := (Below.refl _ _).drew
    replace TQ := Lib.hid (TQ.out.below hb)
    replace X := Lib.hid (Blk.below X.out hb X.out.lt)
    replace HB := Lib.hid (HB.out.trans (hb.mono HB.out.size))
    clear hb
    refine region_x 5 (fun W : World => W.cell? ⟨bt, 0, none⟩ = some (.slice (some ⟨gc', 0, none⟩) (m + 1) cc') /\ W.cell? ⟨bt, 1, none⟩ = some (.slice (some ⟨gl', 0, none⟩) (m + 1) cl') /\ W.cell? ⟨bt, 2, none⟩ = some (.slice (some ⟨g2, 0, none⟩) k c2) /\ W.cell? ⟨bt, 3, none⟩ = some (.slice (some ⟨g3, 0, none⟩) k c3) /\ W.cell? ⟨bt, 4, none⟩ = some (.slice (some ⟨g4, 0, none⟩) k c4) /\ W.cell? ⟨bt, 5, none⟩ = some (.slice (some ⟨g5, 0, none⟩) k c5)) (by kernel_rfl) ?_
    generalize W.drew = V6 at *
    have hS : (fun W : World => W.cell? ⟨bt, 0, none⟩ = some (.slice (some ⟨gc', 0, none⟩) (m + 1) cc') /\ W.cell? ⟨bt, 1, none⟩ = some (.slice (some ⟨gl', 0, none⟩) (m + 1) cl') /\ W.cell? ⟨bt, 2, none⟩ = some (.slice (some ⟨g2, 0, none⟩) k c2) /\ W.cell? ⟨bt, 3, none⟩ = some (.slice (some ⟨g3, 0, none⟩) k c3) /\ W.cell? ⟨bt, 4, none⟩ = some (.slice (some ⟨g4, 0, none⟩) k c4) /\ W.cell? ⟨bt, 5, none⟩ = some (.slice (some ⟨g5, 0, none⟩) k c5)) V6 := ⟨X.out.cell 0, X.out.cell 1, X.out.cell 2, X.out.cell 3, X.out.cell 4, X.out.cell 5⟩
    obtain ⟨t, htr, htl⟩ := TQ.out.tab
    have HTR := Lib.hid htr; have HTL := Lib.hid htl
    clear htr htl TQ
    refine tkx (i := 0) (v := ?_) hS ?_ ?_
    rotate_left
    ·rintro w' ⟨s0', s1', s2', s3', s4', s5'⟩
     go_simp
     try with_reducible rfl
    try simp only [Act.put, zq1, zq2, zq3, zq4, zq5, zq6]
    refine tkx (i := 2) (v := ?_) hS ?_ ?_
    rotate_left
    ·rintro w' ⟨s0', s1', s2', s3', s4', s5'⟩
     go_simp
     try with_reducible rfl
    try simp only [Act.put, zq1, zq2, zq3, zq4, zq5, zq6]
    refine anyX_g (i := 1) (by kernel_rfl) (by decide) rfl (by rfl) ?_
    intro K hK
    try simp only [zq1, zq2, zq3]
    refine wp_enterE #[.agg #[.slice (some ⟨gc', 0, none⟩) (m + 1) cc', .slice (some ⟨gl', 0, none⟩) (m + 1) cl', .slice (some ⟨g2, 0, none⟩) k c2, .slice (some ⟨g3, 0, none⟩) k c3, .slice (some ⟨g4, 0, none⟩) k c4, .slice (some ⟨g5, 0, none⟩) k c5]] Try.func14 (by kernel_rfl) (by kernel_rfl) ?_ (tright_any HTR.out) ?_
    ·go_simp
    rintro e V7 ⟨b1, rfl, hb1, hb⟩
    replace HTR := Lib.hid (HTR.out.below hb)
    replace X := Lib.hid (Blk.below X.out hb X.out.lt)
    have H1 := Lib.hid hb1
    replace HB := Lib.hid (HB.out.trans (hb.mono HB.out.size))
    clear hb
    clear hb1 hS
    have hS : (fun W : World => W.cell? ⟨bt, 0, none⟩ = some (.slice (some ⟨gc', 0, none⟩) (m + 1) cc') /\ W.cell? ⟨bt, 1, none⟩ = some (.slice (some ⟨gl', 0, none⟩) (m + 1) cl') /\ W.cell? ⟨bt, 2, none⟩ = some (.slice (some ⟨g2, 0, none⟩) k c2) /\ W.cell? ⟨bt, 3, none⟩ = some (.slice (some ⟨g3, 0, none⟩) k c3) /\ W.cell? ⟨bt, 4, none⟩ = some (.slice (some ⟨g4, 0, none⟩) k c4) /\ W.cell? ⟨bt, 5, none⟩ = some (.slice (some ⟨g5, 0, none⟩) k c5)) V7 := ⟨X.out.cell 0, X.out.cell 1, X.out.cell 2, X.out.cell 3, X.out.cell 4, X.out.cell 5⟩
    refine ⟨_, rfl, ?_⟩
    refine hK _ _ hS ?_
    clear hK
    try simp only [Act.put, zq1, zq2, zq3, zq4, zq5, zq6]
    refine anyX_g (i := 3) (by kernel_rfl) (by decide) rfl (by rfl) ?_
    intro K hK
    try simp only [zq1, zq2, zq3]
    refine wp_enterE #[.agg #[.slice (some ⟨gc', 0, none⟩) (m + 1) cc', .slice (some ⟨gl', 0, none⟩) (m + 1) cl', .slice (some ⟨g2, 0, none⟩) k c2, .slice (some ⟨g3, 0, none⟩) k c3, .slice (some ⟨g4, 0, none⟩) k c4, .slice (some ⟨g5, 0, none⟩) k c5]] Try.func22 (by kernel_rfl) (by kernel_rfl) ?_ (rright_any HTR.out HTL.out) ?_
    ·go_simp
    intro e V8 hro
    unfold RrO at hro
    obtain ⟨b2, rfl, hb2, hb⟩ := hro
    replace X := Lib.hid (Blk.below X.out hb X.out.lt)
    have hbb : b2 = b1 := Bool.eq_iff_iff.2 (hb2.trans H1.out.symm)
    subst hbb
    replace HB := Lib.hid (HB.out.trans (hb.mono HB.out.size))
    clear hb
    clear hb2 hS
    have hS : (fun W : World => W.cell? ⟨bt, 0, none⟩ = some (.slice (some ⟨gc', 0, none⟩) (m + 1) cc') /\ W.cell? ⟨bt, 1, none⟩ = some (.slice (some ⟨gl', 0, none⟩) (m + 1) cl') /\ W.cell? ⟨bt, 2, none⟩ = some (.slice (some ⟨g2, 0, none⟩) k c2) /\ W.cell? ⟨bt, 3, none⟩ = some (.slice (some ⟨g3, 0, none⟩) k c3) /\ W.cell? ⟨bt, 4, none⟩ = some (.slice (some ⟨g4, 0, none⟩) k c4) /\ W.cell? ⟨bt, 5, none⟩ = some (.slice (some ⟨g5, 0, none⟩) k c5)) V8 := ⟨X.out.cell 0, X.out.cell 1, X.out.cell 2, X.out.cell 3, X.out.cell 4, X.out.cell 5⟩
    refine ⟨_, rfl, ?_⟩
    refine hK _ _ hS ?_
    clear hK
    try simp only [Act.put, zq1, zq2, zq3, zq4, zq5, zq6]
    have hxx : (b2 == b2) = true := by cases b2 <;> rfl
    refine tkx (i := 4) (v := ?_) hS ?_ ?_
    rotate_left
    ·rintro w' ⟨s0', s1', s2', s3', s4', s5'⟩
     go_simp
     try with_reducible rfl
    try simp only [Act.put, zq1, zq2, zq3, zq4, zq5, zq6]
    clear hS
    refine anyX_last (by kernel_rfl) (by kernel_rfl) rfl rfl ?_
    try simp only [zq1, zq2, zq3]
    go_simp
    try apply_assumption
    go_wp2_with fail
    go_ret
    exact ⟨by cases b2 <;> rfl, HB.out⟩
  ·have f2 := X.out.frozen 2
   have f3 := X.out.frozen 3
   go_wp2_with fail
   have q0 := TS.out.q (by omega)
   have q1 : TabQ V5 (.slice (some ⟨g0, 0, none⟩) m c0) (.slice (some ⟨g1, 0, none⟩) m c1) (.slice none 0 0) (.slice none 0 0) (.slice (some ⟨g4, 0, none⟩) k c4) (.slice (some ⟨g5, 0, none⟩) k c5) := ⟨q0.c, q0.l, ⟨0, .inl ⟨rfl, rfl⟩⟩, ⟨0, .inl ⟨rfl, rfl⟩⟩, q0.fn, q0.fe⟩
   have x1 : Blk (V5.setCell ⟨bt, 2, none⟩ (.slice none 0 0)) bt 31 #[.slice (some ⟨g0, 0, none⟩) m c0, .slice (some ⟨g1, 0, none⟩) m c1, .slice none 0 0, .slice (some ⟨g3, 0, none⟩) k c3, .slice (some ⟨g4, 0, none⟩) k c4, .slice (some ⟨g5, 0, none⟩) k c5] := by simpa using X.out.set_ 2 (.slice none 0 0)
   obtain ⟨W, hW⟩ : ∃ W, (V5.setCell ⟨bt, 2, none⟩ (.slice none 0 0)).setCell ⟨bt, 3, none⟩ (.slice none 0 0) = W := ⟨_, rfl⟩
   have hbt : w.heap.size <= bt := by have := HBT.out; have := HB0.out.size; omega
   have TQ : Hid (TabQ W (.slice (some ⟨g0, 0, none⟩) m c0) (.slice (some ⟨g1, 0, none⟩) m c1) (.slice none 0 0) (.slice none 0 0) (.slice (some ⟨g4, 0, none⟩) k c4) (.slice (some ⟨g5, 0, none⟩) k c5)) := Lib.hid (by rw [<- hW]; exact (q1.box X.out).box x1)
   replace X : Hid (Blk W bt 31 #[.slice (some ⟨g0, 0, none⟩) m c0, .slice (some ⟨g1, 0, none⟩) m c1, .slice none 0 0, .slice none 0 0, .slice (some ⟨g4, 0, none⟩) k c4, .slice (some ⟨g5, 0, none⟩) k c5]) := Lib.hid (by rw [<- hW]; simpa using x1.set_ 3 (.slice none 0 0))
   replace HB : Hid (Below w.heap.size w W) := Lib.hid (by rw [<- hW]; exact (HB.out.setCell (p := ⟨bt, 2, none⟩) hbt _).setCell (p := ⟨bt, 3, none⟩) hbt _)
   rw [hW]
   clear hW x1 q0 q1 f2 f3 TS hbt
   clear k0 k1 k2 k3 k4 k5
   have hb : Below W.heap.size W W.drew := (Below.refl _ _).drew
   replace TQ := Lib.hid (TQ.out.below hb)
   replace X := Lib.hid (Blk.below X.out hb X.out.lt)
   replace HB := Lib.hid (HB.out.trans (hb.mono HB.out.size))
   clear hb
   refine region_x 5 (fun W : World => W.cell? ⟨bt, 0, none⟩ = some (.slice (some ⟨g0, 0, none⟩) m c0) /\ W.cell? ⟨bt, 1, none⟩ = some (.slice (some ⟨g1, 0, none⟩) m c1) /\ W.cell? ⟨bt, 2, none⟩ = some (.slice none 0 0) /\ W.cell? ⟨bt, 3, none⟩ = some (.slice none 0 0) /\ W.cell? ⟨bt, 4, none⟩ = some (.slice (some ⟨g4, 0, none⟩) k c4) /\ W.cell? ⟨bt, 5, none⟩ = some (.slice (some ⟨g5, 0, none⟩) k c5)) (by kernel_rfl) ?_
   generalize W.drew = V6 at *
   have hS : (fun W : World => W.cell? ⟨bt, 0, none⟩ = some (.slice (some ⟨g0, 0, none⟩) m c0) /\ W.cell? ⟨bt, 1, none⟩ = some (.slice (some ⟨g1, 0, none⟩) m c1) /\ W.cell? ⟨bt, 2, none⟩ = some (.slice none 0 0) /\ W.cell? ⟨bt, 3, none⟩ = some (.slice none 0 0) /\ W.cell? ⟨bt, 4, none⟩ = some (.slice (some ⟨g4, 0, none⟩) k c4) /\ W.cell? ⟨bt, 5, none⟩ = some (.slice (some ⟨g5, 0, none⟩) k c5)) V6 := ⟨X.out.cell 0, X.out.cell 1, X.out.cell 2, X.out.cell 3, X.out.cell 4, X.out.cell 5⟩
   obtain ⟨t, htr, htl⟩ := TQ.out.tab
   have HTR := Lib.hid htr; have HTL := Lib.hid htl
   clear htr htl TQ
   refine tkx (i := 0) (v := ?_) hS ?_ ?_
   rotate_left
   ·rintro w' ⟨s0', s1', s2', s3', s4', s5'⟩
    go_simp
    try with_reducible rfl
   try simp only [Act.put, zq1, zq2, zq3, zq4, zq5, zq6]
   refine tkx (i := 2) (v := ?_) hS ?_ ?_
   rotate_left
   ·rintro w' ⟨s0', s1', s2', s3', s4', s5'⟩
    go_simp
    try with_reducible rfl
   try simp only [Act.put, zq1, zq2, zq3, zq4, zq5, zq6]
   refine anyX_g (i := 1) (by kernel_rfl) (by decide) rfl (by rfl) ?_
   intro K hK
   try simp only [zq1, zq2, zq3]
   refine wp_enterE #[.agg #[.slice (some ⟨g0, 0, none⟩) m c0, .slice (some ⟨g1, 0, none⟩) m c1, .slice none 0 0, .slice none 0 0, .slice (some ⟨g4, 0, none⟩) k c4, .slice (some ⟨g5, 0, none⟩) k c5]] Try.func14 (by kernel_rfl) (by kernel_rfl) ?_ (tright_any HTR.out) ?_
   ·go_simp
   rintro e V7 ⟨b1, rfl, hb1, hb⟩
   replace HTR := Lib.hid (HTR.out.below hb)
   replace X := Lib.hid (Blk.below X.out hb X.out.lt)
   have H1 := Lib.hid hb1
   replace HB := Lib.hid (HB.out.trans (hb.mono HB.out.size))
   clear hb
   clear hb1 hS
   have hS : (fun W : World => W.cell? ⟨bt, 0, none⟩ = some (.slice (some ⟨g0, 0, none⟩) m c0) /\ W.cell? ⟨bt, 1, none⟩ = some (.slice (some ⟨g1, 0, none⟩) m c1) /\ W.cell? ⟨bt, 2, none⟩ = some (.slice none 0 0) /\ W.cell? ⟨bt, 3, none⟩ = some (.slice none 0 0) /\ W.cell? ⟨bt, 4, none⟩ = some (.slice (some ⟨g4, 0, none⟩) k c4) /\ W.cell? ⟨bt, 5, none⟩ = some (.slice (some ⟨g5, 0, none⟩) k c5)) V7 := ⟨X.out.cell 0, X.out.cell 1, X.out.cell 2, X.out.cell 3, X.out.cell 4, X.out.cell 5⟩
   refine ⟨_, rfl, ?_⟩
   refine hK _ _ hS ?_
   clear hK
   try simp only [Act.put, zq1, zq2, zq3, zq4, zq5, zq6]
   refine anyX_g (i := 3) (by kernel_rfl) (by decide) rfl (by rfl) ?_
   intro K hK
   try simp only [zq1, zq2, zq3]
   refine wp_enterE #[.agg #[.slice (some ⟨g0, 0, none⟩) m c0, .slice (some ⟨g1, 0, none⟩) m c1, .slice none 0 0, .slice none 0 0, .slice (some ⟨g4, 0, none⟩) k c4, .slice (some ⟨g5, 0, none⟩) k c5]] Try.func22 (by kernel_rfl) (by kernel_rfl) ?_ (rright_any HTR.out HTL.out) ?_
   ·go_simp
   intro e V8 hro
   unfold RrO at hro
   obtain ⟨b2, rfl, hb2, hb⟩ := hro
   replace X := Lib.hid (Blk.below X.out hb X.out.lt)
   have hbb : b2 = b1 := Bool.eq_iff_iff.2 (hb2.trans H1.out.symm)
   subst hbb
   replace HB := Lib.hid (HB.out.trans (hb.mono HB.out.size))
   clear hb
   clear hb2 hS
   have hS : (fun W : World => W.cell? ⟨bt, 0, none⟩ = some (.slice (some ⟨g0, 0, none⟩) m c0) /\ W.cell? ⟨bt, 1, none⟩ = some (.slice (some ⟨g1, 0, none⟩) m c1) /\ W.cell? ⟨bt, 2, none⟩ = some (.slice none 0 0) /\ W.cell? ⟨bt, 3, none⟩ = some (.slice none 0 0) /\ W.cell? ⟨bt, 4, none⟩ = some (.slice (some ⟨g4, 0, none⟩) k c4) /\ W.cell? ⟨bt, 5, none⟩ = some (.slice (some ⟨g5, 0, none⟩) k c5)) V8 := ⟨X.out.cell 0, X.out.cell 1, X.out.cell 2, X.out.cell 3, X.out.cell 4, X.out.cell 5⟩
   refine ⟨_, rfl, ?_⟩
   refine hK _ _ hS ?_
   clear hK
   try simp only [Act.put, zq1, zq2, zq3, zq4, zq5, zq6]
   have hxx : (b2 == b2) = true := by cases b2 <;> rfl
   refine tkx (i := 4) (v := ?_) hS ?_ ?_
   rotate_left
   ·rintro w' ⟨s0', s1', s2', s3', s4', s5'⟩
    go_simp
    try with_reducible rfl
   try simp only [Act.put, zq1, zq2, zq3, zq4, zq5, zq6]
   clear hS
   refine anyX_last (by kernel_rfl) (by kernel_rfl) rfl rfl ?_
   try simp only [zq1, zq2, zq3]
   go_simp
   try apply_assumption
   go_wp2_with fail
   go_ret
   exact ⟨by cases b2 <;> rfl, HB.out⟩
end Go.Proofs.Ytjkcglgkdclidaa
