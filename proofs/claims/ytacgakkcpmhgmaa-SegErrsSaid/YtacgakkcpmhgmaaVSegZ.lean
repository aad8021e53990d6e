/- Laws of chapter 13: a table whose letters were turned; bytes that are nothing. -/
import Derived.Test.YtacgakkcpmhgmaaVSegY
set_option linter.unusedVariables false
set_option linter.unusedSimpArgs false
set_option maxRecDepth 100000
namespace Go.Proofs.Ytacgakkcpmhgmaa
open Go Go.RowKit Go.Proofs
theorem wp_pushI {w : World} {o : Oper} {a : Act} {K : Act -> World -> Prop} {Q : Exit -> Act -> World -> Prop} (s x : Operand)
  (ho : o.op = .call { callee := .builtin .append, args := #[s, x], argTypes := #[22, 22] })
  (B : Nat) (v : Value) (n : Nat) (hs : a.eval s = v) (hown : OwnI 3 1 w B v n) (hn : 1 <= n) (hn9 : n <= 1000000) (H : Nat) (y : Int) (hx : a.eval x = .slice (some ⟨H, 0, none⟩) 1 1) (hc : w.heap[H]? = some (.cells #[.int .i64 y] 3 (0, 0))) (hB : B <= w.heap.size)
  (h : ∀ g cap w', OwnI 3 1 w' B (.slice (some ⟨g, 0, none⟩) (n + 1) cap) (n + 1) -> (Below w.heap.size w w' \/ ∃ g0, Turn w w' g0 3) -> Below B w w' -> K (a.put o.dst (.slice (some ⟨g, 0, none⟩) (n + 1) cap)) w') : Oper.wp Try.prog o a w K Q := by
  obtain ⟨g, cap, w', hr, h2, h3, h4⟩ := run_pushI o.type hown hn hn9 hc hB
  unfold Oper.wp execOp
  simp only [ho, resolve, invoke, builtin, Sem.run_bind, Sem.run_pure, Result.andThen_ok, List.map_toArray, List.map_cons, List.map_nil, hs, hx, hr]
  exact h g cap w' h2 h3 h4
theorem wpList_pushI {w : World} {ops : Array Oper} {rest : List Oper} {o : Oper} {a : Act} {Q : Exit -> Act -> World -> Prop} (hgd : o.guard = none) (s x : Operand)
  (ho : o.op = .call { callee := .builtin .append, args := #[s, x], argTypes := #[22, 22] })
  (B : Nat) (v : Value) (n : Nat) (hs : a.eval s = v) (hown : OwnI 3 1 w B v n) (hn : 1 <= n) (hn9 : n <= 1000000) (H : Nat) (y : Int) (hx : a.eval x = .slice (some ⟨H, 0, none⟩) 1 1) (hc : w.heap[H]? = some (.cells #[.int .i64 y] 3 (0, 0))) (hB : B <= w.heap.size)
  (h : ∀ g cap w', OwnI 3 1 w' B (.slice (some ⟨g, 0, none⟩) (n + 1) cap) (n + 1) -> (Below w.heap.size w w' \/ ∃ g0, Turn w w' g0 3) -> Below B w w' -> wpList Try.prog ops Q rest (a.put o.dst (.slice (some ⟨g, 0, none⟩) (n + 1) cap)) w') : wpList Try.prog ops Q (o :: rest) a w := by
  refine wpList_plain hgd fun K hK => ?_
  exact wp_pushI s x ho B v n hs hown hn hn9 H y hx hc hB (fun g cap w' h2 h3 h4 => hK _ _ (h g cap w' h2 h3 h4))
theorem OwnI.len {e : TypeId} {k n n' cap B : Nat} {W : World} {a : Option Addr} (h : OwnI e k W B (.slice a n' cap) n) : n' = n := by
 obtain ⟨xs, h1, -⟩ := h
 rcases h1.2 with ⟨e, rfl⟩ | ⟨g, cap', cur, e, -⟩
 ·simp only [Value.slice.injEq] at e; exact e.2.1
 ·simp only [Value.slice.injEq] at e; exact e.2.1
theorem own_far {W : World} {e t : TypeId} {k n B b : Nat} {v : Value} {cs : Array Value} (h : OwnI e k W B v n) (hx : Blk W b t cs) (ht : t ≠ e) : v.ownBlock ≠ some b := fun hq => by
 obtain ⟨xs, h1, -⟩ := h
 exact blk_ne hx h1 ht hq
theorem blk_put {W : World} {b g o : Nat} {t e : TypeId} {cs cs' : Array Value} {u : Value} (hx : Blk W b t cs) (hg : Blk W g e cs') (ht : t ≠ e) : Blk (W.setCell ⟨g, o, none⟩ u) b t cs :=
 hx.far (p := ⟨g, o, none⟩) (fun e2 => by
  have e3 : b = g := e2
  subst e3
  have := hx.symm.trans hg
  simp only [Option.some.injEq, Obj.cells.injEq] at this
  exact ht this.2.1) _
theorem Turn.box {W W' : World} {g b : Nat} {e t : TypeId} {cs : Array Value} (h : Turn W W' g e) (hx : Blk W b t cs) (ht : t ≠ e) : Blk W' b t cs := by
 by_cases hg : b = g
 ·subst hg
  obtain ⟨c1, c2, q1, -⟩ := h.at_
  have := hx.symm.trans q1
  simp only [Option.some.injEq, Obj.cells.injEq] at this
  exact absurd this.2.1 ht
 ·exact (h.far _ hx.lt hg).trans hx
theorem chg_box {W W' : World} {b : Nat} {t : TypeId} {cs : Array Value} (h : Below W.heap.size W W' \/ ∃ g0, Turn W W' g0 3) (hx : Blk W b t cs) (ht : t ≠ 3) : Blk W' b t cs := by
 rcases h with h | ⟨g, h⟩
 ·exact Blk.below hx h hx.lt
 ·exact h.box hx ht
theorem chg_tab {W W' : World} {v0 v1 v2 v3 v4 v5 : Value} (h : Below W.heap.size W W' \/ ∃ g0, Turn W W' g0 3) (hq : TabQ W v0 v1 v2 v3 v4 v5) : TabQ W' v0 v1 v2 v3 v4 v5 := by
 rcases h with h | ⟨g, h⟩
 ·exact hq.below h
 ·exact hq.turn h (by decide) (by decide)
theorem chg_own {W W' : World} {e : TypeId} {k n B : Nat} {v : Value} (h : Below W.heap.size W W' \/ ∃ g0, Turn W W' g0 3) (hq : OwnI e k W B v n) : OwnI e k W' B v n := by
 rcases h with h | ⟨g, h⟩
 ·exact hq.below h
 ·exact hq.turn h
theorem TabQ.box {W : World} {b i : Nat} {cs : Array Value} {v0 v1 v2 v3 v4 v5 u : Value} (h : TabQ W v0 v1 v2 v3 v4 v5) (hx : Blk W b 32 cs) : TabQ (W.setCell ⟨b, i, none⟩ u) v0 v1 v2 v3 v4 v5 :=
 h.aside (aside_set hx u) (by decide) (by decide) (by decide) (by decide)
theorem FlatS.one {e : TypeId} {W : World} {g n cap : Nat} (h : FlatS e 3 W (.slice (some ⟨g, 0, none⟩) n cap) n) (hn : 1 <= n) : FlatS e 3 W (.slice (some ⟨g, 0, none⟩) 1 cap) 1 := by
 rcases h with ⟨h, -⟩ | ⟨g0, off, cap0, cs, hv, h1, h2, h3, h4⟩
 ·cases h
 ·simp only [Value.slice.injEq, Option.some.injEq, Addr.mk.injEq, and_true, true_and] at hv
  obtain ⟨⟨rfl, rfl⟩, rfl⟩ := hv
  exact .inr ⟨g, 0, cap, cs, rfl, by omega, h2, h3, fun o ho => h4 o (by omega)⟩
theorem FlatS.rest {e : TypeId} {W : World} {g n cap : Nat} (h : FlatS e 1 W (.slice (some ⟨g, 0, none⟩) n cap) n) (hn : 1 <= n) : FlatS e 1 W (.slice (some ⟨g, 1, none⟩) (n - 1) (cap - 1)) (n - 1) := by
 rcases h with ⟨h, -⟩ | ⟨g0, off, cap0, cs, hv, h1, h2, h3, h4⟩
 ·cases h
 ·simp only [Value.slice.injEq, Option.some.injEq, Addr.mk.injEq, and_true, true_and] at hv
  obtain ⟨⟨rfl, rfl⟩, rfl⟩ := hv
  exact .inr ⟨g, 1, cap - 1, cs, rfl, by omega, by omega, h3, fun o ho => by
   have := h4 (o + 1) (by omega)
   rwa [show 0 + (o + 1) = 1 + o by omega] at this⟩
theorem FlatS.none0 {e : TypeId} {W : World} {g cap : Nat} (h : FlatS e 1 W (.slice (some ⟨g, 0, none⟩) 1 cap) 1) : FlatS e 1 W (.slice (some ⟨g, 0, none⟩) 0 0) 0 := by
 rcases h with ⟨h, -⟩ | ⟨g0, off, cap0, cs, hv, h1, h2, h3, h4⟩
 ·cases h
 ·simp only [Value.slice.injEq, Option.some.injEq, Addr.mk.injEq, and_true, true_and] at hv
  obtain ⟨⟨rfl, rfl⟩, rfl⟩ := hv
  exact .inr ⟨g, 0, 0, cs, rfl, Nat.le_refl _, Nat.zero_le _, h3, fun o ho => by omega⟩
theorem mkU_big (N : Nat) (hN : N <= 1000000) (W : World) : (Instr.makeSlice 23 (.int .i64 (N : Int)) (.int .i64 (N : Int))).run Try.prog W = .ok (.slice (some ⟨W.heap.size, 0, none⟩) N N) (W.alloc (.cells (repA N (.int .u8 0)) 5)) := by
 obtain ⟨i0, hi, hz0, hz1, hz2⟩ := info_parts info_byte
 have h := run_make (P := Try.prog) W 23 5 i0 _ Try.underlying23 hi hz0 .i64 .i64 N N (by omega) (Int.le_refl _) (by rw [hz2]; omega) (by omega)
 rw [h]
 simp only [Int.toNat_natCast, hz1, Nat.mul_one]
 congr 4
 unfold repA
 apply Array.ext
 ·simp [size_madeCells]
 ·intro i h1 h2
  simp [madeCells, Value.cells, Nat.mod_one]
theorem conv_zeros {w W : World} {g N : Nat} (h : Blk w g 5 (repA N (.int .u8 0))) (hb : Below w.heap.size w W) :
  (convert 23 9 (.slice (some ⟨g, 0, none⟩) N N)).run Try.prog W = .ok (.string (strOfNums (List.replicate N 0))) W := by
  refine run_convert_bytes_arg W 23 5 Try.underlying23 Try.underlying5 g 0 N N (List.replicate N 0) (by simp) (fun i hi => ?_) _ Try.underlying9
  have h2 := (Blk.below h hb h.lt).cell i
  rw [Nat.zero_add, h2]
  simp [repA, List.getD_eq_getElem?_getD, hi]
theorem nx_zero (l : List UInt8) : nx ((0 : UInt8) :: l) = (0, 1) := by
 have h0 : bt ((0 : UInt8) :: l) 0 = 0 := rfl
 rcases nx_cases ((0 : UInt8) :: l) with ⟨h, e⟩ | ⟨h, e⟩ | ⟨h, _, _, e⟩ | ⟨h, _, hs, e⟩ | ⟨h, _, hs, _, e⟩ | ⟨h, _, hs, _, e⟩ | ⟨h, _, hs, _, _, e⟩ | ⟨h, _, hs, _, _, e⟩ <;> rw [h0] at h <;> first | (exfalso; omega) | (rw [e, h0])
theorem scs_cons0 (l : List UInt8) : scs ((0 : UInt8) :: l) = 0 :: scs l := by
 rw [scs_cons _ (List.cons_ne_nil _ _), nx_zero]
 rfl
theorem scs_zeros (N : Nat) : scs (List.replicate N (0 : UInt8)) = List.replicate N (0 : Int) := by
 induction N with
 | zero => rfl
 | succ N ih =>
   have e1 : List.replicate (N + 1) (0 : UInt8) = 0 :: List.replicate N 0 := List.replicate_succ
   have e2 : List.replicate (N + 1) (0 : Int) = 0 :: List.replicate N 0 := List.replicate_succ
   rw [e1, e2, scs_cons0, ih]
theorem segT_zeros (t : Tab) (N : Nat) : (segT t (strOfNums (List.replicate N 0))).length = N + 1 := by
 refine segT_size ?_
 have e : (strOfNums (List.replicate N 0)).data.toList = List.replicate N 0 := by
  simp [strOfNums, List.map_replicate]
 rw [e, scs_zeros, List.length_replicate]
theorem rnone_any (w : World) : Calls Try.prog 28 #[] w fun e w' => e = .returned (vcV noneV) /\ Below w.heap.size w w' := by
 go_enter Try.func28, Try.ntmps28
 go_wp2_with fail
 refine bodyPost_ret (v := vcV noneV) (by simp [results, Try.results28, go_sem, vcV, noneV]) rfl ?_
 exact ⟨rfl, (Below.refl _ _).alloc (Nat.le_refl _) _⟩
theorem segR_three (t : Tab) (s : ByteArray) : (RightT t /\ s.size <= 4000 /\ segR t s = (segT t s, 0)) \/ (RightT t /\ ¬ s.size <= 4000 /\ segR t s = ([], 6)) \/ (¬ RightT t /\ segR t s = ([], 5)) := by
 by_cases h : RightT t
 ·by_cases hs : s.size <= 4000
  ·exact .inl ⟨h, hs, segT_ok h hs⟩
  ·exact .inr (.inl ⟨h, hs, segR_long h hs⟩)
 ·exact .inr (.inr ⟨h, segR_bad h⟩)
end Go.Proofs.Ytacgakkcpmhgmaa
