/- New, its row in a block of its own; a table's rows of costs, in blocks below a bound. -/
import Derived.Test.YtacgakkcpmhgmaaVSegW
import Derived.Test.YtacgakkcpmhgmaaVTableO
import Derived.Test.YtacgakkcpmhgmaaVTableTw
set_option linter.unusedVariables false
set_option linter.unusedSimpArgs false
set_option maxRecDepth 100000
set_option maxHeartbeats 4000000
namespace Go.Proofs.Ytacgakkcpmhgmaa
open Go Go.RowKit Go.Proofs
def NewF (w : World) (l : List V3) (e : Ending) (w' : World) : Prop := ∃ b A cap, e = .returned (.pointer (some ⟨b, 0, none⟩)) /\ CurS w' b A cap l 0 /\ w.heap.size <= b /\ (∀ p, A = some p -> w.heap.size <= p.block) /\ Below w.heap.size w w'
theorem snew_fresh {w : World} {vc vl vbn vbo vfn vfe : Value} {t : Tab} (ht : TabR w vc vl vbn vbo vfn vfe t) (s : ByteArray) :
  Calls Try.prog 23 #[tabV vc vl vbn vbo vfn vfe, .string s] w (NewF w (segR t s).1) := by
  obtain ⟨A0, k0, e0, p0, q0, -⟩ := ht.c.form
  obtain ⟨A1, k1, e1, p1, q1, -⟩ := ht.l.form
  obtain ⟨n2, A2, k2, e2, p2, q2⟩ : ∃ n A k, vbn = .slice A n k /\ n <= k /\ k <= 9223372036854775807 := by obtain ⟨A, k, h⟩ := ht.bn.form; exact ⟨_, A, k, h⟩
  obtain ⟨n3, A3, k3, e3, p3, q3⟩ : ∃ n A k, vbo = .slice A n k /\ n <= k /\ k <= 9223372036854775807 := by obtain ⟨A, k, h1, h2, h3, -⟩ := ht.bo.form; exact ⟨_, A, k, h1, h2, h3⟩
  obtain ⟨n4, A4, k4, e4, p4, q4⟩ : ∃ n A k, vfn = .slice A n k /\ n <= k /\ k <= 9223372036854775807 := by obtain ⟨A, k, h⟩ := ht.fn.form; exact ⟨_, A, k, h⟩
  obtain ⟨n5, A5, k5, e5, p5, q5⟩ : ∃ n A k, vfe = .slice A n k /\ n <= k /\ k <= 9223372036854775807 := by obtain ⟨A, k, h⟩ := ht.fe.form; exact ⟨_, A, k, h⟩
  obtain ⟨n0, hn0⟩ : ∃ n, t.cuts.length = n := ⟨_, rfl⟩
  obtain ⟨n1, hn1⟩ : ∃ n, t.letters.length = n := ⟨_, rfl⟩
  rw [hn0] at e0; rw [hn1] at e1
  subst e0 e1 e2 e3 e4 e5
  obtain ⟨B, hB⟩ : ∃ B, w.heap.size = B := ⟨_, rfl⟩
  obtain ⟨W0, hW0⟩ : ∃ W, w.alloc (.cells #[.slice A0 n0 k0, .slice A1 n1 k1, .slice A2 n2 k2, .slice A3 n3 k3, .slice A4 n4 k4, .slice A5 n5 k5] 32) = W := ⟨_, rfl⟩
  have hx0 : Blk W0 B 32 #[.slice A0 n0 k0, .slice A1 n1 k1, .slice A2 n2 k2, .slice A3 n3 k3, .slice A4 n4 k4, .slice A5 n5 k5] := by rw [<- hW0]; exact sblk_new _ hB _ _
  have hb0 : Below w.heap.size w W0 := by rw [<- hW0]; exact (Below.refl _ _).alloc (Nat.le_refl _) _
  have hcall := segment_any (ht.below hb0) s
  obtain ⟨⟨L, er⟩, hL⟩ : ∃ r, segR t s = r := ⟨_, rfl⟩
  rw [hL] at hcall ⊢
  unfold tabV at hcall
  have HW0 := Lib.hid hW0; have HX0 := Lib.hid hx0; have HB0 := Lib.hid hb0; have HB := Lib.hid hB; have HCALL := Lib.hid hcall
  clear ht hW0 hx0 hb0 hB hcall hn0 hn1 hL
  go_enter Try.func23, Try.ntmps23
  unfold tabV
  go_wp2_with fail
  rw [HW0.out]
  simp only [HB.out]
  have c0 := HX0.out.cell 0; have c1 := HX0.out.cell 1; have c2 := HX0.out.cell 2; have c3 := HX0.out.cell 3; have c4 := HX0.out.cell 4; have c5 := HX0.out.cell 5
  simp only [List.getElem?_toArray, List.getElem?_cons_zero, List.getElem?_cons_succ] at c0 c1 c2 c3 c4 c5
  go_wp2_with fail
  refine HCALL.out.mono ?_
  rintro e w1 ⟨v, rfl, ⟨A, cap, rfl, hr, hf⟩, hb1⟩
  dsimp only at hr ⊢
  obtain ⟨n, hn⟩ : ∃ n, L.length = n := ⟨_, rfl⟩
  have hbw1 : Below w.heap.size w w1 := HB0.out.trans (hb1.mono HB0.out.size)
  have hf1 : ∀ p, A = some p -> p.block ≠ w1.heap.size := fun p hp e => by
   have := (hf p hp).2
   omega
  have HR := Lib.hid hr; have HN := Lib.hid hn; have HBW := Lib.hid hbw1; have HF := Lib.hid hf1; have HFA := Lib.hid (fun p (hp : A = some p) => Nat.le_trans HB0.out.size (hf p hp).1)
  rw [hn]
  clear hr hn hf hb1 hbw1 hf1 c0 c1 c2 c3 c4 c5
  go_wp2_with fail
  go_ret
  refine ⟨w1.heap.size, A, cap, rfl, ⟨?_, HR.out.alloc _, HF.out⟩, HBW.out.size, HFA.out, HBW.out.alloc HBW.out.size _⟩
  rw [HN.out]
  exact Blk.new _ _ _
structure EmS (W : World) (Z B : Nat) (v : Value) (k : Nat) (vals : List Value) : Prop where
 own : W.ownsRow B 36 1 v k vals
 row : ∀ i, i < k -> ∃ m, 2 <= m /\ m <= 1000 /\ OwnI 51 3 W B (vals.getD i undef) m /\ ∀ z, (vals.getD i undef).ownBlock = some z -> z < Z
theorem EmS.of {W : World} {B k : Nat} {v : Value} (h : OwnR 36 51 3 2 W B v k) : ∃ vals, EmS W W.heap.size B v k vals := by
 obtain ⟨vals, h1, h2⟩ := h
 refine ⟨vals, h1, fun i hi => ?_⟩
 obtain ⟨m, a, b, c⟩ := h2 i hi
 refine ⟨m, a, b, c, fun z hz => ?_⟩
 obtain ⟨xs, h3, -⟩ := c
 exact (h3.lt z hz).2
theorem EmS.below {W W' : World} {Z B k : Nat} {v : Value} {vals : List Value} (h : EmS W Z B v k vals) (hb : Below W.heap.size W W') : EmS W' Z B v k vals :=
 ⟨own_below' h.own hb, fun i hi => (h.row i hi).imp fun m a => ⟨a.1, a.2.1, a.2.2.1.below hb, a.2.2.2⟩⟩
theorem EmS.turn {W W' : World} {Z B k g : Nat} {v : Value} {vals : List Value} (h : EmS W Z B v k vals) (ht : Turn W W' g 51) : EmS W' Z B v k vals := by
 refine ⟨⟨h.own.1, ?_⟩, fun i hi => (h.row i hi).imp fun m a => ⟨a.1, a.2.1, a.2.2.1.turn ht, a.2.2.2⟩⟩
 rcases h.own.2 with h2 | ⟨g0, cap, cur, e, h0, hh, r⟩
 ·exact .inl h2
 ·refine .inr ⟨g0, cap, cur, e, h0, (ht.far _ (heap_lt hh) fun eg => ?_).trans hh, r⟩
  subst eg
  obtain ⟨cs, _, hc, -⟩ := ht.at_
  rw [hh] at hc
  simp at hc
theorem EmS.at_ {W : World} {Z B k : Nat} {v : Value} {vals : List Value} (h : EmS W Z B v k vals) {i : Nat} (hi : i < k) : ∃ g cap m g2 cap2, v = .slice (some ⟨g, 0, none⟩) k cap /\ k <= cap /\ cap <= 9223372036854775807 /\ vals.getD i undef = .slice (some ⟨g2, 0, none⟩) m cap2 /\ m <= cap2 /\ cap2 <= 9223372036854775807 /\ W.cell? ⟨g, i, none⟩ = some (.slice (some ⟨g2, 0, none⟩) m cap2) /\ 2 <= m /\ m <= 1000 /\ B <= g2 /\ g2 < Z /\ ∀ o, o < 3 -> (∃ x, W.cell? ⟨g2, o, none⟩ = some (.int .i64 x)) /\ W.frozen? ⟨g2, o, none⟩ = false /\ ∀ y, Turn W (W.setCell ⟨g2, o, none⟩ (.int .i64 y)) g2 51 := by
 obtain ⟨m, m2, m9, hin, hz⟩ := h.row i hi
 have hR : OwnR 36 51 3 2 W B v k := ⟨vals, h.own, fun j hj => (h.row j hj).imp fun m a => ⟨a.1, a.2.1, a.2.2.1⟩⟩
 have hl : i < vals.length := by rw [h.own.1]; omega
 rcases h.own.2 with ⟨rfl, rfl⟩ | ⟨g0, cap, cur, rfl, h0, hh, r1, r2, r3, r4⟩
 ·omega
 ·have e1 : (cur.toList.take (k * 1))[i]? = some vals[i] := by rw [r4]; exact List.getElem?_eq_getElem hl
  rw [List.getElem?_take, if_pos (by omega)] at e1
  have e2 : cur[i]? = some vals[i] := by simpa using e1
  have e3 : vals.getD i undef = vals[i] := by rw [List.getD_eq_getElem?_getD, List.getElem?_eq_getElem hl]; rfl
  obtain ⟨g2, cap2, x, hv, c1, c2, c3, -, -, -, -⟩ := hin.at_ (o := 0) (by omega)
  refine ⟨g0, cap, m, g2, cap2, rfl, r1, by unfold maxLen at r2; exact r2, hv, c1, c2, ?_, m2, m9, c3, hz g2 (by rw [hv]; rfl), fun o ho => ?_⟩
  ·rw [cell_of_row W g0 i cur _ (0, 0) hh, e2, <- e3, hv]
  ·obtain ⟨g3, cap3, y, hv3, -, -, -, -, q1, q2, q3⟩ := hin.at_ (o := o) (by omega)
   rw [hv] at hv3
   simp only [Value.slice.injEq, Option.some.injEq, Addr.mk.injEq, and_true] at hv3
   obtain ⟨rfl, -, rfl⟩ := hv3
   exact ⟨⟨y, q1⟩, q2, q3⟩
end Go.Proofs.Ytacgakkcpmhgmaa
