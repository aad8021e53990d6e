/- The chapters' own runs. -/
import Derived.Test.YtdcokkgdahbinaaVMiniMg
set_option linter.unusedVariables false
set_option linter.unusedSimpArgs false
set_option maxRecDepth 100000
set_option maxHeartbeats 8000000
namespace Go.Proofs.Ytdcokkgdahbinaa
open Go Go.RowKit Go.Proofs
def backS (T : List (List Nat)) (t : List Nat) (i : Nat) : Nat := runN T 0 (t.drop i).reverse
theorem runN_snoc (T : List (List Nat)) : ∀ (l : List Nat) (s a : Nat), runN T s (l ++ [a]) = trN T (runN T s l) a
 | [], s, a => rfl
 | b :: l, s, a => by
   show runN T (trN T s b) (l ++ [a]) = _
   rw [runN_snoc T l]; rfl
theorem backS_end (T : List (List Nat)) {t : List Nat} {m : Nat} (h : t.length = m) : backS T t m = 0 := by
 unfold backS
 rw [List.drop_of_length_le (by omega)]; rfl
theorem backS_step (T : List (List Nat)) {t : List Nat} {j : Nat} (h : j < t.length) : backS T t j = trN T (backS T t (j + 1)) (t.getD j 0) := by
 unfold backS
 rw [List.drop_eq_getElem_cons h, List.reverse_cons, runN_snoc]
 simp [List.getD, List.getElem?_eq_getElem h]
theorem backS_lt {T : List (List Nat)} {k : Nat} (hT : RectN T k) {t : List Nat} (ht : ∀ a ∈ t, a < k) (j : Nat) : backS T t j < T.length :=
 runN_lt hT _ 0 hT.pos (fun a ha => ht a (List.mem_of_mem_drop (List.mem_reverse.1 ha)))
def brunL (T : List (List Nat)) (O t : List Nat) : List Int := rowZ (t.length + 1) fun x => ((O.getD (backS T t x) 0 : Nat) : Int)
theorem brun_any {w : World} {NA OA TA : Option Addr} {nc oc tc n k m : Nat} {T : List (List Nat)} {O t : List Nat} (h : NextR w (.slice NA n nc) T) (hl : T.length = n) (hT : RectN T k) (ho : ReadsI w (.slice OA n oc) n (intsN O)) (ht : ReadsI w (.slice TA m tc) m (intsN t)) (htk : ∀ a ∈ t, a < k) (hm : m <= 500) :
  Calls Try.prog 25 #[.agg #[.slice NA n nc, .slice OA n oc], .slice TA m tc] w fun e w' => ∃ g, e = .returned (sl g (m + 1) (m + 1)) /\ Own w' w.heap.size (sl g (m + 1) (m + 1)) (m + 1) (brunL T O t) /\ Below w.heap.size w w' := by
  have htl : t.length = m := by have := ht.1; simpa [intsN] using this
  have hpos : 0 < n := by have := hT.pos; omega
  obtain ⟨a1, c1', e1, q1, q2⟩ := h.form
  rw [hl] at q1
  simp only [Value.slice.injEq] at e1
  obtain ⟨rfl, -, rfl⟩ := e1
  obtain ⟨a1, c1', e1, q3, q4, -⟩ := ho.form
  obtain ⟨a2, c2', e2, q5, q6, -⟩ := ht.form
  simp only [Value.slice.injEq, true_and] at e1 e2
  obtain ⟨rfl, rfl⟩ := e1
  obtain ⟨rfl, rfl⟩ := e2
  obtain ⟨W0, hW0⟩ : ∃ W, w.alloc (.cells #[.slice NA n nc, .slice OA n oc] 26) = W := ⟨_, rfl⟩
  have hb0 : Below w.heap.size w W0 := by rw [<- hW0]; exact (Below.refl _ _).alloc (Nat.le_refl _) _
  have hx2 : Blk W0 w.heap.size 26 #[.slice NA n nc, .slice OA n oc] := by rw [<- hW0]; exact Blk.new _ _ _
  obtain ⟨b2, hb2⟩ : ∃ b, b = w.heap.size := ⟨_, rfl⟩
  obtain ⟨W1, hW1⟩ : ∃ W, W0.alloc (.cells (repA (m + 1) (.int .i64 0)) 3) = W := ⟨_, rfl⟩
  have hb1 : Below W0.heap.size W0 W1 := by rw [<- hW1]; exact (Below.refl _ _).alloc (Nat.le_refl _) _
  have ho1 := own_mk (m + 1) (by omega) W0
  rw [hW1] at ho1
  have hmk := mkI_any (m + 1) (by omega) W0
  rw [hW1] at hmk
  simp only [Int.natCast_add, Int.natCast_one] at hmk
  obtain ⟨g, hg⟩ : ∃ g, g = W0.heap.size := ⟨_, rfl⟩
  rw [<- hg] at ho1 hmk hb1
  rw [<- hb2] at hx2
  have hbg : b2 < g := by rw [hg]; exact hx2.lt
  have hwg : w.heap.size <= g := by omega
  obtain ⟨go, oo, eo, -, co⟩ := (ho.below hb0).at 0 hpos
  subst eo
  rw [intsN_at, Nat.add_zero] at co
  have H1 := Lib.hid (h.below hb0); have H2 := Lib.hid (ho.below hb0); have H3 := Lib.hid (ht.below hb0); have HL := Lib.hid hl; have HT := Lib.hid hT; have HTK := Lib.hid htk; have HTL := Lib.hid htl; have HW0 := Lib.hid hW0; have HB0 := Lib.hid hb0; have X2 := Lib.hid hx2; have HB2 := Lib.hid hb2; have HB1 := Lib.hid hb1; have HG := Lib.hid hg; have HO1 := Lib.hid ho1; have HW1 := Lib.hid hW1
  have hx21 := Blk.below hx2 hb1 hbg
  have c20 := hx21.cell 0; have c21 := hx21.cell 1
  simp only [List.getElem?_toArray, List.getElem?_cons_zero, List.getElem?_cons_succ] at c20 c21
  have co1 := bel_m (by rw [<- hg]; exact hb1) co
  have kf := World.ownsRow.frozenAt ho1 m
  obtain ⟨kv, kc⟩ : ∃ x, W1.cell? ⟨g, m, none⟩ = some x := ⟨_, (World.ownsRow.cellAt ho1 m (by omega)).trans (List.getElem?_eq_getElem (by simp [rowN]))⟩
  have m0 : (0 : Int) <= (m : Int) := Int.natCast_nonneg _
  have m1 : (m : Int) < (m : Int) + 1 := by omega
  have hn1 : (0 : Int) < (n : Int) := by omega
  clear h ho ht hl hT htk htl hb0 hx2 hb2 hb1 ho1 hg hx21 co
  rw [<- hW0] at hmk
  rw [HB2.out] at c20 c21
  clear hW0 hW1
  obtain ⟨y0, hy0⟩ : ∃ y0 : Int, ((O.getD 0 0 : Nat) : Int) = y0 := ⟨_, rfl⟩
  rw [hy0] at co1
  have HY0 := Lib.hid hy0
  clear hy0
  go_enter Try.func25, Try.ntmps25
  go_wp2_with fail
  rw [<- HB2.out]
  clear c20 c21 co1 kf kc hmk
  obtain ⟨V1, hV1⟩ : ∃ V, W1.setCell ⟨g, m, none⟩ (.int .i64 y0) = V := ⟨_, rfl⟩
  have hf1 : Fr (fun q => q = g) W1 V1 := by rw [<- hV1]; exact (Fr.refl (fun q => q = g) W1).set_ (p := ⟨g, m, none⟩) (.inl rfl) _
  have hbv : Below g W0 V1 := HB1.out.trans (hf1.below (by have := HG.out; have := HB1.out.size; omega) (fun q hq e => by omega))
  have hst : Own V1 g (sl g (m + 1) (m + 1)) (m + 1) (rowZ (m + 1) fun x => if m <= x then ((O.getD (backS T t x) 0 : Nat) : Int) else 0) := by
   have h := (HO1.out.stored m y0).1
   rw [hV1] at h
   have e : (rowN (m + 1) fun _ => 0).set m y0 = rowZ (m + 1) fun x => if m <= x then ((O.getD (backS T t x) 0 : Nat) : Int) else 0 := by
    have e0 : (rowN (m + 1) fun _ => 0) = rowZ (m + 1) fun _ => 0 := rfl
    rw [e0, rowZ_set]
    refine rowZ_eq fun x hx => ?_
    by_cases q : x = m
    ·subst q
     rw [if_pos rfl, if_pos (Nat.le_refl _), backS_end T HTL.out, HY0.out]
    ·rw [if_neg q, if_neg (by omega)]
   rw [e] at h
   exact h
  have HST := Lib.hid hst; have HBV := Lib.hid hbv
  rw [hV1]
  clear hV1 hf1 hbv hst
  go_loopw [6, 7] (fun v6 v7 wr => ∃ (j : Nat) (z : Int), v7 = .int .i64 z /\ z + 1 = (j : Int) /\ j <= m /\ v6 = .int .i64 ((backS T t j : Nat) : Int) /\ Hid (Own wr g (sl g (m + 1) (m + 1)) (m + 1) (rowZ (m + 1) fun x => if j <= x then ((O.getD (backS T t x) 0 : Nat) : Int) else 0)) /\ Hid (Below g W0 wr)) (fun _ v7 _ => (intOf v7 + 1).toNat)
  case atStart => exact ⟨m, _, rfl, by omega, Nat.le_refl _, by rw [backS_end T HTL.out]; rfl, HST, HBV⟩
  case round =>
   clear HST HBV
   obtain ⟨j, z, rfl, hz, hj, rfl, HO, HB⟩ := hrel
   rcases Nat.eq_zero_or_pos j with h0 | h0
   ·obtain rfl : z = -1 := by omega
    have HO' : Hid (Own wr g (sl g (m + 1) (m + 1)) (m + 1) (brunL T O t)) := Lib.hid (by
     have e : (rowZ (m + 1) fun x => if j <= x then ((O.getD (backS T t x) 0 : Nat) : Int) else 0) = brunL T O t := by
      unfold brunL
      rw [HTL.out]
      exact rowZ_eq fun x hx => by rw [if_pos (by omega)]
     have := HO.out
     rw [e] at this
     exact this)
    clear hz h0
    go_wp2_with fail
    go_ret
    exact ⟨g, rfl, HO'.out.more hwg, HB0.out.trans (HB.out.mono hwg)⟩
   ·obtain ⟨i, rfl⟩ : ∃ i, j = i + 1 := ⟨j - 1, by omega⟩
    obtain rfl : z = (i : Int) := by omega
    have i0 : (0 : Int) <= (i : Int) := Int.natCast_nonneg _
    have i1 : (i : Int) < (m : Int) := by omega
    have hbw : Below W0.heap.size W0 wr := by rw [<- HG.out]; exact HB.out
    have hx := Blk.below X2.out hbw X2.out.lt
    have c20 := hx.cell 0; have c21 := hx.cell 1
    simp only [List.getElem?_toArray, List.getElem?_cons_zero, List.getElem?_cons_succ] at c20 c21
    have hsl := backS_lt HT.out HTK.out (i + 1)
    have hstep := backS_step T (t := t) (j := i) (by rw [HTL.out]; omega)
    have hta : t.getD i 0 < k := HTK.out _ (by
     rw [List.getD_eq_getElem?_getD, List.getElem?_eq_getElem (by rw [HTL.out]; omega)]
     exact List.getElem_mem _)
    have hnl := HT.out.lt _ _ hsl hta
    rw [<- hstep] at hnl
    obtain ⟨g1, o1, A1, m1', c1, e1, hm1, d1, r1, l1, l2⟩ := (H1.out.below hbw).at_ (i := backS T t (i + 1)) hsl
    subst e1
    obtain ⟨g2, o2, e2, -, d2⟩ := (H3.out.below hbw).at i (by omega)
    subst e2
    rw [intsN_at] at d2
    obtain ⟨g3, o3, e3, -, d3⟩ := r1.at (t.getD i 0) (by rw [hm1, HT.out.len _ hsl]; exact hta)
    subst e3
    have e4 : (intsN (T.getD (backS T t (i + 1)) [])).getD (t.getD i 0) 0 = ((backS T t i : Nat) : Int) := by rw [intsN_at, hstep]; rfl
    rw [e4] at d3
    obtain ⟨g5, o5, e5, -, d5⟩ := (H2.out.below hbw).at (backS T t i) (by rw [<- HL.out]; exact hnl)
    simp only [Option.some.injEq, Addr.mk.injEq, and_true] at e5
    obtain ⟨rfl, rfl⟩ := e5
    rw [intsN_at] at d5
    rw [HL.out] at hsl hnl
    have hm1k : m1' = k := by rw [hm1]; exact HT.out.len _ (by rw [HL.out]; exact hsl)
    rw [<- hm1k] at hta
    have kf := World.ownsRow.frozenAt HO.out i
    obtain ⟨kv, kc⟩ : ∃ x, wr.cell? ⟨g, i, none⟩ = some x := ⟨_, (World.ownsRow.cellAt HO.out i (by omega)).trans (List.getElem?_eq_getElem (by simp [rowZ]; omega))⟩
    have HE4 : Hid ((rowZ (m + 1) fun x => if i + 1 <= x then ((O.getD (backS T t x) 0 : Nat) : Int) else 0).set i ((O.getD (backS T t i) 0 : Nat) : Int) = rowZ (m + 1) fun x => if i <= x then ((O.getD (backS T t x) 0 : Nat) : Int) else 0) := Lib.hid (by
     rw [rowZ_set]
     refine rowZ_eq fun x hx => ?_
     by_cases q : x = i
     ·subst q; rw [if_pos rfl, if_pos (Nat.le_refl _)]
     ·rw [if_neg q]
      by_cases q2 : i + 1 <= x
      ·rw [if_pos q2, if_pos (by omega)]
      ·rw [if_neg q2, if_neg (by omega)])
    have HMK := Lib.hid hm1k
    clear hstep e4 hm1 hbw hx r1 h0 hz hm1k
    generalize hs1 : backS T t (i + 1) = s1 at *
    generalize hs0 : backS T t i = s0 at *
    generalize ht0 : t.getD i 0 = a0 at *
    generalize hy1 : ((O.getD s0 0 : Nat) : Int) = y1 at *
    have HS1 := Lib.hid hs1; have HS0 := Lib.hid hs0
    clear hs1 hs0 ht0 hy1
    have s10 : (0 : Int) <= (s1 : Int) := Int.natCast_nonneg _
    have s11 : (s1 : Int) < (n : Int) := by omega
    have s00 : (0 : Int) <= (s0 : Int) := Int.natCast_nonneg _
    have s01 : (s0 : Int) < (n : Int) := by omega
    have a00 : (0 : Int) <= (a0 : Int) := Int.natCast_nonneg _
    have a01 : (a0 : Int) < (m1' : Int) := by omega
    go_wp2_with fail
    go_big_quiet (fail)
    go_wp2_with fail
    refine ⟨⟨i, (i : Int) - 1, rfl, by omega, by omega, by rw [HS0.out], Lib.hid ?_, Lib.hid ?_⟩, by simp [intOf]⟩
    ·have h := (Own.stored (w := wr.drewN nq) (l := rowZ (m + 1) fun x => if i + 1 <= x then ((O.getD (backS T t x) 0 : Nat) : Int) else 0) HO.out i y1).1
     rw [HE4.out] at h
     exact h
    ·exact (below_drewN HB.out nq).setCell (p := ⟨g, i, none⟩) (Nat.le_refl _) _
end Go.Proofs.Ytdcokkgdahbinaa
