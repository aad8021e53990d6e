/- Contracts of the reference's machines' Run (chapters 9, 10), of texts of up to 10000 letters. -/
import Derived.Test.YtacgakkcpmhgmaaVSegR
set_option linter.unusedVariables false
set_option linter.unusedSimpArgs false
set_option maxRecDepth 100000
set_option maxHeartbeats 8000000
namespace Go.Proofs.Ytacgakkcpmhgmaa
open Go Go.RowKit Go.Proofs
theorem sown_mk (N : Nat) (hN : N <= 1000000) (w : World) : Own (w.alloc (.cells (repA N (.int .i64 0)) 3)) w.heap.size (sl w.heap.size N N) N (rowN N fun _ => 0) := by
 have e : (rowN N fun _ => 0).map (Value.int .i64) = List.replicate N (Value.int .i64 0) := by
  apply List.ext_getElem
  ·simp [rowN]
  ·intro i h1 h2; simp [rowN]
 refine ⟨by simp [rowN], .inr ⟨w.heap.size, N, _, rfl, Nat.le_refl _, heap_alloc_new w _, Nat.le_refl _, by unfold maxLen; omega, by simp [repA], ?_⟩⟩
 rw [e]
 simp [repA]
theorem srowZ_eq {n : Nat} {f g : Nat -> Int} (h : ∀ s, s < n -> f s = g s) : rowZ n f = rowZ n g := by
 unfold rowZ
 exact List.map_congr_left fun i hi => h i (List.mem_range.1 hi)
def backS (T : List (List Nat)) (t : List Nat) (i : Nat) : Nat := runN T 0 (t.drop i).reverse
theorem runN_snoc (T : List (List Nat)) : ∀ (l : List Nat) (s a : Nat), runN T s (l ++ [a]) = trN T (runN T s l) a
 | [], s, a => rfl
 | b :: l, s, a => by
   show runN T (trN T s b) (l ++ [a]) = _
   rw [runN_snoc T l]; rfl
theorem backS_end (T : List (List Nat)) {t : List Nat} {m : Nat} (h : t.length = m) : backS T t m = 0 := by
 unfold backS
 rw [List.drop_of_length_le (by omega)]; rfl
theorem backS_step (T : List (List Nat)) {t : List Nat} {j : Nat} (h : j < t.length) : backS T t j = trN T (backS T t (j + 1)) (t.getD j 0) := by
 unfold backS
 rw [List.drop_eq_getElem_cons h, List.reverse_cons, runN_snoc]
 simp [List.getD, List.getElem?_eq_getElem h]
theorem backS_lt {T : List (List Nat)} {k : Nat} (hT : RectN T k) {t : List Nat} (ht : ∀ a ∈ t, a < k) (j : Nat) : backS T t j < T.length :=
 runN_lt hT _ 0 hT.pos (fun a ha => ht a (List.mem_of_mem_drop (List.mem_reverse.1 ha)))
def brunL (T : List (List Nat)) (O t : List Nat) : List Int := rowZ (t.length + 1) fun x => ((O.getD (backS T t x) 0 : Nat) : Int)
theorem rbrun_any {w : World} {NA OA TA : Option Addr} {nc oc tc n k m : Nat} {T : List (List Nat)} {O t : List Nat} (h : NextR w (.slice NA n nc) T) (hl : T.length = n) (hT : RectN T k) (ho : ReadsI w (.slice OA n oc) n (intsN O)) (ht : ReadsI w (.slice TA m tc) m (intsN t)) (htk : ∀ a ∈ t, a < k) (hm : m <= 10000) :
  Calls Try.prog 49 #[.agg #[.slice NA n nc, .slice OA n oc], .slice TA m tc] w fun e w' => ∃ g, e = .returned (sl g (m + 1) (m + 1)) /\ Own w' w.heap.size (sl g (m + 1) (m + 1)) (m + 1) (brunL T O t) /\ Below w.heap.size w w' := by
  have htl : t.length = m := by have := ht.1; simpa [intsN] using this
  have hpos : 0 < n := by have := hT.pos; omega
  obtain ⟨a1, c1', e1, q1, q2⟩ := h.form
  rw [hl] at q1
  simp only [Value.slice.injEq] at e1
  obtain ⟨rfl, -, rfl⟩ := e1
  obtain ⟨a1, c1', e1, q3, q4, -⟩ := ho.form
  obtain ⟨a2, c2', e2, q5, q6, -⟩ := ht.form
  simp only [Value.slice.injEq, true_and] at e1 e2
  obtain ⟨rfl, rfl⟩ := e1
  obtain ⟨rfl, rfl⟩ := e2
  obtain ⟨W0, hW0⟩ : ∃ W, w.alloc (.cells #[.slice NA n nc, .slice OA n oc] 27) = W := ⟨_, rfl⟩
  have hb0 : Below w.heap.size w W0 := by rw [<- hW0]; exact (Below.refl _ _).alloc (Nat.le_refl _) _
  have hx2 : Blk W0 w.heap.size 27 #[.slice NA n nc, .slice OA n oc] := by rw [<- hW0]; exact Blk.new _ _ _
  obtain ⟨b2, hb2⟩ : ∃ b, b = w.heap.size := ⟨_, rfl⟩
  obtain ⟨W1, hW1⟩ : ∃ W, W0.alloc (.cells (repA (m + 1) (.int .i64 0)) 3) = W := ⟨_, rfl⟩
  have hb1 : Below W0.heap.size W0 W1 := by rw [<- hW1]; exact (Below.refl _ _).alloc (Nat.le_refl _) _
  have ho1 := sown_mk (m + 1) (by omega) W0
  rw [hW1] at ho1
  have hmk := mkI_big (m + 1) (by omega) W0
  rw [hW1] at hmk
  simp only [Int.natCast_add, Int.natCast_one] at hmk
  obtain ⟨g, hg⟩ : ∃ g, g = W0.heap.size := ⟨_, rfl⟩
  rw [<- hg] at ho1 hmk hb1
  rw [<- hb2] at hx2
  have hbg : b2 < g := by rw [hg]; exact hx2.lt
  have hwg : w.heap.size <= g := by omega
  obtain ⟨go, oo, eo, -, co⟩ := (ho.below hb0).at 0 hpos
  subst eo
  rw [intsN_at, Nat.add_zero] at co
  have H1 := Lib.hid (h.below hb0); have H2 := Lib.hid (ho.below hb0); have H3 := Lib.hid (ht.below hb0); have HL := Lib.hid hl; have HT := Lib.hid hT; have HTK := Lib.hid htk; have HTL := Lib.hid htl; have HW0 := Lib.hid hW0; have HB0 := Lib.hid hb0; have X2 := Lib.hid hx2; have HB2 := Lib.hid hb2; have HB1 := Lib.hid hb1; have HG := Lib.hid hg; have HO1 := Lib.hid ho1; have HW1 := Lib.hid hW1
  have hx21 := Blk.below hx2 hb1 hbg
  have c20 := hx21.cell 0; have c21 := hx21.cell 1
  simp only [List.getElem?_toArray, List.getElem?_cons_zero, List.getElem?_cons_succ] at c20 c21
  have co1 := bel_m (by rw [<- hg]; exact hb1) co
  have kf := World.ownsRow.frozenAt ho1 m
  obtain ⟨kv, kc⟩ : ∃ x, W1.cell? ⟨g, m, none⟩ = some x := ⟨_, (World.ownsRow.cellAt ho1 m (by omega)).trans (List.getElem?_eq_getElem (by simp [rowN]))⟩
  have m0 : (0 : Int) <= (m : Int) := Int.natCast_nonneg _
  have m1 : (m : Int) < (m : Int) + 1 := by omega
  have hn1 : (0 : Int) < (n : Int) := by omega
  clear h ho ht hl hT htk htl hb0 hx2 hb2 hb1 ho1 hg hx21 co
  rw [<- hW0] at hmk
  rw [HB2.out] at c20 c21
  clear hW0 hW1
  obtain ⟨y0, hy0⟩ : ∃ y0 : Int, ((O.getD 0 0 : Nat) : Int) = y0 := ⟨_, rfl⟩
  rw [hy0] at co1
  have HY0 := Lib.hid hy0
  clear hy0
  go_enter Try.func49, Try.ntmps49
  go_wp2_with fail
  rw [<- HB2.out]
  clear c20 c21 co1 kf kc hmk
  obtain ⟨V1, hV1⟩ : ∃ V, W1.setCell ⟨g, m, none⟩ (.int .i64 y0) = V := ⟨_, rfl⟩
  have hf1 : Fr (fun q => q = g) W1 V1 := by rw [<- hV1]; exact (Fr.refl (fun q => q = g) W1).set_ (p := ⟨g, m, none⟩) (.inl rfl) _
  have hbv : Below g W0 V1 := HB1.out.trans (hf1.below (by have := HG.out; have := HB1.out.size; omega) (fun q hq e => by omega))
  have hst : Own V1 g (sl g (m + 1) (m + 1)) (m + 1) (rowZ (m + 1) fun x => if m <= x then ((O.getD (backS T t x) 0 : Nat) : Int) else 0) := by
   have h := (HO1.out.stored m y0).1
   rw [hV1] at h
   have e : (rowN (m + 1) fun _ => 0).set m y0 = rowZ (m + 1) fun x => if m <= x then ((O.getD (backS T t x) 0 : Nat) : Int) else 0 := by
    have e0 : (rowN (m + 1) fun _ => 0) = rowZ (m + 1) fun _ => 0 := rfl
    rw [e0, rowZ_set]
    refine srowZ_eq fun x hx => ?_
    by_cases q : x = m
    ·subst q
     rw [if_pos rfl, if_pos (Nat.le_refl _), backS_end T HTL.out, HY0.out]
    ·rw [if_neg q, if_neg (by omega)]
   rw [e] at h
   exact h
  have HST := Lib.hid hst; have HBV := Lib.hid hbv
  rw [hV1]
  clear hV1 hf1 hbv hst
  go_loopw [6, 7] (fun v6 v7 wr => ∃ (j : Nat) (z : Int), v7 = .int .i64 z /\ z + 1 = (j : Int) /\ j <= m /\ v6 = .int .i64 ((backS T t j : Nat) : Int) /\ Hid (Own wr g (sl g (m + 1) (m + 1)) (m + 1) (rowZ (m + 1) fun x => if j <= x then ((O.getD (backS T t x) 0 : Nat) : Int) else 0)) /\ Hid (Below g W0 wr)) (fun _ v7 _ => (intOf v7 + 1).toNat)
  case atStart => exact ⟨m, _, rfl, by omega, Nat.le_refl _, by rw [backS_end T HTL.out]; rfl, HST, HBV⟩
  case round =>
   clear HST HBV
   obtain ⟨j, z, rfl, hz, hj, rfl, HO, HB⟩ := hrel
   rcases Nat.eq_zero_or_pos j with h0 | h0
   ·obtain rfl : z = -1 := by omega
    have HO' : Hid (Own wr g (sl g (m + 1) (m + 1)) (m + 1) (brunL T O t)) := Lib.hid (by
     have e : (rowZ (m + 1) fun x => if j <= x then ((O.getD (backS T t x) 0 : Nat) : Int) else 0) = brunL T O t := by
      unfold brunL
      rw [HTL.out]
      exact srowZ_eq fun x hx => by rw [if_pos (by omega)]
     have := HO.out
     rw [e] at this
     exact this)
    clear hz h0
    go_wp2_with fail
    go_ret
    exact ⟨g, rfl, HO'.out.more hwg, HB0.out.trans (HB.out.mono hwg)⟩
   ·obtain ⟨i, rfl⟩ : ∃ i, j = i + 1 := ⟨j - 1, by omega⟩
    obtain rfl : z = (i : Int) := by omega
    have i0 : (0 : Int) <= (i : Int) := Int.natCast_nonneg _
    have i1 : (i : Int) < (m : Int) := by omega
    have hbw : Below W0.heap.size W0 wr := by rw [<- HG.out]; exact HB.out
    have hx := Blk.below X2.out hbw X2.out.lt
    have c20 := hx.cell 0; have c21 := hx.cell 1
    simp only [List.getElem?_toArray, List.getElem?_cons_zero, List.getElem?_cons_succ] at c20 c21
    have hsl := backS_lt HT.out HTK.out (i + 1)
    have hstep := backS_step T (t := t) (j := i) (by rw [HTL.out]; omega)
    have hta : t.getD i 0 < k := HTK.out _ (by
     rw [List.getD_eq_getElem?_getD, List.getElem?_eq_getElem (by rw [HTL.out]; omega)]
     exact List.getElem_mem _)
    have hnl := HT.out.lt _ _ hsl hta
    rw [<- hstep] at hnl
    obtain ⟨g1, o1, A1, m1', c1, e1, hm1, d1, r1, l1, l2⟩ := (H1.out.below hbw).at_ (i := backS T t (i + 1)) hsl
    subst e1
    obtain ⟨g2, o2, e2, -, d2⟩ := (H3.out.below hbw).at i (by omega)
    subst e2
    rw [intsN_at] at d2
    obtain ⟨g3, o3, e3, -, d3⟩ := r1.at (t.getD i 0) (by rw [hm1, HT.out.len _ hsl]; exact hta)
    subst e3
    have e4 : (intsN (T.getD (backS T t (i + 1)) [])).getD (t.getD i 0) 0 = ((backS T t i : Nat) : Int) := by rw [intsN_at, hstep]; rfl
    rw [e4] at d3
    obtain ⟨g5, o5, e5, -, d5⟩ := (H2.out.below hbw).at (backS T t i) (by rw [<- HL.out]; exact hnl)
    simp only [Option.some.injEq, Addr.mk.injEq, and_true] at e5
    obtain ⟨rfl, rfl⟩ := e5
    rw [intsN_at] at d5
    rw [HL.out] at hsl hnl
    have hm1k : m1' = k := by rw [hm1]; exact HT.out.len _ (by rw [HL.out]; exact hsl)
    rw [<- hm1k] at hta
    have kf := World.ownsRow.frozenAt HO.out i
    obtain ⟨kv, kc⟩ : ∃ x, wr.cell? ⟨g, i, none⟩ = some x := ⟨_, (World.ownsRow.cellAt HO.out i (by omega)).trans (List.getElem?_eq_getElem (by simp [rowZ]; omega))⟩
    have HE4 : Hid ((rowZ (m + 1) fun x => if i + 1 <= x then ((O.getD (backS T t x) 0 : Nat) : Int) else 0).set i ((O.getD (backS T t i) 0 : Nat) : Int) = rowZ (m + 1) fun x => if i <= x then ((O.getD (backS T t x) 0 : Nat) : Int) else 0) := Lib.hid (by
     rw [rowZ_set]
     refine srowZ_eq fun x hx => ?_
     by_cases q : x = i
     ·subst q; rw [if_pos rfl, if_pos (Nat.le_refl _)]
     ·rw [if_neg q]
      by_cases q2 : i + 1 <= x
      ·rw [if_pos q2, if_pos (by omega)]
      ·rw [if_neg q2, if_neg (by omega)])
    have HMK := Lib.hid hm1k
    clear hstep e4 hm1 hbw hx r1 h0 hz hm1k
    generalize hs1 : backS T t (i + 1) = s1 at *
    generalize hs0 : backS T t i = s0 at *
    generalize ht0 : t.getD i 0 = a0 at *
    generalize hy1 : ((O.getD s0 0 : Nat) : Int) = y1 at *
    have HS1 := Lib.hid hs1; have HS0 := Lib.hid hs0
    clear hs1 hs0 ht0 hy1
    have s10 : (0 : Int) <= (s1 : Int) := Int.natCast_nonneg _
    have s11 : (s1 : Int) < (n : Int) := by omega
    have s00 : (0 : Int) <= (s0 : Int) := Int.natCast_nonneg _
    have s01 : (s0 : Int) < (n : Int) := by omega
    have a00 : (0 : Int) <= (a0 : Int) := Int.natCast_nonneg _
    have a01 : (a0 : Int) < (m1' : Int) := by omega
    go_wp2_with fail
    go_big_quiet (fail)
    go_wp2_with fail
    refine ⟨⟨i, (i : Int) - 1, rfl, by omega, by omega, by rw [HS0.out], Lib.hid ?_, Lib.hid ?_⟩, by simp [intOf]⟩
    ·have h := (Own.stored (w := wr.drewN nq) (l := rowZ (m + 1) fun x => if i + 1 <= x then ((O.getD (backS T t x) 0 : Nat) : Int) else 0) HO.out i y1).1
     rw [HE4.out] at h
     exact h
    ·exact (below_drewN HB.out nq).setCell (p := ⟨g, i, none⟩) (Nat.le_refl _) _
theorem info_vec3 : (Try.prog.info? 51).map (fun i => (i.zero, i.size, i.bytes)) = some (some (.agg #[.int .i64 0, .int .i64 0, .int .i64 0]), 3, 24) := by kernel_rfl
def fwdS (T : List (List Nat)) (t : List Nat) (i : Nat) : Nat := runN T 0 (t.take i)
theorem fwdS_step (T : List (List Nat)) {t : List Nat} {i : Nat} (h : i < t.length) : fwdS T t (i + 1) = trN T (fwdS T t i) (t.getD i 0) := by
 unfold fwdS
 rw [List.take_add_one, List.getElem?_eq_getElem h]
 show runN T 0 (t.take i ++ [t[i]]) = _
 rw [runN_snoc]
 simp [List.getD, List.getElem?_eq_getElem h]
theorem fwdS_lt {T : List (List Nat)} {k : Nat} (hT : RectN T k) {t : List Nat} (ht : ∀ a ∈ t, a < k) (j : Nat) : fwdS T t j < T.length :=
 runN_lt hT _ 0 hT.pos (fun a ha => ht a (List.mem_of_mem_take ha))
def frunV (T : List (List Nat)) (E : List (List V3)) (t p : List Nat) (i : Nat) : V3 := (E.getD (fwdS T t i) []).getD (p.getD i 0) zV
def frunL (T : List (List Nat)) (E : List (List V3)) (t p : List Nat) (n : Nat) : List V3 := (List.range n).map (frunV T E t p)
theorem frunL_succ (T : List (List Nat)) (E : List (List V3)) (t p : List Nat) (n : Nat) : frunL T E t p (n + 1) = frunL T E t p n ++ [frunV T E t p n] := by unfold frunL; rw [List.range_succ, List.map_append]; rfl
theorem row_cap {w : World} {B : Nat} {e : TypeId} {s g n c m : Nat} {xs : List Value} (h : w.ownsRow B e s (sl g n c) m xs) : n <= c /\ c <= 9223372036854775807 := by
 rcases h.2 with ⟨e, _⟩ | ⟨g', cap, cur, e, _, _, r1, r2, _⟩
 ·cases e
 ·simp only [Value.slice.injEq, Option.some.injEq, Addr.mk.injEq, and_true] at e
  obtain ⟨rfl, rfl, rfl⟩ := e
  exact ⟨r1, by unfold maxLen at r2; exact r2⟩
theorem rfrun_fresh {w : World} {NA OA TA PA : Option Addr} {nc oc tc pc n k m q pl : Nat} {T : List (List Nat)} {E : List (List V3)} {t p : List Nat} (h : NextR w (.slice NA n nc) T) (hl : T.length = n) (hT : RectN T k) (ho : EmitR w (.slice OA n oc) E) (hel : E.length = n) (hq : ∀ i, i < n -> (E.getD i []).length = q)
  (ht : ReadsI w (.slice TA m tc) m (intsN t)) (htk : ∀ a ∈ t, a < k) (hp : ReadsI w (.slice PA pl pc) pl (intsN p)) (hpq : ∀ a ∈ p, a < q) (hpl : m + 1 <= pl) (hm : m <= 10000) :
  Calls Try.prog 48 #[.agg #[.slice NA n nc, .slice OA n oc], .slice TA m tc, .slice PA pl pc] w fun e w' => ∃ A c, e = .returned (.slice A (m + 1) c) /\ ReadsE encV 3 w' (.slice A (m + 1) c) (m + 1) (frunL T E t p (m + 1)) /\ (∀ p, A = some p -> w.heap.size <= p.block) /\ Below w.heap.size w w' := by
  have htl : t.length = m := by have := ht.1; simpa [intsN] using this
  have hpll : p.length = pl := by have := hp.1; simpa [intsN] using this
  obtain ⟨a1, c1', e1, q1, q2⟩ := h.form
  rw [hl] at q1
  simp only [Value.slice.injEq] at e1
  obtain ⟨rfl, -, rfl⟩ := e1
  obtain ⟨a1, c1', e1, q3, q4⟩ := ho.form
  rw [hel] at q3
  simp only [Value.slice.injEq] at e1
  obtain ⟨rfl, -, rfl⟩ := e1
  obtain ⟨a1, c1', e1, q5, q6, -⟩ := ht.form
  obtain ⟨a2, c2', e2, q7, q8, -⟩ := hp.form
  simp only [Value.slice.injEq, true_and] at e1 e2
  obtain ⟨rfl, rfl⟩ := e1
  obtain ⟨rfl, rfl⟩ := e2
  obtain ⟨W0, hW0⟩ : ∃ W, w.alloc (.cells #[.slice NA n nc, .slice OA n oc] 30) = W := ⟨_, rfl⟩
  have hb0 : Below w.heap.size w W0 := by rw [<- hW0]; exact (Below.refl _ _).alloc (Nat.le_refl _) _
  have hx3 : Blk W0 w.heap.size 30 #[.slice NA n nc, .slice OA n oc] := by rw [<- hW0]; exact Blk.new _ _ _
  obtain ⟨b3, hb3⟩ : ∃ b, b = w.heap.size := ⟨_, rfl⟩
  rw [<- hb3] at hx3
  have H1 := Lib.hid (h.below hb0); have H2 := Lib.hid (ho.below hb0); have H3 := Lib.hid (ht.below hb0); have H4 := Lib.hid (hp.below hb0); have HL := Lib.hid hl; have HEL := Lib.hid hel; have HQ := Lib.hid hq; have HT := Lib.hid hT; have HTK := Lib.hid htk; have HPQ := Lib.hid hpq; have HTL := Lib.hid htl; have HPLL := Lib.hid hpll; have HW0 := Lib.hid hW0; have HB0 := Lib.hid hb0; have X3 := Lib.hid hx3; have HB3 := Lib.hid hb3
  clear h ho ht hp hl hel hq hT htk hpq htl hpll hW0 hb0 hx3 hb3
  have m0 : (0 : Int) <= (m : Int) := Int.natCast_nonneg _
  go_enter Try.func48, Try.ntmps48
  go_wp2_with fail
  rw [HW0.out, <- HB3.out]
  go_loopw [7, 8, 9] (fun v7 v8 v9 wr => ∃ (i : Nat) (VA : Option Addr) (vc : Nat), v7 = .slice VA i vc /\ i <= vc /\ vc <= 9223372036854775807 /\ v9 = .int .i64 (i : Int) /\ i <= m + 1 /\ v8 = .int .i64 ((fwdS T t i : Nat) : Int) /\ Hid (wr.ownsRow W0.heap.size 51 3 (.slice VA i vc) i ((frunL T E t p i).flatMap encV)) /\ Hid (Below W0.heap.size W0 wr)) (fun _ _ v9 _ => m + 1 - (intOf v9).toNat)
  case atStart => exact ⟨0, none, 0, rfl, Nat.le_refl _, by omega, rfl, Nat.zero_le _, rfl, Lib.hid (World.ownsRow_nil _ _ _ _), Lib.hid (Below.refl _ _)⟩
  case round =>
   obtain ⟨i, VA, vc, rfl, hvc, hvc2, rfl, hi, rfl, HO, HB⟩ := hrel
   have i0 : (0 : Int) <= (i : Int) := Int.natCast_nonneg _
   by_cases hlt : i <= m
   ·have i1 : (i : Int) <= (m : Int) := by omega
    have t1 : decide (i <= m) = true := by simpa using hlt
    have hbw := HB.out
    have hsl := fwdS_lt HT.out HTK.out i
    obtain ⟨g1, o1, A2, qn, c2, e1, hqn, d1, r1, l1, l2⟩ := H2.out.at_ (i := fwdS T t i) (by rw [HEL.out, <- HL.out]; exact hsl)
    subst e1
    have hqq : qn = q := by rw [hqn]; exact HQ.out _ (by rw [<- HL.out]; exact hsl)
    obtain ⟨g3, o3, e3, hg3, d3⟩ := H4.out.at i (by omega)
    subst e3
    rw [intsN_at] at d3
    have hpa : p.getD i 0 < q := HPQ.out _ (by
     rw [List.getD_eq_getElem?_getD, List.getElem?_eq_getElem (by rw [HPLL.out]; omega)]
     exact List.getElem_mem _)
    have hel2 : p.getD i 0 < (E.getD (fwdS T t i) []).length := by rw [<- hqn, hqq]; exact hpa
    have hus : (E.getD (fwdS T t i) [])[p.getD i 0]? = some (frunV T E t p i) := by
     unfold frunV
     rw [List.getElem?_eq_getElem hel2, List.getD_eq_getElem?_getD (l := E.getD (fwdS T t i) []), List.getElem?_eq_getElem hel2]
     rfl
    obtain ⟨g2, o2, e2, -, hcl⟩ := r1.at encV_len (by decide) _ _ hus
    subst e2
    have s0 := hcl 0 _ rfl; have s1 := hcl 1 _ rfl; have s2 := hcl 2 _ rfl
    rw [Nat.add_zero] at s0
    have hg1 := World.block_lt_of_cell? W0 _ d1
    have hg2 := World.block_lt_of_cell? W0 _ s0
    have hg0 := X3.out.lt
    replace d1 := bel_m hbw d1
    replace d3 := bel_m hbw d3
    replace s0 := bel_m hbw s0
    replace s1 := bel_m hbw s1
    replace s2 := bel_m hbw s2
    have hx := Blk.below X3.out hbw X3.out.lt
    have c30 := hx.cell 0; have c31 := hx.cell 1
    simp only [List.getElem?_toArray, List.getElem?_cons_zero, List.getElem?_cons_succ] at c30 c31
    have hsn : fwdS T t i < n := by rw [<- HL.out]; exact hsl
    have hFS := frunL_succ T E t p i
    obtain ⟨⟨x, y, z⟩, hv⟩ : ∃ v : V3, frunV T E t p i = v := ⟨_, rfl⟩
    rw [hv] at s0 s1 s2 hFS
    have HFS := Lib.hid hFS
    rw [<- hqq] at hpa
    have HQE := Lib.hid hqq; have HQN := Lib.hid hqn
    have HXW := Lib.hid hx; have HBB := HB
    have HS0 : Hid ((fun W : World => W.cell? ⟨b3, 1, none⟩ = some (.slice (some ⟨g1, o1, none⟩) n oc) /\ W.cell? ⟨g1, o1 + fwdS T t i, none⟩ = some (.slice (some ⟨g2, o2, none⟩) qn c2) /\ W.cell? ⟨g3, o3 + i, none⟩ = some (.int .i64 ((p.getD i 0 : Nat) : Int)) /\ W.cell? ⟨g2, o2 + (p.getD i 0) * 3, none⟩ = some (.int .i64 x) /\ W.cell? ⟨g2, o2 + (p.getD i 0) * 3 + 1, none⟩ = some (.int .i64 y) /\ W.cell? ⟨g2, o2 + (p.getD i 0) * 3 + 2, none⟩ = some (.int .i64 z)) wr) := Lib.hid ⟨c31, d1, d3, s0, s1, s2⟩
    obtain ⟨s, hs⟩ : ∃ s, fwdS T t i = s := ⟨_, rfl⟩
    obtain ⟨a, ha⟩ : ∃ a, p.getD i 0 = a := ⟨_, rfl⟩
    rw [ha] at hpa HS0
    have HSE := Lib.hid hs
    rw [hs] at hsn HS0 ⊢
    have a0 : (0 : Int) <= (a : Int) := Int.natCast_nonneg _
    have a1 : (a : Int) < (qn : Int) := by omega
    have z0 : (0 : Int) <= (s : Int) := Int.natCast_nonneg _
    have z1 : (s : Int) < (n : Int) := by omega
    have p1' : (i : Int) < (pl : Int) := by omega
    have HKS : Hid (∀ W, Below wr.heap.size wr W -> (fun W : World => W.cell? ⟨b3, 1, none⟩ = some (.slice (some ⟨g1, o1, none⟩) n oc) /\ W.cell? ⟨g1, o1 + s, none⟩ = some (.slice (some ⟨g2, o2, none⟩) qn c2) /\ W.cell? ⟨g3, o3 + i, none⟩ = some (.int .i64 (a : Int)) /\ W.cell? ⟨g2, o2 + a * 3, none⟩ = some (.int .i64 x) /\ W.cell? ⟨g2, o2 + a * 3 + 1, none⟩ = some (.int .i64 y) /\ W.cell? ⟨g2, o2 + a * 3 + 2, none⟩ = some (.int .i64 z)) W) := Lib.hid (fun W hW => ⟨bel_m hW HS0.out.1, bel_m hW HS0.out.2.1, bel_m hW HS0.out.2.2.1, bel_m hW HS0.out.2.2.2.1, bel_m hW HS0.out.2.2.2.2.1, bel_m hW HS0.out.2.2.2.2.2⟩)
    have HKG : Hid (∀ V W, Below wr.heap.size wr V -> V.grownBy W (Value.slice VA i vc).ownBlock -> W0.heap.size <= V.heap.size -> (∀ z, (Value.slice VA i vc).ownBlock = some z -> W0.heap.size <= z) -> (fun W : World => W.cell? ⟨b3, 1, none⟩ = some (.slice (some ⟨g1, o1, none⟩) n oc) /\ W.cell? ⟨g1, o1 + s, none⟩ = some (.slice (some ⟨g2, o2, none⟩) qn c2) /\ W.cell? ⟨g3, o3 + i, none⟩ = some (.int .i64 (a : Int)) /\ W.cell? ⟨g2, o2 + a * 3, none⟩ = some (.int .i64 x) /\ W.cell? ⟨g2, o2 + a * 3 + 1, none⟩ = some (.int .i64 y) /\ W.cell? ⟨g2, o2 + a * 3 + 2, none⟩ = some (.int .i64 z)) W) := Lib.hid (fun V W hV hG _ hz => by
     have hne : ∀ b : Nat, b < W0.heap.size -> some b ≠ (Value.slice VA i vc).ownBlock := fun b hb e => by
      have := hz b e.symm; omega
     exact ⟨hG.cell (bel_m hV HS0.out.1) (hne _ hg0), hG.cell (bel_m hV HS0.out.2.1) (hne _ hg1), hG.cell (bel_m hV HS0.out.2.2.1) (hne _ hg3), hG.cell (bel_m hV HS0.out.2.2.2.1) (hne _ hg2), hG.cell (bel_m hV HS0.out.2.2.2.2.1) (hne _ hg2), hG.cell (bel_m hV HS0.out.2.2.2.2.2) (hne _ hg2)⟩)
    have HO0 := HO
    have HBW : Hid (W0.heap.size <= wr.heap.size) := Lib.hid HB.out.size
    have hi9 : i <= 1000000 := by omega
    clear hbw hsl hqn d1 r1 hqq d3 hel2 hus hcl s0 s1 s2 hx c30 c31 hFS hv hs ha
    go_wp2_with fail
    have hb : Below wr.heap.size wr wr.drew := (Below.refl _ _).drew
    have hS := HKS.out _ hb
    have hO := ownsRow_bel HO0.out hb
    have hBV : W0.heap.size <= wr.drew.heap.size := Nat.le_trans HBW.out hb.size
    refine region_x 14 (fun W : World => W.cell? ⟨b3, 1, none⟩ = some (.slice (some ⟨g1, o1, none⟩) n oc) /\ W.cell? ⟨g1, o1 + s, none⟩ = some (.slice (some ⟨g2, o2, none⟩) qn c2) /\ W.cell? ⟨g3, o3 + i, none⟩ = some (.int .i64 (a : Int)) /\ W.cell? ⟨g2, o2 + a * 3, none⟩ = some (.int .i64 x) /\ W.cell? ⟨g2, o2 + a * 3 + 1, none⟩ = some (.int .i64 y) /\ W.cell? ⟨g2, o2 + a * 3 + 2, none⟩ = some (.int .i64 z)) (by kernel_rfl) ?_
    generalize wr.drew = V0 at *
    refine tkx (i := 0) (v := ?_) hS ?_ ?_
    rotate_left
    ·rintro w' ⟨s0', s1', s2', s3', s4', s5'⟩
     go_simp
     try with_reducible rfl
    try simp only [Act.put, zq1, zq2, zq3, zq4, zq5, zq6]
    refine tkx (i := 1) (v := ?_) hS ?_ ?_
    rotate_left
    ·rintro w' ⟨s0', s1', s2', s3', s4', s5'⟩
     go_simp
     try with_reducible rfl
    try simp only [Act.put, zq1, zq2, zq3, zq4, zq5, zq6]
    refine tkx (i := 2) (v := ?_) hS ?_ ?_
    rotate_left
    ·rintro w' ⟨s0', s1', s2', s3', s4', s5'⟩
     go_simp
     try with_reducible rfl
    try simp only [Act.put, zq1, zq2, zq3, zq4, zq5, zq6]
    refine tkx (i := 3) (v := ?_) hS ?_ ?_
    rotate_left
    ·rintro w' ⟨s0', s1', s2', s3', s4', s5'⟩
     go_simp
     try with_reducible rfl
    try simp only [Act.put, zq1, zq2, zq3, zq4, zq5, zq6]
    refine tkx (i := 4) (v := ?_) hS ?_ ?_
    rotate_left
    ·rintro w' ⟨s0', s1', s2', s3', s4', s5'⟩
     go_simp
     try with_reducible rfl
    try simp only [Act.put, zq1, zq2, zq3, zq4, zq5, zq6]
    refine tkx (i := 5) (v := ?_) hS ?_ ?_
    rotate_left
    ·rintro w' ⟨s0', s1', s2', s3', s4', s5'⟩
     go_simp
     try with_reducible rfl
    try simp only [Act.put, zq1, zq2, zq3, zq4, zq5, zq6]
    refine tkx (i := 6) (v := ?_) hS ?_ ?_
    rotate_left
    ·rintro w' ⟨s0', s1', s2', s3', s4', s5'⟩
     go_simp
     try with_reducible rfl
    try simp only [Act.put, zq1, zq2, zq3, zq4, zq5, zq6]
    refine tkx (i := 7) (v := ?_) hS ?_ ?_
    rotate_left
    ·rintro w' ⟨s0', s1', s2', s3', s4', s5'⟩
     go_simp
     try with_reducible rfl
    try simp only [Act.put, zq1, zq2, zq3, zq4, zq5, zq6]
    refine tkx (i := 8) (v := ?_) hS ?_ ?_
    rotate_left
    ·rintro w' ⟨s0', s1', s2', s3', s4', s5'⟩
     go_simp
     try with_reducible rfl
    try simp only [Act.put, zq1, zq2, zq3, zq4, zq5, zq6]
    refine tkx (i := 9) (v := ?_) hS ?_ ?_
    rotate_left
    ·rintro w' ⟨s0', s1', s2', s3', s4', s5'⟩
     go_simp
     try with_reducible rfl
    try simp only [Act.put, zq1, zq2, zq3, zq4, zq5, zq6]
    refine tkx (i := 10) (v := ?_) hS ?_ ?_
    rotate_left
    ·rintro w' ⟨s0', s1', s2', s3', s4', s5'⟩
     go_simp
     try with_reducible rfl
    try simp only [Act.put, zq1, zq2, zq3, zq4, zq5, zq6]
    refine tkx (i := 11) (v := ?_) hS ?_ ?_
    rotate_left
    ·rintro w' ⟨s0', s1', s2', s3', s4', s5'⟩
     go_simp
     try with_reducible rfl
    try simp only [Act.put, zq1, zq2, zq3, zq4, zq5, zq6]
    refine anyX_g (i := 12) (by kernel_rfl) (by decide) rfl (by rfl) ?_
    intro K hK
    try simp only [zq1, zq2, zq3]
    go_simp
    obtain ⟨V1, eV⟩ : ∃ W', V0.alloc (.cells #[.int .i64 x, .int .i64 y, .int .i64 z] 51) = W' := ⟨_, rfl⟩
    have hbn : Below V0.heap.size V0 V1 := by rw [<- eV]; exact (Below.refl _ _).alloc (Nat.le_refl _) _
    have xb : Blk V1 V0.heap.size 51 #[.int .i64 x, .int .i64 y, .int .i64 z] := by rw [<- eV]; exact Blk.new _ _ _
    rw [eV]
    clear eV
    replace hO := ownsRow_bel hO hbn
    replace hb := hb.trans (hbn.mono hb.size)
    have hBV1 : W0.heap.size <= V1.heap.size := Nat.le_trans hBV hbn.size
    clear hbn
    replace hS := HKS.out _ hb
    obtain ⟨p1, hp1⟩ : ∃ p, p = V0.heap.size := ⟨_, rfl⟩
    rw [<- hp1] at xb ⊢
    clear hp1
    refine hK _ _ hS ?_
    clear hK
    try simp only [Act.put, zq1, zq2, zq3, zq4, zq5, zq6]
    refine anyX_g (i := 13) (by kernel_rfl) (by decide) rfl (by rfl) ?_
    intro K hK
    try simp only [zq1, zq2, zq3]
    refine wp_pushK rfl (.tmp 16) (.tmp 28) 36 51 rfl 3 24 _ Try.underlying36 info_vec3 rfl (by omega) (by omega) W0.heap.size (.slice VA i vc) i _ (by rfl) hO p1 (by rfl) #[.int .i64 x, .int .i64 y, .int .i64 z] rfl xb (by simp [Value.oneCell']) hi9 hBV1 ?_
    intro g9 cap9 V2 q1 q2 q3
    have hgr := hO.lt
    have hS : (fun W : World => W.cell? ⟨b3, 1, none⟩ = some (.slice (some ⟨g1, o1, none⟩) n oc) /\ W.cell? ⟨g1, o1 + s, none⟩ = some (.slice (some ⟨g2, o2, none⟩) qn c2) /\ W.cell? ⟨g3, o3 + i, none⟩ = some (.int .i64 (a : Int)) /\ W.cell? ⟨g2, o2 + a * 3, none⟩ = some (.int .i64 x) /\ W.cell? ⟨g2, o2 + a * 3 + 1, none⟩ = some (.int .i64 y) /\ W.cell? ⟨g2, o2 + a * 3 + 2, none⟩ = some (.int .i64 z)) V2 := HKG.out _ _ hb q2 hBV1 (fun z hz => (hgr z hz).1)
    have hbw := below_grown (HBB.out.trans (hb.mono HBW.out)) q2 hBV1 (fun z hz => (hgr z hz).1)
    clear hO hb xb hgr q2 q3 hBV1 hBV
    refine hK _ _ hS ?_
    clear hK
    try simp only [Act.put, zq1, zq2, zq3, zq4, zq5, zq6]
    refine anyX_last (by kernel_rfl) (by kernel_rfl) rfl rfl ?_
    try simp only [zq1, zq2, zq3]
    go_simp
    try apply_assumption
    clear hS
    have HO2 : Hid (V2.ownsRow W0.heap.size 51 3 (sl g9 (i + 1) cap9) (i + 1) ((frunL T E t p (i + 1)).flatMap encV)) := Lib.hid (by
     rw [HFS.out, List.flatMap_append]
     exact q1)
    obtain ⟨hc9, hc10⟩ := row_cap q1
    have HB2 := Lib.hid hbw
    clear q1 hbw
    by_cases hlm : i < m
    ·have i2 : (i : Int) < (m : Int) := by omega
     have t2 : decide (i < m) = true := by simpa using hlm
     have hbw := HB2.out
     have hx := Blk.below X3.out hbw X3.out.lt
     have c30 := hx.cell 0
     simp only [List.getElem?_toArray, List.getElem?_cons_zero, List.getElem?_cons_succ] at c30
     have hsl : s < T.length := by rw [HL.out]; exact hsn
     have hta : t.getD i 0 < k := HTK.out _ (by
      rw [List.getD_eq_getElem?_getD, List.getElem?_eq_getElem (by rw [HTL.out]; omega)]
      exact List.getElem_mem _)
     obtain ⟨g5, o5, A5, m5, c5, e5, hm5, d5, r5, l5, l6⟩ := (H1.out.below hbw).at_ (i := s) hsl
     subst e5
     obtain ⟨g6, o6, e6, -, d6⟩ := (H3.out.below hbw).at i hlm
     subst e6
     rw [intsN_at] at d6
     have hm5k : m5 = k := by rw [hm5]; exact HT.out.len _ hsl
     obtain ⟨g7, o7, e7, -, d7⟩ := r5.at (t.getD i 0) (by rw [hm5k]; exact hta)
     subst e7
     have hst : trN T s (t.getD i 0) = fwdS T t (i + 1) := by rw [fwdS_step T (by rw [HTL.out]; exact hlm), HSE.out]
     have e8 : (intsN (T.getD s [])).getD (t.getD i 0) 0 = ((fwdS T t (i + 1) : Nat) : Int) := by rw [intsN_at, <- hst]; rfl
     rw [e8] at d7
     rw [<- hm5k] at hta
     have HM5 := Lib.hid hm5k
     obtain ⟨b, hb9⟩ : ∃ b, t.getD i 0 = b := ⟨_, rfl⟩
     rw [hb9] at d6 d7 hta
     obtain ⟨s', hs'⟩ : ∃ s', fwdS T t (i + 1) = s' := ⟨_, rfl⟩
     rw [hs'] at d7
     have HS' := Lib.hid hs'
     clear hx hsl hm5 r5 hm5k hst e8 hb9 hs' hbw
     have b0 : (0 : Int) <= (b : Int) := Int.natCast_nonneg _
     have b1 : (b : Int) < (m5 : Int) := by omega
     go_wp2_with fail
     go_big_quiet (fail)
     go_wp2_with fail
     exact ⟨⟨i + 1, _, cap9, rfl, hc9, hc10, by go_num, by omega, by rw [HS'.out], HO2, Lib.hid (below_drewN HB2.out nq)⟩, by simp [intOf]; omega⟩
    ·have t2 : decide (i < m) = false := by simpa using hlm
     have hs2 : Hid (fwdS T t (i + 1) = s) := Lib.hid (by
      rw [<- HSE.out]
      unfold fwdS
      rw [List.take_of_length_le (by rw [HTL.out]; omega), List.take_of_length_le (by rw [HTL.out]; omega)])
     go_wp2_with fail
     exact ⟨⟨i + 1, _, cap9, rfl, hc9, hc10, by go_num, by omega, by rw [hs2.out], HO2, HB2⟩, by simp [intOf]; omega⟩
   ·obtain rfl : i = m + 1 := by omega
    have hr := OwnE.reads (enc := encV) (t := 51) (k := 3) HO.out encV_len (by decide)
    have HRR := Lib.hid hr
    have e1 : ((m + 1 : Nat) : Int) = (m : Int) + 1 := by omega
    have e2 : ¬ (m : Int) + 1 <= (m : Int) := by omega
    clear hr hlt
    go_wp2_with fail
    go_ret
    exact ⟨_, _, rfl, HRR.out, (fun p hp => by subst hp; exact Nat.le_trans HB0.out.size (HO.out.lt p.block rfl).1), HB0.out.trans (HB.out.mono HB0.out.size)⟩
theorem rfrun_any {w : World} {NA OA TA PA : Option Addr} {nc oc tc pc n k m q pl : Nat} {T : List (List Nat)} {E : List (List V3)} {t p : List Nat} (h : NextR w (.slice NA n nc) T) (hl : T.length = n) (hT : RectN T k) (ho : EmitR w (.slice OA n oc) E) (hel : E.length = n) (hq : ∀ i, i < n -> (E.getD i []).length = q)
  (ht : ReadsI w (.slice TA m tc) m (intsN t)) (htk : ∀ a ∈ t, a < k) (hp : ReadsI w (.slice PA pl pc) pl (intsN p)) (hpq : ∀ a ∈ p, a < q) (hpl : m + 1 <= pl) (hm : m <= 10000) :
  Calls Try.prog 48 #[.agg #[.slice NA n nc, .slice OA n oc], .slice TA m tc, .slice PA pl pc] w fun e w' => ∃ A c, e = .returned (.slice A (m + 1) c) /\ ReadsE encV 3 w' (.slice A (m + 1) c) (m + 1) (frunL T E t p (m + 1)) /\ Below w.heap.size w w' := by
  refine (rfrun_fresh h hl hT ho hel hq ht htk hp hpq hpl hm).mono ?_
  rintro e w' ⟨A, c, h1, h2, -, h3⟩
  exact ⟨A, c, h1, h2, h3⟩
end Go.Proofs.Ytacgakkcpmhgmaa
