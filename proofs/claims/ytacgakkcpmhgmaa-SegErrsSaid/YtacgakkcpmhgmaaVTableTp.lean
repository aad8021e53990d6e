/- The reference's Right. -/
import Derived.Test.YtacgakkcpmhgmaaVTableTg
import Derived.Test.YtacgakkcpmhgmaaVTableO
import Derived.Deep.QuietTactic
import Derived.BigQuiet
set_option linter.unusedVariables false
set_option linter.unusedSimpArgs false
set_option maxRecDepth 100000
set_option maxHeartbeats 8000000
namespace Go.Proofs.Ytacgakkcpmhgmaa
open Go Go.RowKit Go.Proofs
def RrO (t : Tab) (w : World) (e : Ending) (w' : World) : Prop := ∃ b, e = .returned (.bool b) /\ (b = true ↔ RightT t) /\ Below w.heap.size w w'
def RiseK (c : List Int) (i : Nat) : Prop := ∀ j, j < i -> (0 < j -> c.getD (j - 1) 0 < c.getD j 0) /\ c.getD j 0 <= 1114111
theorem riseK_bad {t : Tab} {i : Nat} (h1 : 1 <= i) (h2 : i < t.cuts.length) (h : ¬ (t.cuts.getD (i - 1) 0 < t.cuts.getD i 0 /\ t.cuts.getD i 0 <= 1114111)) : ¬ RightT t := fun e => h ⟨by
 have := e.rise (i - 1) (by omega)
 rwa [Nat.sub_add_cancel h1] at this, (e.last _ (getD_mem h2)).2⟩
theorem riseK_rise {c : List Int} (h0 : c.getD 0 0 = 0) (h : RiseK c c.length) : RiseR c := by
 have hr : ∀ i, i + 1 < c.length -> c.getD i 0 < c.getD (i + 1) 0 := fun i hi => (h (i + 1) hi).1 (by omega)
 have hp : ∀ i, i < c.length -> 0 <= c.getD i 0 := by
  intro i
  induction i with
  | zero => intro _; omega
  | succ i ih => intro hi; have := ih (by omega); have := hr i hi; omega
 refine ⟨hr, h0, fun x hx => ?_⟩
 obtain ⟨i, hi, rfl⟩ := List.getElem_of_mem hx
 have h1 := hp i hi
 have h2 := (h i hi).2
 rw [List.getD_eq_getElem?_getD, List.getElem?_eq_getElem hi] at h1 h2
 exact ⟨h1, h2⟩
def OutsK (l : List Int) (i : Nat) : Prop := ∀ j, j < i -> 0 <= l.getD j 0 /\ l.getD j 0 <= 99999
theorem outsK_bad {t : Tab} {i : Nat} (h2 : i < t.bo.length) (h : ¬ (0 <= t.bo.getD i 0 /\ t.bo.getD i 0 <= 99999)) : ¬ RightT t := fun e => h (e.outs.2 _ (getD_mem h2))
theorem outsK_all {l : List Int} (h : OutsK l l.length) : ∀ o ∈ l, 0 <= o /\ o <= 99999 := fun x hx => by
 obtain ⟨i, hi, rfl⟩ := List.getElem_of_mem hx
 have h1 := h i hi
 rw [List.getD_eq_getElem?_getD, List.getElem?_eq_getElem hi] at h1
 exact h1
def CostK (u : V3) (c : Nat) : Prop := ∀ q, q < c -> 0 <= (enVec u).getD q 0 /\ (enVec u).getD q 0 <= 1152921504606846976
theorem costK_all {u : V3} (h : CostK u 3) : CostV u := ⟨h 0 (by omega), h 1 (by omega), h 2 (by omega)⟩
theorem costK_of {u : V3} (h : CostV u) {c : Nat} (hc : c < 3) : 0 <= (enVec u).getD c 0 /\ (enVec u).getD c 0 <= 1152921504606846976 := by
 rcases (show c = 0 \/ c = 1 \/ c = 2 by omega) with rfl | rfl | rfl
 ·exact h.1
 ·exact h.2.1
 ·exact h.2.2
def EmK (fe : List (List V3)) (m : Int) (i : Nat) : Prop := ∀ j, j < i -> ((fe.getD j []).length : Int) = m /\ ∀ q, q < (fe.getD j []).length -> CostV ((fe.getD j []).getD q (0, 0, 0))
theorem getD_memE {α : Type} {l : List α} {d : α} {i : Nat} (h : i < l.length) : l.getD i d ∈ l := by
 rw [List.getD_eq_getElem?_getD, List.getElem?_eq_getElem h]; exact List.getElem_mem h
theorem getD_someE {α : Type} {l : List α} {d : α} {i : Nat} (h : i < l.length) : l[i]? = some (l.getD i d) := by
 rw [List.getD_eq_getElem?_getD, List.getElem?_eq_getElem h]; rfl
theorem emK_len {t : Tab} {i : Nat} (h2 : i < t.fe.length) (h : ¬ ((t.fe.getD i []).length : Int) = maxL t.bo + 1) : ¬ RightT t := fun e => h (e.emits.2 _ (getD_memE h2)).1
theorem emK_bad {t : Tab} {i k c : Nat} (h2 : i < t.fe.length) (hk : k < (t.fe.getD i []).length) (hc : c < 3) (h : ¬ (0 <= (enVec ((t.fe.getD i []).getD k (0, 0, 0))).getD c 0 /\ (enVec ((t.fe.getD i []).getD k (0, 0, 0))).getD c 0 <= 1152921504606846976)) : ¬ RightT t := fun e => h (costK_of ((e.emits.2 _ (getD_memE h2)).2 _ (getD_memE hk)) hc)
theorem emK_all {fe : List (List V3)} {m : Int} (h : EmK fe m fe.length) : ∀ r ∈ fe, (r.length : Int) = m /\ ∀ v ∈ r, CostV v := fun r hr => by
 obtain ⟨i, hi, rfl⟩ := List.getElem_of_mem hr
 have h1 := h i hi
 have e : fe.getD i [] = fe[i] := by rw [List.getD_eq_getElem?_getD, List.getElem?_eq_getElem hi]; rfl
 rw [e] at h1
 refine ⟨h1.1, fun v hv => ?_⟩
 obtain ⟨q, hq, rfl⟩ := List.getElem_of_mem hv
 have h2 := h1.2 q hq
 rw [List.getD_eq_getElem?_getD, List.getElem?_eq_getElem hq] at h2
 exact h2
theorem rright_any {w : World} {vc vl vbn vbo vfn vfe : Value} {t : Tab} (h : TabR w vc vl vbn vbo vfn vfe t) (hl : t.letters.length <= 1000000000) :
  Calls Try.prog 24 #[.agg #[vc, vl, vbn, vbo, vfn, vfe]] w fun e w' => RrO t w e w' := by
  obtain ⟨C, cc, rfl, l1, l2, -⟩ := h.c.form
  obtain ⟨L, lc, rfl, l3, l4, -⟩ := h.l.form
  obtain ⟨BN, bc, e1, l5, l6⟩ := h.bn.form
  obtain ⟨BO, oc, rfl, l7, l8, -⟩ := h.bo.form
  obtain ⟨FN, fc, e2, l9, l10⟩ := h.fn.form
  obtain ⟨FE, ec, e3, l11, l12⟩ := h.fe.form
  subst e1 e2 e3
  obtain ⟨b1, hb1⟩ : ∃ b, b = w.heap.size := ⟨_, rfl⟩
  obtain ⟨nc, hnc⟩ : ∃ n, t.cuts.length = n := ⟨_, rfl⟩
  obtain ⟨nl, hnl⟩ : ∃ n, t.letters.length = n := ⟨_, rfl⟩
  obtain ⟨nb, hnb⟩ : ∃ n, t.bn.length = n := ⟨_, rfl⟩
  obtain ⟨no, hno⟩ : ∃ n, t.bo.length = n := ⟨_, rfl⟩
  obtain ⟨nf, hnf⟩ : ∃ n, t.fn.length = n := ⟨_, rfl⟩
  obtain ⟨ne, hne⟩ : ∃ n, t.fe.length = n := ⟨_, rfl⟩
  obtain ⟨W0, hW0⟩ : ∃ W, w.alloc (.cells #[.slice C nc cc, .slice L nl lc, .slice BN nb bc, .slice BO no oc, .slice FN nf fc, .slice FE ne ec] 32) = W := ⟨_, rfl⟩
  have hb0 : Below w.heap.size w W0 := by rw [<- hW0]; exact (Below.refl _ _).alloc (Nat.le_refl _) _
  have xb : Blk W0 b1 32 #[.slice C nc cc, .slice L nl lc, .slice BN nb bc, .slice BO no oc, .slice FN nf fc, .slice FE ne ec] := by rw [<- hW0, hb1]; exact Blk.new _ _ _
  have hc := h.c.below hb0; have hlr := h.l.below hb0; have hbn := h.bn.below hb0; have hbo := h.bo.below hb0; have hfn := h.fn.below hb0; have hfe := h.fe.below hb0
  simp only [hnc, hnl, hnb, hno, hnf, hne] at hc hlr hbn hbo hfn hfe l1 l3 l5 l7 l9 l11 hl ⊢
  have HC := Lib.hid hc; have HLR := Lib.hid hlr; have HBN := Lib.hid hbn; have HBO := Lib.hid hbo; have HFN := Lib.hid hfn; have HFE := Lib.hid hfe
  have XB := Lib.hid xb; have HW0 := Lib.hid hW0; have HB0 := Lib.hid hb0; have EB := Lib.hid hb1
  have HNC := Lib.hid hnc; have HNL := Lib.hid hnl; have HNB := Lib.hid hnb; have HNO := Lib.hid hno; have HNF := Lib.hid hnf; have HNE := Lib.hid hne
  clear h hc hlr hbn hbo hfn hfe xb hW0 hb0 hb1 hnc hnl hnb hno hnf hne
  go_enter Try.func24, Try.ntmps24
  go_wp2_with fail
  rw [HW0.out, <- EB.out]
  refine (rlettered_any HLR.out (by omega)).mono ?_
  intro e w2 hlo
  unfold LetO at hlo
  obtain ⟨k, b, rfl, hb1, hk, hw⟩ := hlo
  subst w2
  clear HW0 EB
  have HBL := Lib.hid hb1
  clear hb1
  have k0 := XB.out.cell 0
  have k1 := XB.out.cell 1
  have k2 := XB.out.cell 2
  have k3 := XB.out.cell 3
  have k4 := XB.out.cell 4
  have k5 := XB.out.cell 5
  simp only [List.getElem?_toArray, List.getElem?_cons_zero, List.getElem?_cons_succ] at k0 k1 k2 k3 k4 k5
  cases b with
  | false =>
    go_wp2_with fail
    go_ret
    unfold RrO
    exact ⟨false, rfl, ⟨(fun e => by cases e), fun e => absurd e (fun e => by have := HBL.out.2 ⟨e.lettered, cntL_pos e.lettered (by rw [e.lets]; exact e.len.1)⟩; cases this)⟩, HB0.out⟩
  | true =>
    obtain ⟨nn, hnn⟩ : ∃ n, cntL t.letters = n := ⟨_, rfl⟩
    have hk2 := hk rfl
    rw [hnn] at hk2
    subst hk2
    have hnn2 := cntL_le t.letters
    rw [hnn, HNL.out] at hnn2
    have hnn0 := (HBL.out.1 rfl).2
    rw [hnn] at hnn0
    have HNN := Lib.hid hnn
    have HLET := Lib.hid (HBL.out.1 rfl).1
    clear hk hnn HBL
    by_cases e1 : nc = nl
    rotate_left
    ·have m1 : ((nc : Int) != (nl : Int)) = true := by simp; omega
     have m2 : ¬ (nc : Int) = (nl : Int) := by omega
     go_wp2_with fail
     go_ret
     unfold RrO
     exact ⟨false, rfl, ⟨(fun e => by cases e), fun e => absurd e (fun e => e1 (by rw [<- HNC.out, <- HNL.out]; exact e.lets.symm))⟩, HB0.out⟩
    subst e1
    have m1 : ((nc : Int) != (nc : Int)) = false := by simp
    rcases Nat.lt_or_ge 100000 nc with e2 | e2
    ·have m2 : (100000 : Int) < (nc : Int) := by omega
     go_wp2_with fail
     go_ret
     unfold RrO
     exact ⟨false, rfl, ⟨(fun e => by cases e), fun e => absurd e (fun e => by have := e.len.2; rw [HNC.out] at this; omega)⟩, HB0.out⟩
    have m2 : ¬ (100000 : Int) < (nc : Int) := by omega
    have m3 : (0 : Int) < (nc : Int) := by omega
    obtain ⟨g0, o0, e0, -, q0⟩ := HC.out.at 0 (by omega)
    subst e0
    rw [Nat.add_zero] at q0
    obtain ⟨y0, hy0⟩ : ∃ y, t.cuts.getD 0 0 = y := ⟨_, rfl⟩
    rw [hy0] at q0
    have HY0 := Lib.hid hy0
    clear hy0
    by_cases e3 : y0 = 0
    rotate_left
    ·have m4 : (y0 != 0) = true := by simpa using e3
     go_wp2_with fail
     go_ret
     unfold RrO
     exact ⟨false, rfl, ⟨(fun e => by cases e), fun e => absurd e (fun e => e3 (by rw [<- HY0.out]; exact e.zero))⟩, HB0.out⟩
    subst e3
    go_wp2_with fail
    refine (rsteps_any HBN.out (by omega)).mono ?_
    intro e w3 hs
    unfold StO at hs
    obtain ⟨s1, rfl, hs1, hw⟩ := hs
    subst w3
    have HS1 := Lib.hid hs1
    clear hs1
    cases s1 with
    | false =>
      go_wp2_with fail
      go_ret
      unfold RrO
      exact ⟨false, rfl, ⟨(fun e => by cases e), fun e => absurd e (fun e => by have := HS1.out.2 (by rw [<- HNN.out]; exact e.back); cases this)⟩, HB0.out⟩
    | true =>
      have HS1' := Lib.hid (HS1.out.1 rfl)
      clear HS1
      go_wp2_with fail
      refine (rsteps_any HFN.out (by omega)).mono ?_
      intro e w4 hs
      unfold StO at hs
      obtain ⟨s2, rfl, hs2, hw⟩ := hs
      subst w4
      have HS2 := Lib.hid hs2
      clear hs2
      cases s2 with
      | false =>
        go_wp2_with fail
        go_ret
        unfold RrO
        exact ⟨false, rfl, ⟨(fun e => by cases e), fun e => absurd e (fun e => by have := HS2.out.2 (by rw [<- HNN.out]; exact e.fwd); cases this)⟩, HB0.out⟩
      | true =>
        have HS2' := Lib.hid (HS2.out.1 rfl)
        clear HS2
        by_cases e4 : no = nb
        rotate_left
        ·have m5 : ((no : Int) != (nb : Int)) = true := by simp; omega
         have m5' : ¬ (no : Int) = (nb : Int) := by omega
         go_wp2_with fail
         go_ret
         unfold RrO
         exact ⟨false, rfl, ⟨(fun e => by cases e), fun e => absurd e (fun e => e4 (by rw [<- HNO.out, <- HNB.out]; exact e.outs.1))⟩, HB0.out⟩
        subst e4
        have m5 : ((no : Int) != (no : Int)) = false := by simp
        by_cases e5 : ne = nf
        rotate_left
        ·have m6 : ((ne : Int) != (nf : Int)) = true := by simp; omega
         have m6' : ¬ (ne : Int) = (nf : Int) := by omega
         go_wp2_with fail
         go_ret
         unfold RrO
         exact ⟨false, rfl, ⟨(fun e => by cases e), fun e => absurd e (fun e => e5 (by rw [<- HNE.out, <- HNF.out]; exact e.emits.1))⟩, HB0.out⟩
        subst e5
        have m6 : ((ne : Int) != (ne : Int)) = false := by simp
        go_wp2_with fail
        clear q0 k0 k1 k2 k3 k4 k5 m5 m6 m1
        go_loopw [5] (fun vi wr => ∃ i : Nat, vi = .int .i64 (i : Int) /\ 1 <= i /\ i <= nc /\ Hid (RiseK t.cuts i) /\ Hid (Below W0.heap.size W0 wr)) (fun vi _ => nc - (intOf vi).toNat)
        case atStart => exact ⟨1, rfl, Nat.le_refl _, by omega, Lib.hid (fun j hj => ⟨fun h => absurd h (by omega), by obtain rfl : j = 0 := (by omega); rw [HY0.out]; omega⟩), Lib.hid (Below.refl _ _)⟩
        case round =>
         obtain ⟨i, rfl, hi1, hi, HJ, HBW⟩ := hrel
         have i0 : (0 : Int) <= (i : Int) := Int.natCast_nonneg _
         have hx := Blk.below XB.out HBW.out XB.out.lt
         by_cases hlt : i < nc
         ·have i1 : (i : Int) < (nc : Int) := by omega
          have hh := HC.out.below HBW.out
          obtain ⟨g, o, e, -, ca⟩ := hh.at i hlt
          simp only [Option.some.injEq, Addr.mk.injEq, and_true] at e
          obtain ⟨rfl, rfl⟩ := e
          obtain ⟨g, o, e, -, cb⟩ := hh.at (i - 1) (by omega)
          simp only [Option.some.injEq, Addr.mk.injEq, and_true] at e
          obtain ⟨rfl, rfl⟩ := e
          have k0 := hx.cell 0
          simp only [List.getElem?_toArray, List.getElem?_cons_zero, List.getElem?_cons_succ] at k0
          obtain ⟨y, hy⟩ : ∃ y, t.cuts.getD i 0 = y := ⟨_, rfl⟩
          obtain ⟨x, hx0⟩ : ∃ x, t.cuts.getD (i - 1) 0 = x := ⟨_, rfl⟩
          rw [hy] at ca
          rw [hx0] at cb
          have HY := Lib.hid hy; have HX := Lib.hid hx0
          have HBAD : Hid (¬ (x < y /\ y <= 1114111) -> ¬ RightT t) := Lib.hid (fun h => riseK_bad hi1 (by rw [HNC.out]; exact hlt) (by rw [HY.out, HX.out]; exact h))
          have m1 : IntKind.i64.wrap ((i : Int) - 1) = (i : Int) - 1 := IntWalk.i64_in _ (by omega)
          have m4 : (1 : Int) <= (i : Int) := by omega
          have m5 : (0 : Int) <= (i : Int) - 1 := by omega
          have m6 : (i : Int) - 1 < (nc : Int) := by omega
          have m7 : ((i : Int) - 1).toNat = i - 1 := by omega
          clear hh hx hy hx0
          rcases Int.lt_or_le x y with e1 | e1
          rotate_left
          ·have t1 : decide (y <= x) = true := by simpa using e1
           go_wp2_with fail
           go_big_quiet (fail)
           go_wp2_with fail
           go_ret
           unfold RrO
           exact ⟨false, rfl, ⟨(fun e => by cases e), fun e => absurd e (HBAD.out (by omega))⟩, HB0.out.trans ((HBW.out.trans (show Below W0.heap.size wr (wr.drewN nq) from ⟨rfl, rfl, rfl, Nat.le_refl _, fun _ _ => rfl⟩)).mono HB0.out.size)⟩
          have e1' : ¬ y <= x := by omega
          have t1 : decide (y <= x) = false := by simpa using e1
          rcases Int.lt_or_le 1114111 y with e2 | e2
          ·have t2 : decide (1114111 < y) = true := by simpa using e2
           go_wp2_with fail
           go_big_quiet (fail)
           go_wp2_with fail
           go_ret
           unfold RrO
           exact ⟨false, rfl, ⟨(fun e => by cases e), fun e => absurd e (HBAD.out (by omega))⟩, HB0.out.trans ((HBW.out.trans (show Below W0.heap.size wr (wr.drewN nq) from ⟨rfl, rfl, rfl, Nat.le_refl _, fun _ _ => rfl⟩)).mono HB0.out.size)⟩
          have e2' : ¬ 1114111 < y := by omega
          have t2 : decide (1114111 < y) = false := by simpa using e2
          go_wp2_with fail
          go_big_quiet (fail)
          go_wp2_with fail
          exact ⟨⟨i + 1, by go_num, by omega, by omega, Lib.hid (fun j hj => by
           by_cases e : j = i
           ·subst e; rw [HY.out, HX.out]; exact ⟨fun _ => e1, e2⟩
           ·exact HJ.out j (by omega)), Lib.hid (HBW.out.trans ⟨rfl, rfl, rfl, Nat.le_refl _, fun _ _ => rfl⟩)⟩, by simp [intOf]; omega⟩
         ·obtain rfl : nc = i := by omega
          have HRISE : Hid (RiseR t.cuts) := Lib.hid (riseK_rise HY0.out (by rw [HNC.out]; exact HJ.out))
          have k0 := hx.cell 0
          simp only [List.getElem?_toArray, List.getElem?_cons_zero, List.getElem?_cons_succ] at k0
          obtain ⟨W1, hW1⟩ : ∃ W, W = wr := ⟨_, rfl⟩
          rw [<- hW1] at HBW k0 ⊢
          replace XB := Lib.hid (Blk.below XB.out HBW.out XB.out.lt)
          replace HBO := Lib.hid (HBO.out.below HBW.out)
          replace HFE := Lib.hid (HFE.out.below HBW.out)
          replace HB0 := Lib.hid (HB0.out.trans (HBW.out.mono HB0.out.size))
          clear hx HJ hi1 hi hlt i0 hW1 HBW HC HLR HBN HFN
          go_wp2_with fail
          clear k0
          go_loopw [6, 7] (fun vh vi wr => ∃ i : Nat, vi = .int .i64 (i : Int) /\ i <= no /\ vh = .int .i64 (maxL (t.bo.take i)) /\ Hid (OutsK t.bo i) /\ Hid (wr = W1)) (fun _ vi _ => no - (intOf vi).toNat)
          case atStart => exact ⟨0, rfl, Nat.zero_le _, rfl, Lib.hid (fun j hj => absurd hj (Nat.not_lt_zero j)), Lib.hid rfl⟩
          case round =>
           obtain ⟨i, rfl, hi, rfl, HJ, HWE⟩ := hrel
           have i0 : (0 : Int) <= (i : Int) := Int.natCast_nonneg _
           have hx := XB.out
           rw [<- HWE.out] at hx
           have k3 := hx.cell 3
           simp only [List.getElem?_toArray, List.getElem?_cons_zero, List.getElem?_cons_succ] at k3
           by_cases hlt : i < no
           ·have i1 : (i : Int) < (no : Int) := by omega
            have hh := HBO.out
            rw [<- HWE.out] at hh
            obtain ⟨g, o, e, -, ca⟩ := hh.at i hlt
            subst e
            have hs := maxL_take_succ (l := t.bo) (i := i) (by rw [HNO.out]; exact hlt)
            obtain ⟨y, hy⟩ : ∃ y, t.bo.getD i 0 = y := ⟨_, rfl⟩
            obtain ⟨s, hsq⟩ : ∃ s, maxL (t.bo.take i) = s := ⟨_, rfl⟩
            rw [hy] at ca hs
            rw [hsq] at hs ⊢
            have HY := Lib.hid hy; have HS := Lib.hid hs
            have HBAD : Hid (¬ (0 <= y /\ y <= 99999) -> ¬ RightT t) := Lib.hid (fun h => outsK_bad (by rw [HNO.out]; exact hlt) (by rw [HY.out]; exact h))
            clear hh hx hy hs hsq
            rcases Int.lt_or_le y 0 with e1 | e1
            ·have t1 : decide (y < 0) = true := by simpa using e1
             go_wp2_with fail
             go_ret
             unfold RrO
             exact ⟨false, rfl, ⟨(fun e => by cases e), fun e => absurd e (HBAD.out (by omega))⟩, (by rw [HWE.out]; exact HB0.out)⟩
            have e1' : ¬ y < 0 := by omega
            rcases Int.lt_or_le y 100000 with e2 | e2
            rotate_left
            ·go_wp2_with fail
             go_ret
             unfold RrO
             exact ⟨false, rfl, ⟨(fun e => by cases e), fun e => absurd e (HBAD.out (by omega))⟩, (by rw [HWE.out]; exact HB0.out)⟩
            have e2' : ¬ 100000 <= y := by omega
            have HJ1 : Hid (OutsK t.bo (i + 1)) := Lib.hid (fun j hj => by
             by_cases e : j = i
             ·subst e; rw [HY.out]; omega
             ·exact HJ.out j (by omega))
            go_wp2_with fail
            refine ⟨⟨i + 1, by go_num, by omega, ?_, HJ1, HWE⟩, by simp [intOf]; omega⟩
            rw [HS.out]
            rcases Int.lt_or_le s y with r | r
            ·rw [if_pos r]; congr 1; omega
            ·rw [if_neg (by omega)]; congr 1; omega
           ·obtain rfl : no = i := by omega
            have hall : t.bo.take no = t.bo := List.take_of_length_le (by rw [HNO.out]; exact Nat.le_refl _)
            rw [hall]
            have hob := outsK_all (by rw [HNO.out]; exact HJ.out)
            have hm := maxL_le (l := t.bo) (m := 99999) (by decide) (fun o ho => (hob o ho).2)
            obtain ⟨hi9, hhi⟩ : ∃ m, maxL t.bo = m := ⟨_, rfl⟩
            rw [hhi] at hm ⊢
            obtain ⟨hm0, hm1⟩ := hm
            have HHI := Lib.hid hhi; have HOB := Lib.hid hob
            have mw : IntKind.i64.wrap (hi9 + 1) = hi9 + 1 := IntWalk.i64_in _ (by omega)
            obtain ⟨W2, hW2⟩ : ∃ W, W = wr := ⟨_, rfl⟩
            rw [<- hW2] at HWE k3 ⊢
            clear hx HJ hi hlt i0 hW2 hall hob hhi
            go_wp2_with fail
            clear k3
            go_loopw [8] (fun vi wr => ∃ i : Nat, vi = .int .i64 (i : Int) /\ i <= ne /\ Hid (EmK t.fe (hi9 + 1) i) /\ Hid (wr = W1)) (fun vi _ => ne - (intOf vi).toNat)
            case atStart => exact ⟨0, rfl, Nat.zero_le _, Lib.hid (fun j hj => absurd hj (Nat.not_lt_zero j)), HWE⟩
            case round =>
             clear HWE
             obtain ⟨i, rfl, hi, HJ, HWE⟩ := hrel
             have i0 : (0 : Int) <= (i : Int) := Int.natCast_nonneg _
             have hx := XB.out
             rw [<- HWE.out] at hx
             have k5 := hx.cell 5
             simp only [List.getElem?_toArray, List.getElem?_cons_zero, List.getElem?_cons_succ] at k5
             by_cases hlt : i < ne
             ·have i1 : (i : Int) < (ne : Int) := by omega
              have hil : i < t.fe.length := by rw [HNE.out]; exact hlt
              obtain ⟨g, o, A2, k, c2, ea, hk, hcx, hrd, hkc, hc9⟩ := HFE.out.at_ hil
              subst ea
              have HCX := Lib.hid hcx
              rw [<- HWE.out] at hcx
              have HRD := Lib.hid hrd; have HK := Lib.hid hk; have HIL := Lib.hid hil
              clear hrd hk hil hx
              by_cases hmn : (k : Int) = hi9 + 1
              rotate_left
              ·have hmn2 : ((k : Int) != hi9 + 1) = true := by simpa using hmn
               go_wp2_with fail
               go_ret
               unfold RrO
               exact ⟨false, rfl, ⟨(fun e => by cases e), fun e => absurd e (emK_len HIL.out (by rw [HHI.out, <- HK.out]; exact hmn))⟩, (by rw [HWE.out]; exact HB0.out)⟩
              have hmn2 : ((k : Int) != hi9 + 1) = false := by simpa using hmn
              obtain ⟨W3, hW3⟩ : ∃ W, W = wr := ⟨_, rfl⟩
              rw [<- hW3] at HWE k5 hcx ⊢
              clear hW3
              go_wp2_with fail
              clear k5 hcx hmn2
              go_loopw [9] (fun vk wr => ∃ q : Nat, vk = .int .i64 (q : Int) /\ q <= k /\ Hid (∀ p, p < q -> CostV ((t.fe.getD i []).getD p (0, 0, 0))) /\ Hid (wr = W1)) (fun vk _ => k - (intOf vk).toNat)
              case atStart => exact ⟨0, rfl, Nat.zero_le _, Lib.hid (fun j hj => absurd hj (Nat.not_lt_zero j)), HWE⟩
              case round =>
               clear HWE
               obtain ⟨q, rfl, hq, HQ, HWE⟩ := hrel
               have q0 : (0 : Int) <= (q : Int) := Int.natCast_nonneg _
               by_cases hlq : q < k
               ·have q1 : (q : Int) <= hi9 := by omega
                have q2 : (q : Int) < (k : Int) := by omega
                have hql : q < (t.fe.getD i []).length := by rw [<- HK.out]; exact hlq
                obtain ⟨u, hu⟩ : ∃ u, (t.fe.getD i []).getD q (0, 0, 0) = u := ⟨_, rfl⟩
                have hxq : (t.fe.getD i [])[q]? = some u := by rw [<- hu]; exact getD_someE hql
                have hrd0 := HRD.out
                obtain ⟨g2, o2, e, -, hcc⟩ := ReadsE.at hrd0 encV_len (by decide) q _ hxq
                subst e
                have HCC : Hid (∀ c, c < 3 -> W1.cell? ⟨g2, o2 + q * 3 + c, none⟩ = some (.int .i64 ((enVec u).getD c 0))) := Lib.hid (fun c hc => hcc c _ (by
                 rcases (show c = 0 \/ c = 1 \/ c = 2 by omega) with rfl | rfl | rfl <;> rfl))
                have HBAD : Hid (∀ c, c < 3 -> ¬ (0 <= (enVec u).getD c 0 /\ (enVec u).getD c 0 <= 1152921504606846976) -> ¬ RightT t) := Lib.hid (fun c hc h => emK_bad HIL.out hql hc (by rw [hu]; exact h))
                have HU := Lib.hid hu
                obtain ⟨W3, hW3⟩ : ∃ W, W = wr := ⟨_, rfl⟩
                rw [<- hW3] at HWE ⊢
                clear hW3 hxq hrd0 hcc hql hu
                go_wp2_with fail
                go_loopw [10] (fun vc wr => ∃ c : Nat, vc = .int .i64 (c : Int) /\ c <= 3 /\ Hid (CostK u c) /\ Hid (wr = W1)) (fun vc _ => 3 - (intOf vc).toNat)
                case atStart => exact ⟨0, rfl, Nat.zero_le _, Lib.hid (fun j hj => absurd hj (Nat.not_lt_zero j)), HWE⟩
                case round =>
                 clear HWE
                 obtain ⟨c, rfl, hc, HV, HWE⟩ := hrel
                 have c0 : (0 : Int) <= (c : Int) := Int.natCast_nonneg _
                 by_cases hl3 : c < 3
                 ·have c1 : (c : Int) < 3 := by omega
                  have hx := XB.out
                  have ha := HCC.out c hl3
                  have hcx := HCX.out
                  rw [<- HWE.out] at hx ha
                  have k5 := hx.cell 5
                  simp only [List.getElem?_toArray, List.getElem?_cons_zero, List.getElem?_cons_succ] at k5
                  obtain ⟨y, hy⟩ : ∃ y, (enVec u).getD c 0 = y := ⟨_, rfl⟩
                  rw [hy] at ha
                  have HY := Lib.hid hy
                  have HB1 : Hid (¬ (0 <= y /\ y <= 1152921504606846976) -> ¬ RightT t) := Lib.hid (fun h => HBAD.out c hl3 (by rw [hy]; exact h))
                  clear hx hy
                  rw [<- HWE.out] at hcx
                  rcases Int.lt_or_le y 0 with e1 | e1
                  ·go_wp2_with fail
                   go_ret
                   unfold RrO
                   exact ⟨false, rfl, ⟨(fun e => by cases e), fun e => absurd e (HB1.out (by omega))⟩, (by rw [HWE.out]; exact HB0.out)⟩
                  have e1' : ¬ y < 0 := by omega
                  rcases Int.lt_or_le 1152921504606846976 y with e2 | e2
                  ·go_wp2_with fail
                   go_ret
                   unfold RrO
                   exact ⟨false, rfl, ⟨(fun e => by cases e), fun e => absurd e (HB1.out (by omega))⟩, (by rw [HWE.out]; exact HB0.out)⟩
                  have e2' : ¬ 1152921504606846976 < y := by omega
                  go_wp2_with fail
                  exact ⟨⟨c + 1, by go_num, by omega, Lib.hid (fun p hp => by
                   by_cases e : p = c
                   ·subst e; rw [HY.out]; exact ⟨e1, e2⟩
                   ·exact HV.out p (by omega)), HWE⟩, by simp [intOf]; omega⟩
                 ·obtain rfl : c = 3 := by omega
                  go_wp2_with fail
                  exact ⟨⟨q + 1, by go_num, by omega, Lib.hid (fun p hp => by
                   by_cases e : p = q
                   ·subst e; rw [HU.out]; exact costK_all HV.out
                   ·exact HQ.out p (by omega)), HWE⟩, by simp [intOf]; omega⟩
               ·obtain rfl : k = q := by omega
                have q1 : ¬ (k : Int) <= hi9 := by omega
                go_wp2_with fail
                exact ⟨⟨i + 1, by go_num, by omega, Lib.hid (fun p hp => by
                 by_cases e : p = i
                 ·subst e; exact ⟨by rw [<- HK.out]; exact hmn, fun p hp => HQ.out p (by rw [HK.out]; exact hp)⟩
                 ·exact HJ.out p (by omega)), HWE⟩, by simp [intOf]; omega⟩
             ·obtain rfl : ne = i := by omega
              go_wp2_with fail
              go_ret
              unfold RrO
              refine ⟨true, rfl, ⟨fun _ => (rightT_parts t).2 ⟨⟨⟨by rw [HNC.out]; omega, by rw [HNC.out]; exact e2⟩, by rw [HNL.out, HNC.out], HRISE.out, HLET.out⟩, ⟨by rw [HNN.out]; exact HS1'.out, by rw [HNO.out, HNB.out], HOB.out⟩, by rw [HNN.out]; exact HS2'.out, by rw [HNE.out, HNF.out], by rw [HHI.out]; exact emK_all (by rw [HNE.out]; exact HJ.out)⟩, fun _ => rfl⟩, by rw [HWE.out]; exact HB0.out⟩
end Go.Proofs.Ytacgakkcpmhgmaa
