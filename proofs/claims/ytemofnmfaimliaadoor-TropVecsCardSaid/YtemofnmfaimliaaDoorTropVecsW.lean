/- The law TropVecs returns true, whatever its seven numbers. -/
import Derived.Test.YtemofnmfaimliaaDoorTropTextsW
import Derived.Test.YtemofnmfaimliaaDoorTropSumsW
namespace Go.Proofs.YtemofnmfaimliaaDoor
open Go.RowKit

theorem lesser_min (x y : Int) (hx : IsCost x) : lesser x y = min x y := by rw [lesser_eq x y hx]; split <;> omega
theorem min_cost (x y : Int) (hx : IsCost x) (hy : IsCost y) : IsCost (min x y) := by unfold IsCost at *; omega
theorem plus_min (x y q : Int) : plus (min x y) q = min (plus x q) (plus y q) := by
  unfold plus; (repeat' split) <;> omega

theorem keepNine {w W v : World} {b bz : Nat} {x0 x1 x2 y0 y1 y2 m0 m1 m2 : Int}
    (h : W.cell? ⟨b, 0, none⟩ = some (.int .i64 x0) ∧ W.cell? ⟨b, 1, none⟩ = some (.int .i64 x1) ∧ W.cell? ⟨b, 2, none⟩ = some (.int .i64 x2) ∧ W.cell? ⟨b + 1, 0, none⟩ = some (.int .i64 y0) ∧ W.cell? ⟨b + 1, 1, none⟩ = some (.int .i64 y1) ∧ W.cell? ⟨b + 1, 2, none⟩ = some (.int .i64 y2) ∧ W.cell? ⟨bz, 0, none⟩ = some (.int .i64 m0) ∧ W.cell? ⟨bz, 1, none⟩ = some (.int .i64 m1) ∧ W.cell? ⟨bz, 2, none⟩ = some (.int .i64 m2) ∧ b + 2 ≤ W.heap.size ∧ bz < W.heap.size ∧ Good w W)
    (hb : Below W.heap.size W v) :
    v.cell? ⟨b, 0, none⟩ = some (.int .i64 x0) ∧ v.cell? ⟨b, 1, none⟩ = some (.int .i64 x1) ∧ v.cell? ⟨b, 2, none⟩ = some (.int .i64 x2) ∧ v.cell? ⟨b + 1, 0, none⟩ = some (.int .i64 y0) ∧ v.cell? ⟨b + 1, 1, none⟩ = some (.int .i64 y1) ∧ v.cell? ⟨b + 1, 2, none⟩ = some (.int .i64 y2) ∧ v.cell? ⟨bz, 0, none⟩ = some (.int .i64 m0) ∧ v.cell? ⟨bz, 1, none⟩ = some (.int .i64 m1) ∧ v.cell? ⟨bz, 2, none⟩ = some (.int .i64 m2) ∧ b + 2 ≤ v.heap.size ∧ bz < v.heap.size ∧ Good w v := by
  obtain ⟨h0, h1, h2, h3, h4, h5, h6, h7, h8, h9, h10, h11⟩ := h
  have hc := (bcell hb).1
  have hz := hb.size
  exact ⟨by rw [hc _ _ (by omega)]; exact h0, by rw [hc _ _ (by omega)]; exact h1, by rw [hc _ _ (by omega)]; exact h2, by rw [hc _ _ (by omega)]; exact h3, by rw [hc _ _ (by omega)]; exact h4, by rw [hc _ _ (by omega)]; exact h5, by rw [hc _ _ (by omega)]; exact h6, by rw [hc _ _ (by omega)]; exact h7, by rw [hc _ _ (by omega)]; exact h8, by omega, by omega, h11.step hb⟩
theorem keepNineDrew {w W : World} {b bz : Nat} {x0 x1 x2 y0 y1 y2 m0 m1 m2 : Int}
    (h : W.cell? ⟨b, 0, none⟩ = some (.int .i64 x0) ∧ W.cell? ⟨b, 1, none⟩ = some (.int .i64 x1) ∧ W.cell? ⟨b, 2, none⟩ = some (.int .i64 x2) ∧ W.cell? ⟨b + 1, 0, none⟩ = some (.int .i64 y0) ∧ W.cell? ⟨b + 1, 1, none⟩ = some (.int .i64 y1) ∧ W.cell? ⟨b + 1, 2, none⟩ = some (.int .i64 y2) ∧ W.cell? ⟨bz, 0, none⟩ = some (.int .i64 m0) ∧ W.cell? ⟨bz, 1, none⟩ = some (.int .i64 m1) ∧ W.cell? ⟨bz, 2, none⟩ = some (.int .i64 m2) ∧ b + 2 ≤ W.heap.size ∧ bz < W.heap.size ∧ Good w W) :
    W.drew.cell? ⟨b, 0, none⟩ = some (.int .i64 x0) ∧ W.drew.cell? ⟨b, 1, none⟩ = some (.int .i64 x1) ∧ W.drew.cell? ⟨b, 2, none⟩ = some (.int .i64 x2) ∧ W.drew.cell? ⟨b + 1, 0, none⟩ = some (.int .i64 y0) ∧ W.drew.cell? ⟨b + 1, 1, none⟩ = some (.int .i64 y1) ∧ W.drew.cell? ⟨b + 1, 2, none⟩ = some (.int .i64 y2) ∧ W.drew.cell? ⟨bz, 0, none⟩ = some (.int .i64 m0) ∧ W.drew.cell? ⟨bz, 1, none⟩ = some (.int .i64 m1) ∧ W.drew.cell? ⟨bz, 2, none⟩ = some (.int .i64 m2) ∧ b + 2 ≤ W.drew.heap.size ∧ bz < W.drew.heap.size ∧ Good w W.drew := keepNine h ((Below.refl _ _).drew)
theorem belowNine {w W : World} {p0 p1 p2 p3 p4 p5 p6 p7 p8 p9 p10 : Prop} (h : p0 ∧ p1 ∧ p2 ∧ p3 ∧ p4 ∧ p5 ∧ p6 ∧ p7 ∧ p8 ∧ p9 ∧ p10 ∧ Good w W) : Below w.heap.size w W := h.2.2.2.2.2.2.2.2.2.2.2.2

theorem index_vec (a b c : Int) : (∀ w : World, (Instr.index 31 (.agg #[.int .i64 a, .int .i64 b, .int .i64 c]) (.int .i64 0)).run Tryd.prog w = .ok (.int .i64 a) w) ∧ (∀ w : World, (Instr.index 31 (.agg #[.int .i64 a, .int .i64 b, .int .i64 c]) (.int .i64 1)).run Tryd.prog w = .ok (.int .i64 b) w) ∧ (∀ w : World, (Instr.index 31 (.agg #[.int .i64 a, .int .i64 b, .int .i64 c]) (.int .i64 2)).run Tryd.prog w = .ok (.int .i64 c) w) :=
  ⟨fun _ => by kernel_rfl, fun _ => by kernel_rfl, fun _ => by kernel_rfl⟩

set_option maxHeartbeats 4000000 in
theorem vecs_walk (a b c d e f n : Int) (w : World) (wa : (Lit.int .i64 a).wf = true) (wb : (Lit.int .i64 b).wf = true) (wc : (Lit.int .i64 c).wf = true) (wd : (Lit.int .i64 d).wf = true) (we : (Lit.int .i64 e).wf = true) (wf : (Lit.int .i64 f).wf = true) (wn : (Lit.int .i64 n).wf = true) (ht : Tab w) :
    Calls Tryd.prog 5 #[.int .i64 a, .int .i64 b, .int .i64 c, .int .i64 d, .int .i64 e, .int .i64 f, .int .i64 n] w fun e w' => e = .returned (.bool true) ∧ Below w.heap.size w w' := by
  have HG := Lib.hid (Good.start ht); have WA := Lib.hid wa; have WB := Lib.hid wb; have WC := Lib.hid wc; have WD := Lib.hid wd; have WE := Lib.hid we; have WF := Lib.hid wf; have WN := Lib.hid wn; clear ht wa wb wc wd we wf wn
  go_enter Tryd.func5, Tryd.ntmps5
  go_wp2_with fail
  refine (known_any _ HG.out.1).mono ?_
  rintro r w1 ⟨rfl, hb1⟩
  have HG1 := Lib.hid (HG.out.step hb1); clear hb1
  go_wp2_with fail
  refine (vec_any a b c _ WA.out WB.out WC.out).mono ?_
  rintro r w2 ⟨rfl, hb2⟩
  have HG2 := Lib.hid (HG1.out.step hb2); clear hb2
  go_wp2_with fail
  refine (vec_any d e f _ WD.out WE.out WF.out).mono ?_
  rintro r w3 ⟨rfl, hb3⟩
  have HG3 := Lib.hid (HG2.out.step hb3); clear hb3
  go_wp2_with fail
  refine (cost_any n _ WN.out).mono ?_; rintro r w' ⟨rfl, rfl⟩
  have H0 := Lib.hid (cost_is a); have H1 := Lib.hid (cost_is b); have H2 := Lib.hid (cost_is c)
  have H3 := Lib.hid (cost_is d); have H4 := Lib.hid (cost_is e); have H5 := Lib.hid (cost_is f); have HQ := Lib.hid (cost_is n)
  generalize cost a = x0 at *
  generalize cost b = x1 at *
  generalize cost c = x2 at *
  generalize cost d = y0 at *
  generalize cost e = y1 at *
  generalize cost f = y2 at *
  generalize cost n = q at *
  clear WA WB WC WD WE WF WN HG HG1 HG2
  go_wp2_with fail
  refine (both_x x0 x1 x2 y0 y1 y2 _).mono ?_
  rintro r w5 ⟨rfl, hb5⟩
  rw [lesser_min x0 y0 H0.out, lesser_min x1 y1 H1.out, lesser_min x2 y2 H2.out]
  go_wp2_with fail
  have hS : (w5.alloc (.cells #[.int .i64 (min x0 y0), .int .i64 (min x1 y1), .int .i64 (min x2 y2)] 31)).cell? ⟨w3.heap.size, 0, none⟩ = some (.int .i64 x0) ∧ (w5.alloc (.cells #[.int .i64 (min x0 y0), .int .i64 (min x1 y1), .int .i64 (min x2 y2)] 31)).cell? ⟨w3.heap.size, 1, none⟩ = some (.int .i64 x1) ∧ (w5.alloc (.cells #[.int .i64 (min x0 y0), .int .i64 (min x1 y1), .int .i64 (min x2 y2)] 31)).cell? ⟨w3.heap.size, 2, none⟩ = some (.int .i64 x2) ∧ (w5.alloc (.cells #[.int .i64 (min x0 y0), .int .i64 (min x1 y1), .int .i64 (min x2 y2)] 31)).cell? ⟨w3.heap.size + 1, 0, none⟩ = some (.int .i64 y0) ∧ (w5.alloc (.cells #[.int .i64 (min x0 y0), .int .i64 (min x1 y1), .int .i64 (min x2 y2)] 31)).cell? ⟨w3.heap.size + 1, 1, none⟩ = some (.int .i64 y1) ∧ (w5.alloc (.cells #[.int .i64 (min x0 y0), .int .i64 (min x1 y1), .int .i64 (min x2 y2)] 31)).cell? ⟨w3.heap.size + 1, 2, none⟩ = some (.int .i64 y2) ∧ (w5.alloc (.cells #[.int .i64 (min x0 y0), .int .i64 (min x1 y1), .int .i64 (min x2 y2)] 31)).cell? ⟨w5.heap.size, 0, none⟩ = some (.int .i64 (min x0 y0)) ∧ (w5.alloc (.cells #[.int .i64 (min x0 y0), .int .i64 (min x1 y1), .int .i64 (min x2 y2)] 31)).cell? ⟨w5.heap.size, 1, none⟩ = some (.int .i64 (min x1 y1)) ∧ (w5.alloc (.cells #[.int .i64 (min x0 y0), .int .i64 (min x1 y1), .int .i64 (min x2 y2)] 31)).cell? ⟨w5.heap.size, 2, none⟩ = some (.int .i64 (min x2 y2)) ∧ w3.heap.size + 2 ≤ (w5.alloc (.cells #[.int .i64 (min x0 y0), .int .i64 (min x1 y1), .int .i64 (min x2 y2)] 31)).heap.size ∧ w5.heap.size < (w5.alloc (.cells #[.int .i64 (min x0 y0), .int .i64 (min x1 y1), .int .i64 (min x2 y2)] 31)).heap.size ∧ Good w (w5.alloc (.cells #[.int .i64 (min x0 y0), .int .i64 (min x1 y1), .int .i64 (min x2 y2)] 31)) := by
    have hc := (bcell hb5).1
    have hz := hb5.size
    simp only [World.size_alloc] at hc hz
    have hg := (((HG3.out.alloc (.cells #[.int .i64 x0, .int .i64 x1, .int .i64 x2] 31)).alloc (.cells #[.int .i64 y0, .int .i64 y1, .int .i64 y2] 31)).step hb5).alloc (.cells #[.int .i64 (min x0 y0), .int .i64 (min x1 y1), .int .i64 (min x2 y2)] 31)
    refine ⟨?_, ?_, ?_, ?_, ?_, ?_, by simp [go_sem], by simp [go_sem], by simp [go_sem], by simp; omega, by simp, hg⟩
    all_goals
      rw [World.cell?_alloc_past _ _ _ (by omega), hc _ _ (by omega)]
      simp [go_sem]
  clear hb5 HG3
  have B1 := Lib.hid (fun w => both_x y0 y1 y2 x0 x1 x2 w)
  simp only [lesser_min y0 x0 H3.out, lesser_min y1 x1 H4.out, lesser_min y2 x2 H5.out, Int.min_comm y0 x0, Int.min_comm y1 x1, Int.min_comm y2 x2] at B1
  have B2 := Lib.hid (fun w => both_x x0 x1 x2 x0 x1 x2 w)
  simp only [lesser_min x0 x0 H0.out, lesser_min x1 x1 H1.out, lesser_min x2 x2 H2.out, Int.min_self] at B2
  have B3 := Lib.hid (fun w => both_x x0 x1 x2 1152921504606846976 1152921504606846976 1152921504606846976 w)
  simp only [lesser_min x0 _ H0.out, lesser_min x1 _ H1.out, lesser_min x2 _ H2.out, Int.min_eq_left H0.out.2, Int.min_eq_left H1.out.2, Int.min_eq_left H2.out.2] at B3
  have P1 := Lib.hid (fun w => plus_x (min x0 y0) (min x1 y1) (min x2 y2) q w (min_cost _ _ H0.out H3.out) (min_cost _ _ H1.out H4.out) (min_cost _ _ H2.out H5.out) HQ.out)
  have P2 := Lib.hid (fun w => plus_x x0 x1 x2 q w H0.out H1.out H2.out HQ.out)
  have P3 := Lib.hid (fun w => plus_x y0 y1 y2 q w H3.out H4.out H5.out HQ.out)
  have B4 := Lib.hid (fun w => both_x (plus x0 q) (plus x1 q) (plus x2 q) (plus y0 q) (plus y1 q) (plus y2 q) w)
  simp only [lesser_min _ _ (plus_is x0 q H0.out HQ.out), lesser_min _ _ (plus_is x1 q H1.out HQ.out), lesser_min _ _ (plus_is x2 q H2.out HQ.out), ← plus_min x0 y0 q, ← plus_min x1 y1 q, ← plus_min x2 y2 q] at B4
  have P4 := Lib.hid (fun w => plus_x x0 x1 x2 0 w H0.out H1.out H2.out (isCost_of (by omega) (by omega)))
  simp only [plus_zero x0 H0.out, plus_zero x1 H1.out, plus_zero x2 H2.out] at P4
  have P5 := Lib.hid (fun w => plus_x x0 x1 x2 1152921504606846976 w H0.out H1.out H2.out (isCost_of (by omega) (by omega)))
  rw [show plus x0 1152921504606846976 = 1152921504606846976 from (plus_comm _ _).symm.trans (plus_inf x0 H0.out), show plus x1 1152921504606846976 = 1152921504606846976 from (plus_comm _ _).symm.trans (plus_inf x1 H1.out), show plus x2 1152921504606846976 = 1152921504606846976 from (plus_comm _ _).symm.trans (plus_inf x2 H2.out)] at P5
  have A0 := Lib.hid (fun w => refadd_any x0 q w H0.out HQ.out)
  have A1 := Lib.hid (fun w => refadd_any x1 q w H1.out HQ.out)
  have A2 := Lib.hid (fun w => refadd_any x2 q w H2.out HQ.out)
  obtain ⟨ix0, ix1, ix2⟩ := index_vec (plus x0 q) (plus x1 q) (plus x2 q)
  generalize w5.alloc (.cells #[.int .i64 (min x0 y0), .int .i64 (min x1 y1), .int .i64 (min x2 y2)] 31) = W at *
  generalize w5.heap.size = bz at *
  generalize w3.heap.size = bx at *
  generalize hm0 : min x0 y0 = m0 at *
  generalize hm1 : min x1 y1 = m1 at *
  generalize hm2 : min x2 y2 = m2 at *
  generalize plus m0 q = p0 at *
  generalize plus m1 q = p1 at *
  generalize plus m2 q = p2 at *
  generalize plus x0 q = u0 at *
  generalize plus x1 q = u1 at *
  generalize plus x2 q = u2 at *
  generalize plus y0 q = v0 at *
  generalize plus y1 q = v1 at *
  generalize plus y2 q = v2 at *
  clear H0 H1 H2 H3 H4 H5 HQ
  refine wp_loop_rounds 4 ?_; rw [rounds_succ]
  go_wp2_with fail
  go_region_held3 (fun w' => w'.cell? ⟨bx, 0, none⟩ = some (.int .i64 x0) ∧ w'.cell? ⟨bx, 1, none⟩ = some (.int .i64 x1) ∧ w'.cell? ⟨bx, 2, none⟩ = some (.int .i64 x2) ∧ w'.cell? ⟨bx + 1, 0, none⟩ = some (.int .i64 y0) ∧ w'.cell? ⟨bx + 1, 1, none⟩ = some (.int .i64 y1) ∧ w'.cell? ⟨bx + 1, 2, none⟩ = some (.int .i64 y2) ∧ w'.cell? ⟨bz, 0, none⟩ = some (.int .i64 m0) ∧ w'.cell? ⟨bz, 1, none⟩ = some (.int .i64 m1) ∧ w'.cell? ⟨bz, 2, none⟩ = some (.int .i64 m2) ∧ bx + 2 ≤ w'.heap.size ∧ bz < w'.heap.size ∧ Good w w')
        (first
          | assumption
          | (refine keepNineDrew ?_; assumption)
          | (refine keepNine ?_ hb; assumption))
        (first
          | (go_at_call 18; (with_reducible refine (P2.out _).mono ?_); rintro r v ⟨rfl, hb⟩)
          | (go_at_call 13; (with_reducible refine (A0.out _).mono ?_); rintro r v ⟨rfl, rfl⟩))
  all_goals
    go_wp2_with fail
    rw [rounds_succ]
    go_wp2_with fail
    go_region_held3 (fun w' => w'.cell? ⟨bx, 0, none⟩ = some (.int .i64 x0) ∧ w'.cell? ⟨bx, 1, none⟩ = some (.int .i64 x1) ∧ w'.cell? ⟨bx, 2, none⟩ = some (.int .i64 x2) ∧ w'.cell? ⟨bx + 1, 0, none⟩ = some (.int .i64 y0) ∧ w'.cell? ⟨bx + 1, 1, none⟩ = some (.int .i64 y1) ∧ w'.cell? ⟨bx + 1, 2, none⟩ = some (.int .i64 y2) ∧ w'.cell? ⟨bz, 0, none⟩ = some (.int .i64 m0) ∧ w'.cell? ⟨bz, 1, none⟩ = some (.int .i64 m1) ∧ w'.cell? ⟨bz, 2, none⟩ = some (.int .i64 m2) ∧ bx + 2 ≤ w'.heap.size ∧ bz < w'.heap.size ∧ Good w w')
          (first
            | assumption
            | (refine keepNineDrew ?_; assumption)
            | (refine keepNine ?_ hb; assumption))
          (first
            | (go_at_call 18; (with_reducible refine (P2.out _).mono ?_); rintro r v ⟨rfl, hb⟩)
            | (go_at_call 13; (with_reducible refine (A1.out _).mono ?_); rintro r v ⟨rfl, rfl⟩))
    all_goals
      go_wp2_with fail
      rw [rounds_succ]
      go_wp2_with fail
      go_region_held3 (fun w' => w'.cell? ⟨bx, 0, none⟩ = some (.int .i64 x0) ∧ w'.cell? ⟨bx, 1, none⟩ = some (.int .i64 x1) ∧ w'.cell? ⟨bx, 2, none⟩ = some (.int .i64 x2) ∧ w'.cell? ⟨bx + 1, 0, none⟩ = some (.int .i64 y0) ∧ w'.cell? ⟨bx + 1, 1, none⟩ = some (.int .i64 y1) ∧ w'.cell? ⟨bx + 1, 2, none⟩ = some (.int .i64 y2) ∧ w'.cell? ⟨bz, 0, none⟩ = some (.int .i64 m0) ∧ w'.cell? ⟨bz, 1, none⟩ = some (.int .i64 m1) ∧ w'.cell? ⟨bz, 2, none⟩ = some (.int .i64 m2) ∧ bx + 2 ≤ w'.heap.size ∧ bz < w'.heap.size ∧ Good w w')
            (first
              | assumption
              | (refine keepNineDrew ?_; assumption)
              | (refine keepNine ?_ hb; assumption))
            (first
              | (go_at_call 18; (with_reducible refine (P2.out _).mono ?_); rintro r v ⟨rfl, hb⟩)
              | (go_at_call 13; (with_reducible refine (A2.out _).mono ?_); rintro r v ⟨rfl, rfl⟩))
      all_goals
        go_wp2_with fail
        rw [rounds_succ]
        go_wp2_with fail
        clear ix0 ix1 ix2 A0 A1 A2
        have e1 := fun w => eq_vec' m0 m1 m2 m0 m1 m2 w
        have e2 := fun w => eq_vec' x0 x1 x2 x0 x1 x2 w
        have e3 := fun w => eq_vec' p0 p1 p2 p0 p1 p2 w
        have e4 := fun w => eq_vec' 1152921504606846976 1152921504606846976 1152921504606846976 1152921504606846976 1152921504606846976 1152921504606846976 w
        have t1 := eqv_refl m0 m1 m2
        have t2 := eqv_refl x0 x1 x2
        have t3 := eqv_refl p0 p1 p2
        have t4 := eqv_refl 1152921504606846976 1152921504606846976 1152921504606846976
        go_region_held3 (fun w' => w'.cell? ⟨bx, 0, none⟩ = some (.int .i64 x0) ∧ w'.cell? ⟨bx, 1, none⟩ = some (.int .i64 x1) ∧ w'.cell? ⟨bx, 2, none⟩ = some (.int .i64 x2) ∧ w'.cell? ⟨bx + 1, 0, none⟩ = some (.int .i64 y0) ∧ w'.cell? ⟨bx + 1, 1, none⟩ = some (.int .i64 y1) ∧ w'.cell? ⟨bx + 1, 2, none⟩ = some (.int .i64 y2) ∧ w'.cell? ⟨bz, 0, none⟩ = some (.int .i64 m0) ∧ w'.cell? ⟨bz, 1, none⟩ = some (.int .i64 m1) ∧ w'.cell? ⟨bz, 2, none⟩ = some (.int .i64 m2) ∧ bx + 2 ≤ w'.heap.size ∧ bz < w'.heap.size ∧ Good w w')
              (first
                | assumption
                | (refine keepNineDrew ?_; assumption)
                | (refine keepNine ?_ hb; assumption))
              (first
                | (go_at_call 17; (with_reducible refine (B1.out _).mono ?_); rintro r v ⟨rfl, hb⟩)
                | (go_at_call 17; (with_reducible refine (B2.out _).mono ?_); rintro r v ⟨rfl, hb⟩)
                | (go_at_call 17; (with_reducible refine (B3.out _).mono ?_); rintro r v ⟨rfl, hb⟩)
                | (go_at_call 17; (with_reducible refine (B4.out _).mono ?_); rintro r v ⟨rfl, hb⟩)
                | (go_at_call 18; (with_reducible refine (P1.out _).mono ?_); rintro r v ⟨rfl, hb⟩)
                | (go_at_call 18; (with_reducible refine (P2.out _).mono ?_); rintro r v ⟨rfl, hb⟩)
                | (go_at_call 18; (with_reducible refine (P3.out _).mono ?_); rintro r v ⟨rfl, hb⟩)
                | (go_at_call 18; (with_reducible refine (P4.out _).mono ?_); rintro r v ⟨rfl, hb⟩)
                | (go_at_call 18; (with_reducible refine (P5.out _).mono ?_); rintro r v ⟨rfl, hb⟩)
                | (go_at_call 19; (with_reducible refine (none_any _).mono ?_); rintro r v ⟨rfl, hb⟩))
        all_goals
          go_wp2_with fail
          go_ret
          exact ⟨rfl, belowNine (by assumption)⟩

end Go.Proofs.YtemofnmfaimliaaDoor
