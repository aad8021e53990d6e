/- The law TropTexts returns true, whatever its six numbers. -/
import Derived.Test.YtemofnmfaimliaaDoorTropTextsP
namespace Go.Proofs.YtemofnmfaimliaaDoor
open Go.RowKit

/-- What is carried along a road that only makes memory: the table stands, and what was there when it began stands. -/
def Good (w w' : World) : Prop := Tab w' ∧ Below w.heap.size w w'
theorem Good.start {w : World} (h : Tab w) : Good w w := ⟨h, Below.refl _ _⟩
theorem Good.step {w w1 w2 : World} (h : Good w w1) (hb : Below w1.heap.size w1 w2) : Good w w2 := ⟨h.1.below hb, h.2.trans (hb.mono h.2.size)⟩
theorem Good.drew {w w1 : World} (h : Good w w1) : Good w w1.drew := h.step ((Below.refl _ _).drew)
theorem Good.alloc {w w1 : World} (h : Good w w1) (o : Obj) : Good w (w1.alloc o) := h.step ((Below.refl _ _).alloc (Nat.le_refl _) o)

theorem keepTwo {w W v : World} {b : Nat} {x0 x1 x2 y0 y1 y2 : Int}
    (h : W.cell? ⟨b, 0, none⟩ = some (.int .i64 x0) ∧ W.cell? ⟨b, 1, none⟩ = some (.int .i64 x1) ∧ W.cell? ⟨b, 2, none⟩ = some (.int .i64 x2) ∧ W.cell? ⟨b + 1, 0, none⟩ = some (.int .i64 y0) ∧ W.cell? ⟨b + 1, 1, none⟩ = some (.int .i64 y1) ∧ W.cell? ⟨b + 1, 2, none⟩ = some (.int .i64 y2) ∧ b + 2 ≤ W.heap.size ∧ Good w W)
    (hb : Below W.heap.size W v) :
    v.cell? ⟨b, 0, none⟩ = some (.int .i64 x0) ∧ v.cell? ⟨b, 1, none⟩ = some (.int .i64 x1) ∧ v.cell? ⟨b, 2, none⟩ = some (.int .i64 x2) ∧ v.cell? ⟨b + 1, 0, none⟩ = some (.int .i64 y0) ∧ v.cell? ⟨b + 1, 1, none⟩ = some (.int .i64 y1) ∧ v.cell? ⟨b + 1, 2, none⟩ = some (.int .i64 y2) ∧ b + 2 ≤ v.heap.size ∧ Good w v := by
  obtain ⟨h0, h1, h2, h3, h4, h5, h6, h7⟩ := h
  have hc := (bcell hb).1
  have hz := hb.size
  exact ⟨by rw [hc _ _ (by omega)]; exact h0, by rw [hc _ _ (by omega)]; exact h1, by rw [hc _ _ (by omega)]; exact h2, by rw [hc _ _ (by omega)]; exact h3, by rw [hc _ _ (by omega)]; exact h4, by rw [hc _ _ (by omega)]; exact h5, by omega, h7.step hb⟩
theorem tabTwo {w W : World} {p0 p1 p2 p3 p4 p5 p6 : Prop} (h : p0 ∧ p1 ∧ p2 ∧ p3 ∧ p4 ∧ p5 ∧ p6 ∧ Good w W) : Tab W := h.2.2.2.2.2.2.2.1

theorem belowTwo {w W : World} {p0 p1 p2 p3 p4 p5 p6 : Prop} (h : p0 ∧ p1 ∧ p2 ∧ p3 ∧ p4 ∧ p5 ∧ p6 ∧ Good w W) : Below w.heap.size w W := h.2.2.2.2.2.2.2.2

set_option maxHeartbeats 1000000 in
theorem texts_walk (a b c d e f : Int) (w : World) (wa : (Lit.int .i64 a).wf = true) (wb : (Lit.int .i64 b).wf = true) (wc : (Lit.int .i64 c).wf = true) (wd : (Lit.int .i64 d).wf = true) (we : (Lit.int .i64 e).wf = true) (wf : (Lit.int .i64 f).wf = true) (ht : Tab w) :
    Calls Tryd.prog 6 #[.int .i64 a, .int .i64 b, .int .i64 c, .int .i64 d, .int .i64 e, .int .i64 f] w fun e w' => e = .returned (.bool true) ∧ Below w.heap.size w w' := by
  have HG := Lib.hid (Good.start ht); have WA := Lib.hid wa; have WB := Lib.hid wb; have WC := Lib.hid wc; have WD := Lib.hid wd; have WE := Lib.hid we; have WF := Lib.hid wf; clear ht wa wb wc wd we wf
  go_enter Tryd.func6, Tryd.ntmps6
  go_wp2_with fail
  refine (known_any _ HG.out.1).mono ?_
  rintro r w1 ⟨rfl, hb1⟩
  have HG1 := Lib.hid (HG.out.step hb1); clear hb1
  go_wp2_with fail
  refine (vec_any a b c _ WA.out WB.out WC.out).mono ?_
  rintro r w2 ⟨rfl, hb2⟩
  have HG2 := Lib.hid (HG1.out.step hb2); clear hb2
  go_wp2_with fail
  refine (vec_any d e f _ WD.out WE.out WF.out).mono ?_
  rintro r w3 ⟨rfl, hb3⟩
  have HG3 := Lib.hid (HG2.out.step hb3); clear hb3
  have H0 := Lib.hid (cost_is a); have H1 := Lib.hid (cost_is b); have H2 := Lib.hid (cost_is c)
  have H3 := Lib.hid (cost_is d); have H4 := Lib.hid (cost_is e); have H5 := Lib.hid (cost_is f)
  generalize cost a = x0 at *
  generalize cost b = x1 at *
  generalize cost c = x2 at *
  generalize cost d = y0 at *
  generalize cost e = y1 at *
  generalize cost f = y2 at *
  clear WA WB WC WD WE WF HG HG1 HG2
  have HG4 := Lib.hid ((HG3.out.alloc (.cells #[.int .i64 x0, .int .i64 x1, .int .i64 x2] 31)).alloc (.cells #[.int .i64 y0, .int .i64 y1, .int .i64 y2] 31)); clear HG3
  have he := fun w => eq_vec' x0 x1 x2 y0 y1 y2 w
  cases hv : eqv x0 x1 x2 y0 y1 y2
  · have hne : ¬ vtext x0 x1 x2 = vtext y0 y1 y2 := fun q => by
      have := eqv_true.2 (vtext_inj _ _ _ _ _ _ H0.out H1.out H2.out H3.out H4.out H5.out q)
      rw [this] at hv; cases hv
    have hne : (vtext x0 x1 x2 == vtext y0 y1 y2) = false := by simpa using hne
    have HT1 := Lib.hid (fun (w : World) (h : Tab w) => text_any x0 x1 x2 w H0.out H1.out H2.out h)
    have HT2 := Lib.hid (fun (w : World) (h : Tab w) => text_any y0 y1 y2 w H3.out H4.out H5.out h)
    have HT3 := Lib.hid (fun (w : World) => reftext_any x0 x1 x2 w H0.out H1.out H2.out)
    clear H0 H1 H2 H3 H4 H5
    generalize vtext x0 x1 x2 = tx at *
    generalize vtext y0 y1 y2 = ty at *
    go_wp2_with fail
    go_region_held3 (fun w' => w'.cell? ⟨w3.heap.size, 0, none⟩ = some (.int .i64 x0) ∧ w'.cell? ⟨w3.heap.size, 1, none⟩ = some (.int .i64 x1) ∧ w'.cell? ⟨w3.heap.size, 2, none⟩ = some (.int .i64 x2) ∧ w'.cell? ⟨w3.heap.size + 1, 0, none⟩ = some (.int .i64 y0) ∧ w'.cell? ⟨w3.heap.size + 1, 1, none⟩ = some (.int .i64 y1) ∧ w'.cell? ⟨w3.heap.size + 1, 2, none⟩ = some (.int .i64 y2) ∧ w3.heap.size + 2 ≤ w'.heap.size ∧ Good w w')
      (first
        | (refine ⟨by simp [go_sem], by simp [go_sem], by simp [go_sem], by simp [go_sem], by simp [go_sem], by simp [go_sem], by simp, HG4.out⟩; done)
        | (refine ⟨by simp [go_sem], by simp [go_sem], by simp [go_sem], by simp [go_sem], by simp [go_sem], by simp [go_sem], by simp, HG4.out.drew⟩; done)
        | exact keepTwo (by assumption) (by assumption))
      (first
        | (go_at_call 20; (with_reducible refine (HT1.out _ (tabTwo (by assumption))).mono ?_); rintro r v ⟨rfl, hb⟩)
        | (go_at_call 20; (with_reducible refine (HT2.out _ (tabTwo (by assumption))).mono ?_); rintro r v ⟨rfl, hb⟩)
        | (go_at_call 21; (with_reducible refine (HT3.out _).mono ?_); rintro r v ⟨rfl, hb⟩))
    go_wp2_with fail
    go_ret
    exact ⟨rfl, belowTwo (by assumption)⟩
  · obtain ⟨rfl, rfl, rfl⟩ := eqv_true.1 hv
    have HT1 := Lib.hid (fun (w : World) (h : Tab w) => text_any x0 x1 x2 w H0.out H1.out H2.out h)
    have HT3 := Lib.hid (fun (w : World) => reftext_any x0 x1 x2 w H0.out H1.out H2.out)
    clear H0 H1 H2 H3 H4 H5
    generalize vtext x0 x1 x2 = tx at *
    go_wp2_with fail
    go_region_held3 (fun w' => w'.cell? ⟨w3.heap.size, 0, none⟩ = some (.int .i64 x0) ∧ w'.cell? ⟨w3.heap.size, 1, none⟩ = some (.int .i64 x1) ∧ w'.cell? ⟨w3.heap.size, 2, none⟩ = some (.int .i64 x2) ∧ w'.cell? ⟨w3.heap.size + 1, 0, none⟩ = some (.int .i64 x0) ∧ w'.cell? ⟨w3.heap.size + 1, 1, none⟩ = some (.int .i64 x1) ∧ w'.cell? ⟨w3.heap.size + 1, 2, none⟩ = some (.int .i64 x2) ∧ w3.heap.size + 2 ≤ w'.heap.size ∧ Good w w')
      (first
        | (refine ⟨by simp [go_sem], by simp [go_sem], by simp [go_sem], by simp [go_sem], by simp [go_sem], by simp [go_sem], by simp, HG4.out⟩; done)
        | (refine ⟨by simp [go_sem], by simp [go_sem], by simp [go_sem], by simp [go_sem], by simp [go_sem], by simp [go_sem], by simp, HG4.out.drew⟩; done)
        | exact keepTwo (by assumption) (by assumption))
      (first
        | (go_at_call 20; (with_reducible refine (HT1.out _ (tabTwo (by assumption))).mono ?_); rintro r v ⟨rfl, hb⟩)
        | (go_at_call 21; (with_reducible refine (HT3.out _).mono ?_); rintro r v ⟨rfl, hb⟩))
    go_wp2_with fail
    go_ret
    exact ⟨rfl, belowTwo (by assumption)⟩

end Go.Proofs.YtemofnmfaimliaaDoor
