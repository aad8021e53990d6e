/- The law SetEdges, walked. -/
import Derived.Test.YtkbcepgnjoeneaaSetX
namespace Go.Proofs.Ytkbcepgnjoeneaa
open Go Go.RowKit
set_option linter.unusedVariables false
set_option linter.unusedSimpArgs false

theorem has_t {w : World} {v : Value} {n : Nat} {a : List (Int × Int)} {x : Int} (h : ReadsP w v n a) (ha : Rt a) (hx : inS a x) : Calls Try.prog 19 #[v, .int .i64 x] w (Says w true) := by
  have := has_any (x := x) h ha
  rw [show hasB a x = true by unfold hasB; simpa using hx] at this
  exact this
theorem has_f {w : World} {v : Value} {n : Nat} {a : List (Int × Int)} {x : Int} (h : ReadsP w v n a) (ha : Rt a) (hx : ¬ inS a x) : Calls Try.prog 19 #[v, .int .i64 x] w (Says w false) := by
  have := has_any (x := x) h ha
  rw [show hasB a x = false by unfold hasB; simpa using hx] at this
  exact this
theorem edge (l : List (Int × Int)) : ∀ (lo : Int) (k : Nat), RtFrom lo l → k < l.length →
    inS l (l.getD k (0, 0)).1 ∧ inS l (l.getD k (0, 0)).2 ∧ ¬ inS l ((l.getD k (0, 0)).1 - 1) ∧ ¬ inS l ((l.getD k (0, 0)).2 + 1) ∧ lo ≤ (l.getD k (0, 0)).1 ∧ (l.getD k (0, 0)).1 ≤ (l.getD k (0, 0)).2 := by
  induction l with
  | nil => intro lo k _ h; cases h
  | cons r l ih =>
    intro lo k h hk
    obtain ⟨h1, h2, h3, h4⟩ := h
    cases k with
    | zero =>
      simp only [List.getD_cons_zero]
      refine ⟨(inS_cons _ _ _).2 (.inl ⟨Int.le_refl _, h2⟩), (inS_cons _ _ _).2 (.inl ⟨h2, Int.le_refl _⟩), fun h => ?_, fun h => ?_, h1, h2⟩
      · rcases (inS_cons _ _ _).1 h with h | h
        · omega
        · have := h4.num h; omega
      · rcases (inS_cons _ _ _).1 h with h | h
        · omega
        · have := h4.num h; omega
    | succ k =>
      simp only [List.getD_cons_succ]
      obtain ⟨q1, q2, q3, q4, q5, q6⟩ := ih _ k h4 (by simpa using hk)
      refine ⟨(inS_cons _ _ _).2 (.inr q1), (inS_cons _ _ _).2 (.inr q2), fun h => ?_, fun h => ?_, by omega, q6⟩
      · rcases (inS_cons _ _ _).1 h with h | h
        · omega
        · exact q3 h
      · rcases (inS_cons _ _ _).1 h with h | h
        · omega
        · exact q4 h
set_option maxRecDepth 100000 in
set_option maxHeartbeats 8000000 in
theorem setEdges_walk (a0 : Option Addr) (len0 cap0 : Nat) (z0 : List Int) (w : World) (w0 : IsRow .i64 w a0 len0 cap0 z0) :
    Calls Try.prog 11 #[.slice a0 len0 cap0] w fun e w' => e = .returned (.bool true) ∧ Below w.heap.size w w' := by
  have Q0 := Lib.hid w0; clear w0
  obtain ⟨LA, HLA, MA⟩ : ∃ A, Rt A ∧ ∀ w', IsRow .i64 w' a0 len0 cap0 z0 → Calls Try.prog 20 #[.slice a0 len0 cap0] w' (Tells w' A) := ⟨_, mkS_rt z0 len0, fun w' h => make_any h⟩
  replace HLA := Lib.hid HLA; replace MA := Lib.hid MA
  have BB : Hid (Below w.heap.size w w) := Lib.hid (Below.refl _ _)
  go_enter Try.func11, Try.ntmps11
  go_wp2_with fail
  have hq := known_any w
  refine hq.mono ?_
  rintro e W1 ⟨rfl, h2⟩
  clear hq
  replace Q0 := Lib.hid (IsRow.below Q0.out h2)
  replace BB := Lib.hid (BB.out.trans (h2.mono BB.out.size))
  clear h2
  go_wp2_with fail
  have hq := MA.out _ Q0.out
  refine hq.mono ?_
  rintro e W2 ⟨VA, rfl, h1, h2⟩
  clear hq
  replace Q0 := Lib.hid (IsRow.below Q0.out h2)
  replace BB := Lib.hid (BB.out.trans (h2.mono BB.out.size))
  clear h2
  have RA : Hid (ReadsP W2 VA LA.length LA) := Lib.hid h1.reads
  clear h1
  obtain ⟨AdA, CpA, eA, -, -, -⟩ := RA.out.form
  subst eA
  go_wp2_with fail
  obtain ⟨LB, rx, mx, hq⟩ := not_x RA.out HLA.out
  have HLB := Lib.hid rx; have MB := Lib.hid mx; clear rx mx
  refine hq.mono ?_
  rintro e W3 ⟨VB, rfl, h1, h2⟩
  clear hq
  replace RA := Lib.hid (ReadsP.below RA.out h2)
  replace Q0 := Lib.hid (IsRow.below Q0.out h2)
  replace BB := Lib.hid (BB.out.trans (h2.mono BB.out.size))
  clear h2
  have RB : Hid (ReadsP W3 VB LB.length LB) := Lib.hid h1.reads
  clear h1
  obtain ⟨AdB, CpB, eB, -, -, -⟩ := RB.out.form
  subst eB
  clear Q0
  have hla := HLA.out.short
  generalize hA : LA.length = nA at *
  generalize hB : LB.length = nB at *
  have HA := Lib.hid hA; have HB := Lib.hid hB; clear hA hB
  go_wp2_with fail
  go_loopw [5] (fun i wr => ∃ k : Nat, k ≤ nA ∧ i = .int .i64 k ∧ Hid (ReadsP wr (.slice AdA nA CpA) nA LA) ∧ Hid (ReadsP wr (.slice AdB nB CpB) nB LB) ∧ Hid (Below w.heap.size w wr)) (fun i _ => nA - (intOf i).toNat)
  case atStart => exact ⟨0, Nat.zero_le _, rfl, RA, RB, BB⟩
  case round =>
    clear RA RB BB
    obtain ⟨k, hk, rfl, RA, RB, BB⟩ := hrel
    by_cases hkl : k < nA
    · obtain ⟨b, off, e, hbl, c1, c2⟩ := RA.out.at k hkl
      subst e
      have hed := edge LA 0 k HLA.out (by rw [HA.out]; exact hkl)
      have hat := HLA.out.atD k (by rw [HA.out]; exact hkl)
      generalize (LA.getD k (0, 0)).1 = x at *
      generalize (LA.getD k (0, 0)).2 = y at *
      obtain ⟨p1, p2, p3⟩ := hat
      obtain ⟨e1, e2, e3, e4, -, -⟩ := hed
      have E1 := Lib.hid e1; have E2 := Lib.hid e2; have E3 := Lib.hid e3; have E4 := Lib.hid e4
      have B1 := Lib.hid (show ¬ inS LB x from fun h => ((MB.out x).1 h).2 e1)
      have B2 := Lib.hid (show ¬ inS LB y from fun h => ((MB.out y).1 h).2 e2)
      have B3 : Hid (0 < x → inS LB (x - 1)) := Lib.hid (fun h => (MB.out _).2 ⟨⟨by omega, by omega⟩, e3⟩)
      have B4 : Hid (y < 1114111 → inS LB (y + 1)) := Lib.hid (fun h => (MB.out _).2 ⟨⟨by omega, by omega⟩, e4⟩)
      clear e1 e2 e3 e4
      have i0 : (0 : Int) ≤ (k : Int) := Int.natCast_nonneg _
      have i1 : (k : Int) < (nA : Int) := by omega
      go_wp2_with fail
      have hq := has_t RA.out HLA.out E1.out
      refine hq.mono ?_
      rintro e W4 ⟨rfl, h2⟩
      clear hq
      replace c1 := (h2.cell (p := ⟨b, off + k * 2, none⟩) (World.block_lt_of_cell? _ _ c1)).trans c1
      replace c2 := (h2.cell (p := ⟨b, off + k * 2 + 1, none⟩) (World.block_lt_of_cell? _ _ c2)).trans c2
      replace RA := Lib.hid (ReadsP.below RA.out h2)
      replace RB := Lib.hid (ReadsP.below RB.out h2)
      replace BB := Lib.hid (BB.out.trans (h2.mono BB.out.size))
      clear h2
      go_wp2_with fail
      have hq := has_t RA.out HLA.out E2.out
      refine hq.mono ?_
      rintro e W5 ⟨rfl, h2⟩
      clear hq
      replace c1 := (h2.cell (p := ⟨b, off + k * 2, none⟩) (World.block_lt_of_cell? _ _ c1)).trans c1
      replace c2 := (h2.cell (p := ⟨b, off + k * 2 + 1, none⟩) (World.block_lt_of_cell? _ _ c2)).trans c2
      replace RA := Lib.hid (ReadsP.below RA.out h2)
      replace RB := Lib.hid (ReadsP.below RB.out h2)
      replace BB := Lib.hid (BB.out.trans (h2.mono BB.out.size))
      clear h2
      go_wp2_with fail
      have hq := has_f RA.out HLA.out E3.out
      refine hq.mono ?_
      rintro e W6 ⟨rfl, h2⟩
      clear hq
      replace c1 := (h2.cell (p := ⟨b, off + k * 2, none⟩) (World.block_lt_of_cell? _ _ c1)).trans c1
      replace c2 := (h2.cell (p := ⟨b, off + k * 2 + 1, none⟩) (World.block_lt_of_cell? _ _ c2)).trans c2
      replace RA := Lib.hid (ReadsP.below RA.out h2)
      replace RB := Lib.hid (ReadsP.below RB.out h2)
      replace BB := Lib.hid (BB.out.trans (h2.mono BB.out.size))
      clear h2
      go_wp2_with fail
      have hq := has_f RA.out HLA.out E4.out
      refine hq.mono ?_
      rintro e W7 ⟨rfl, h2⟩
      clear hq
      replace c1 := (h2.cell (p := ⟨b, off + k * 2, none⟩) (World.block_lt_of_cell? _ _ c1)).trans c1
      replace c2 := (h2.cell (p := ⟨b, off + k * 2 + 1, none⟩) (World.block_lt_of_cell? _ _ c2)).trans c2
      replace RA := Lib.hid (ReadsP.below RA.out h2)
      replace RB := Lib.hid (ReadsP.below RB.out h2)
      replace BB := Lib.hid (BB.out.trans (h2.mono BB.out.size))
      clear h2
      go_wp2_with fail
      have hq := has_f RB.out HLB.out B1.out
      refine hq.mono ?_
      rintro e W8 ⟨rfl, h2⟩
      clear hq
      replace c1 := (h2.cell (p := ⟨b, off + k * 2, none⟩) (World.block_lt_of_cell? _ _ c1)).trans c1
      replace c2 := (h2.cell (p := ⟨b, off + k * 2 + 1, none⟩) (World.block_lt_of_cell? _ _ c2)).trans c2
      replace RA := Lib.hid (ReadsP.below RA.out h2)
      replace RB := Lib.hid (ReadsP.below RB.out h2)
      replace BB := Lib.hid (BB.out.trans (h2.mono BB.out.size))
      clear h2
      go_wp2_with fail
      have hq := has_f RB.out HLB.out B2.out
      refine hq.mono ?_
      rintro e W9 ⟨rfl, h2⟩
      clear hq
      replace c1 := (h2.cell (p := ⟨b, off + k * 2, none⟩) (World.block_lt_of_cell? _ _ c1)).trans c1
      replace c2 := (h2.cell (p := ⟨b, off + k * 2 + 1, none⟩) (World.block_lt_of_cell? _ _ c2)).trans c2
      replace RA := Lib.hid (ReadsP.below RA.out h2)
      replace RB := Lib.hid (ReadsP.below RB.out h2)
      replace BB := Lib.hid (BB.out.trans (h2.mono BB.out.size))
      clear h2
      by_cases hx0 : 0 < x
      · skip
        have B3 := Lib.hid (B3.out hx0)
        go_wp2_with fail
        have hq := has_t RB.out HLB.out B3.out
        refine hq.mono ?_
        rintro e W10 ⟨rfl, h2⟩
        clear hq
        replace c1 := (h2.cell (p := ⟨b, off + k * 2, none⟩) (World.block_lt_of_cell? _ _ c1)).trans c1
        replace c2 := (h2.cell (p := ⟨b, off + k * 2 + 1, none⟩) (World.block_lt_of_cell? _ _ c2)).trans c2
        replace RA := Lib.hid (ReadsP.below RA.out h2)
        replace RB := Lib.hid (ReadsP.below RB.out h2)
        replace BB := Lib.hid (BB.out.trans (h2.mono BB.out.size))
        clear h2
        by_cases hy0 : y < 1114111
        · skip
          have B4 := Lib.hid (B4.out hy0)
          go_wp2_with fail
          have hq := has_t RB.out HLB.out B4.out
          refine hq.mono ?_
          rintro e W11 ⟨rfl, h2⟩
          clear hq
          replace c1 := (h2.cell (p := ⟨b, off + k * 2, none⟩) (World.block_lt_of_cell? _ _ c1)).trans c1
          replace c2 := (h2.cell (p := ⟨b, off + k * 2 + 1, none⟩) (World.block_lt_of_cell? _ _ c2)).trans c2
          replace RA := Lib.hid (ReadsP.below RA.out h2)
          replace RB := Lib.hid (ReadsP.below RB.out h2)
          replace BB := Lib.hid (BB.out.trans (h2.mono BB.out.size))
          clear h2
          go_wp2_with fail
          exact ⟨⟨k + 1, by omega, by go_num, RA, RB, BB⟩, by simp [intOf]; omega⟩
        · skip
          have t1 : decide (y < 1114111) = false := by simpa using hy0
          go_wp2_with fail
          exact ⟨⟨k + 1, by omega, by go_num, RA, RB, BB⟩, by simp [intOf]; omega⟩
      · skip
        have t0 : decide (0 < x) = false := by simpa using hx0
        by_cases hy0 : y < 1114111
        · skip
          have B4 := Lib.hid (B4.out hy0)
          go_wp2_with fail
          have hq := has_t RB.out HLB.out B4.out
          refine hq.mono ?_
          rintro e W12 ⟨rfl, h2⟩
          clear hq
          replace c1 := (h2.cell (p := ⟨b, off + k * 2, none⟩) (World.block_lt_of_cell? _ _ c1)).trans c1
          replace c2 := (h2.cell (p := ⟨b, off + k * 2 + 1, none⟩) (World.block_lt_of_cell? _ _ c2)).trans c2
          replace RA := Lib.hid (ReadsP.below RA.out h2)
          replace RB := Lib.hid (ReadsP.below RB.out h2)
          replace BB := Lib.hid (BB.out.trans (h2.mono BB.out.size))
          clear h2
          go_wp2_with fail
          exact ⟨⟨k + 1, by omega, by go_num, RA, RB, BB⟩, by simp [intOf]; omega⟩
        · skip
          have t1 : decide (y < 1114111) = false := by simpa using hy0
          go_wp2_with fail
          exact ⟨⟨k + 1, by omega, by go_num, RA, RB, BB⟩, by simp [intOf]; omega⟩
    · have F1 := Lib.hid (show ¬ inS LA (-1) from fun h => by have := HLA.out.num h; omega)
      have F2 := Lib.hid (show ¬ inS LB 1114112 from fun h => by have := HLB.out.num h; omega)
      go_wp2_with fail
      have hq := has_f RA.out HLA.out F1.out
      refine hq.mono ?_
      rintro e W13 ⟨rfl, h2⟩
      clear hq
      replace RA := Lib.hid (ReadsP.below RA.out h2)
      replace RB := Lib.hid (ReadsP.below RB.out h2)
      replace BB := Lib.hid (BB.out.trans (h2.mono BB.out.size))
      clear h2
      go_wp2_with fail
      have hq := has_f RB.out HLB.out F2.out
      refine hq.mono ?_
      rintro e W14 ⟨rfl, h2⟩
      clear hq
      replace RA := Lib.hid (ReadsP.below RA.out h2)
      replace RB := Lib.hid (ReadsP.below RB.out h2)
      replace BB := Lib.hid (BB.out.trans (h2.mono BB.out.size))
      clear h2
      go_wp2_with fail
      go_ret
      exact ⟨rfl, BB.out⟩

end Go.Proofs.Ytkbcepgnjoeneaa
