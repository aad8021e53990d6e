/- The law SetMany, walked. -/
import Derived.Test.YtkbcepgnjoeneaaSetX
namespace Go.Proofs.Ytkbcepgnjoeneaa
open Go Go.RowKit
set_option linter.unusedVariables false
set_option linter.unusedSimpArgs false

set_option maxRecDepth 100000 in
set_option maxHeartbeats 8000000 in
theorem setMany_walk (a0 : Option Addr) (len0 cap0 : Nat) (z0 : List Int) (a1 : Option Addr) (len1 cap1 : Nat) (z1 : List Int) (a2 : Option Addr) (len2 cap2 : Nat) (z2 : List Int) (a3 : Option Addr) (len3 cap3 : Nat) (z3 : List Int) (w : World) (w0 : IsRow .i64 w a0 len0 cap0 z0) (w1 : IsRow .i64 w a1 len1 cap1 z1) (w2 : IsRow .i64 w a2 len2 cap2 z2) (w3 : IsRow .i64 w a3 len3 cap3 z3) :
    Calls Try.prog 8 #[.slice a0 len0 cap0, .slice a1 len1 cap1, .slice a2 len2 cap2, .slice a3 len3 cap3] w fun e w' => e = .returned (.bool true) ∧ Below w.heap.size w w' := by
  have Q0 := Lib.hid w0; clear w0
  obtain ⟨LA, HLA, MA⟩ : ∃ A, Rt A ∧ ∀ w', IsRow .i64 w' a0 len0 cap0 z0 → Calls Try.prog 20 #[.slice a0 len0 cap0] w' (Tells w' A) := ⟨_, mkS_rt z0 len0, fun w' h => make_any h⟩
  replace HLA := Lib.hid HLA; replace MA := Lib.hid MA
  have Q1 := Lib.hid w1; clear w1
  obtain ⟨LB, HLB, MB⟩ : ∃ A, Rt A ∧ ∀ w', IsRow .i64 w' a1 len1 cap1 z1 → Calls Try.prog 20 #[.slice a1 len1 cap1] w' (Tells w' A) := ⟨_, mkS_rt z1 len1, fun w' h => make_any h⟩
  replace HLB := Lib.hid HLB; replace MB := Lib.hid MB
  have Q2 := Lib.hid w2; clear w2
  obtain ⟨LC, HLC, MC⟩ : ∃ A, Rt A ∧ ∀ w', IsRow .i64 w' a2 len2 cap2 z2 → Calls Try.prog 20 #[.slice a2 len2 cap2] w' (Tells w' A) := ⟨_, mkS_rt z2 len2, fun w' h => make_any h⟩
  replace HLC := Lib.hid HLC; replace MC := Lib.hid MC
  have Q3 := Lib.hid w3; clear w3
  obtain ⟨LD, HLD, MD⟩ : ∃ A, Rt A ∧ ∀ w', IsRow .i64 w' a3 len3 cap3 z3 → Calls Try.prog 20 #[.slice a3 len3 cap3] w' (Tells w' A) := ⟨_, mkS_rt z3 len3, fun w' h => make_any h⟩
  replace HLD := Lib.hid HLD; replace MD := Lib.hid MD
  have BB : Hid (Below w.heap.size w w) := Lib.hid (Below.refl _ _)
  go_enter Try.func8, Try.ntmps8
  go_wp2_with fail
  have hq := known_any w
  refine hq.mono ?_
  rintro e W1 ⟨rfl, h2⟩
  clear hq
  replace Q0 := Lib.hid (IsRow.below Q0.out h2)
  replace Q1 := Lib.hid (IsRow.below Q1.out h2)
  replace Q2 := Lib.hid (IsRow.below Q2.out h2)
  replace Q3 := Lib.hid (IsRow.below Q3.out h2)
  replace BB := Lib.hid (BB.out.trans (h2.mono BB.out.size))
  clear h2
  go_wp2_with fail
  have hq := MA.out _ Q0.out
  refine hq.mono ?_
  rintro e W2 ⟨VA, rfl, h1, h2⟩
  clear hq
  replace Q0 := Lib.hid (IsRow.below Q0.out h2)
  replace Q1 := Lib.hid (IsRow.below Q1.out h2)
  replace Q2 := Lib.hid (IsRow.below Q2.out h2)
  replace Q3 := Lib.hid (IsRow.below Q3.out h2)
  replace BB := Lib.hid (BB.out.trans (h2.mono BB.out.size))
  clear h2
  have RA : Hid (ReadsP W2 VA LA.length LA) := Lib.hid h1.reads
  clear h1
  obtain ⟨AdA, CpA, eA, -, -, -⟩ := RA.out.form
  subst eA
  go_wp2_with fail
  have hq := MB.out _ Q1.out
  refine hq.mono ?_
  rintro e W3 ⟨VB, rfl, h1, h2⟩
  clear hq
  replace RA := Lib.hid (ReadsP.below RA.out h2)
  replace Q0 := Lib.hid (IsRow.below Q0.out h2)
  replace Q1 := Lib.hid (IsRow.below Q1.out h2)
  replace Q2 := Lib.hid (IsRow.below Q2.out h2)
  replace Q3 := Lib.hid (IsRow.below Q3.out h2)
  replace BB := Lib.hid (BB.out.trans (h2.mono BB.out.size))
  clear h2
  have RB : Hid (ReadsP W3 VB LB.length LB) := Lib.hid h1.reads
  clear h1
  obtain ⟨AdB, CpB, eB, -, -, -⟩ := RB.out.form
  subst eB
  go_wp2_with fail
  have hq := MC.out _ Q2.out
  refine hq.mono ?_
  rintro e W4 ⟨VC, rfl, h1, h2⟩
  clear hq
  replace RA := Lib.hid (ReadsP.below RA.out h2)
  replace RB := Lib.hid (ReadsP.below RB.out h2)
  replace Q0 := Lib.hid (IsRow.below Q0.out h2)
  replace Q1 := Lib.hid (IsRow.below Q1.out h2)
  replace Q2 := Lib.hid (IsRow.below Q2.out h2)
  replace Q3 := Lib.hid (IsRow.below Q3.out h2)
  replace BB := Lib.hid (BB.out.trans (h2.mono BB.out.size))
  clear h2
  have RC : Hid (ReadsP W4 VC LC.length LC) := Lib.hid h1.reads
  clear h1
  obtain ⟨AdC, CpC, eC, -, -, -⟩ := RC.out.form
  subst eC
  go_wp2_with fail
  have hq := MD.out _ Q3.out
  refine hq.mono ?_
  rintro e W5 ⟨VD, rfl, h1, h2⟩
  clear hq
  replace RA := Lib.hid (ReadsP.below RA.out h2)
  replace RB := Lib.hid (ReadsP.below RB.out h2)
  replace RC := Lib.hid (ReadsP.below RC.out h2)
  replace Q0 := Lib.hid (IsRow.below Q0.out h2)
  replace Q1 := Lib.hid (IsRow.below Q1.out h2)
  replace Q2 := Lib.hid (IsRow.below Q2.out h2)
  replace Q3 := Lib.hid (IsRow.below Q3.out h2)
  replace BB := Lib.hid (BB.out.trans (h2.mono BB.out.size))
  clear h2
  have RD : Hid (ReadsP W5 VD LD.length LD) := Lib.hid h1.reads
  clear h1
  obtain ⟨AdD, CpD, eD, -, -, -⟩ := RD.out.form
  subst eD
  go_wp2_with fail
  obtain ⟨LO, rx, mx, hq⟩ := or_x (readsL_mk (t := 24) [Value.slice AdA LA.length CpA, Value.slice AdB LB.length CpB, Value.slice AdC LC.length CpC, Value.slice AdD LD.length CpD] [LA, LB, LC, LD] ⟨RA.out, RB.out, RC.out, RD.out, trivial⟩) ⟨HLA.out, HLB.out, HLC.out, HLD.out, trivial⟩ (by simp)
  have HLO := Lib.hid rx; have MO := Lib.hid mx; clear rx mx
  refine hq.mono ?_
  rintro e W6 ⟨VO, rfl, h1, h2⟩
  clear hq
  replace RA := Lib.hid (ReadsP.below (RA.out.alloc _) h2)
  replace RB := Lib.hid (ReadsP.below (RB.out.alloc _) h2)
  replace RC := Lib.hid (ReadsP.below (RC.out.alloc _) h2)
  replace RD := Lib.hid (ReadsP.below (RD.out.alloc _) h2)
  replace Q0 := Lib.hid (IsRow.below (Q0.out.alloc _) h2)
  replace Q1 := Lib.hid (IsRow.below (Q1.out.alloc _) h2)
  replace Q2 := Lib.hid (IsRow.below (Q2.out.alloc _) h2)
  replace Q3 := Lib.hid (IsRow.below (Q3.out.alloc _) h2)
  replace BB := Lib.hid ((BB.out.alloc BB.out.size _).trans (h2.mono (BB.out.alloc BB.out.size _).size))
  clear h2
  have RO : Hid (ReadsP W6 VO LO.length LO) := Lib.hid h1.reads
  clear h1
  obtain ⟨AdO, CpO, eO, -, -, -⟩ := RO.out.form
  subst eO
  go_wp2_with fail
  obtain ⟨LX, rx, mx, hq⟩ := or_x (readsL_mk (t := 24) [Value.slice AdA LA.length CpA, Value.slice AdB LB.length CpB] [LA, LB] ⟨RA.out, RB.out, trivial⟩) ⟨HLA.out, HLB.out, trivial⟩ (by simp)
  have HLX := Lib.hid rx; have MX := Lib.hid mx; clear rx mx
  refine hq.mono ?_
  rintro e W7 ⟨VX, rfl, h1, h2⟩
  clear hq
  replace RA := Lib.hid (ReadsP.below (RA.out.alloc _) h2)
  replace RB := Lib.hid (ReadsP.below (RB.out.alloc _) h2)
  replace RC := Lib.hid (ReadsP.below (RC.out.alloc _) h2)
  replace RD := Lib.hid (ReadsP.below (RD.out.alloc _) h2)
  replace RO := Lib.hid (ReadsP.below (RO.out.alloc _) h2)
  replace Q0 := Lib.hid (IsRow.below (Q0.out.alloc _) h2)
  replace Q1 := Lib.hid (IsRow.below (Q1.out.alloc _) h2)
  replace Q2 := Lib.hid (IsRow.below (Q2.out.alloc _) h2)
  replace Q3 := Lib.hid (IsRow.below (Q3.out.alloc _) h2)
  replace BB := Lib.hid ((BB.out.alloc BB.out.size _).trans (h2.mono (BB.out.alloc BB.out.size _).size))
  clear h2
  have RX : Hid (ReadsP W7 VX LX.length LX) := Lib.hid h1.reads
  clear h1
  obtain ⟨AdX, CpX, eX, -, -, -⟩ := RX.out.form
  subst eX
  go_wp2_with fail
  obtain ⟨LY, rx, mx, hq⟩ := or_x (readsL_mk (t := 24) [Value.slice AdC LC.length CpC, Value.slice AdD LD.length CpD] [LC, LD] ⟨RC.out, RD.out, trivial⟩) ⟨HLC.out, HLD.out, trivial⟩ (by simp)
  have HLY := Lib.hid rx; have MY := Lib.hid mx; clear rx mx
  refine hq.mono ?_
  rintro e W8 ⟨VY, rfl, h1, h2⟩
  clear hq
  replace RA := Lib.hid (ReadsP.below (RA.out.alloc _) h2)
  replace RB := Lib.hid (ReadsP.below (RB.out.alloc _) h2)
  replace RC := Lib.hid (ReadsP.below (RC.out.alloc _) h2)
  replace RD := Lib.hid (ReadsP.below (RD.out.alloc _) h2)
  replace RO := Lib.hid (ReadsP.below (RO.out.alloc _) h2)
  replace RX := Lib.hid (ReadsP.below (RX.out.alloc _) h2)
  replace Q0 := Lib.hid (IsRow.below (Q0.out.alloc _) h2)
  replace Q1 := Lib.hid (IsRow.below (Q1.out.alloc _) h2)
  replace Q2 := Lib.hid (IsRow.below (Q2.out.alloc _) h2)
  replace Q3 := Lib.hid (IsRow.below (Q3.out.alloc _) h2)
  replace BB := Lib.hid ((BB.out.alloc BB.out.size _).trans (h2.mono (BB.out.alloc BB.out.size _).size))
  clear h2
  have RY : Hid (ReadsP W8 VY LY.length LY) := Lib.hid h1.reads
  clear h1
  obtain ⟨AdY, CpY, eY, -, -, -⟩ := RY.out.form
  subst eY
  go_wp2_with fail
  obtain ⟨LZ, rx, mx, hq⟩ := or_x (readsL_mk (t := 24) [Value.slice AdX LX.length CpX, Value.slice AdY LY.length CpY] [LX, LY] ⟨RX.out, RY.out, trivial⟩) ⟨HLX.out, HLY.out, trivial⟩ (by simp)
  have HLZ := Lib.hid rx; have MZ := Lib.hid mx; clear rx mx
  refine hq.mono ?_
  rintro e W9 ⟨VZ, rfl, h1, h2⟩
  clear hq
  replace RA := Lib.hid (ReadsP.below (RA.out.alloc _) h2)
  replace RB := Lib.hid (ReadsP.below (RB.out.alloc _) h2)
  replace RC := Lib.hid (ReadsP.below (RC.out.alloc _) h2)
  replace RD := Lib.hid (ReadsP.below (RD.out.alloc _) h2)
  replace RO := Lib.hid (ReadsP.below (RO.out.alloc _) h2)
  replace RX := Lib.hid (ReadsP.below (RX.out.alloc _) h2)
  replace RY := Lib.hid (ReadsP.below (RY.out.alloc _) h2)
  replace Q0 := Lib.hid (IsRow.below (Q0.out.alloc _) h2)
  replace Q1 := Lib.hid (IsRow.below (Q1.out.alloc _) h2)
  replace Q2 := Lib.hid (IsRow.below (Q2.out.alloc _) h2)
  replace Q3 := Lib.hid (IsRow.below (Q3.out.alloc _) h2)
  replace BB := Lib.hid ((BB.out.alloc BB.out.size _).trans (h2.mono (BB.out.alloc BB.out.size _).size))
  clear h2
  have RZ : Hid (ReadsP W9 VZ LZ.length LZ) := Lib.hid h1.reads
  clear h1
  obtain ⟨AdZ, CpZ, eZ, -, -, -⟩ := RZ.out.form
  subst eZ
  have E1 : Hid (LO = LZ) := Lib.hid (canon HLO.out HLZ.out fun n => by
    simp only [AnyIn, or_false, inS_nilF, MO.out n, MZ.out n, MX.out n, MY.out n]
    by_cases hu : InU n
    · skip <;> by_cases hA : inS LA n <;> by_cases hB : inS LB n <;> by_cases hC : inS LC n <;> by_cases hD : inS LD n <;> simp [hu, hA, hB, hC, hD]
    · skip; have hA : ¬ inS LA n := fun h => hu (HLA.out.num h); have hB : ¬ inS LB n := fun h => hu (HLB.out.num h); have hC : ¬ inS LC n := fun h => hu (HLC.out.num h); have hD : ¬ inS LD n := fun h => hu (HLD.out.num h); simp [hu, hA, hB, hC, hD])
  go_wp2_with fail
  have hq := same_x RO.out RZ.out E1.out
  refine hq.mono ?_
  rintro e W10 ⟨rfl, h2⟩
  clear hq
  replace RA := Lib.hid (ReadsP.below RA.out h2)
  replace RB := Lib.hid (ReadsP.below RB.out h2)
  replace RC := Lib.hid (ReadsP.below RC.out h2)
  replace RD := Lib.hid (ReadsP.below RD.out h2)
  replace RO := Lib.hid (ReadsP.below RO.out h2)
  replace RX := Lib.hid (ReadsP.below RX.out h2)
  replace RY := Lib.hid (ReadsP.below RY.out h2)
  replace RZ := Lib.hid (ReadsP.below RZ.out h2)
  replace Q0 := Lib.hid (IsRow.below Q0.out h2)
  replace Q1 := Lib.hid (IsRow.below Q1.out h2)
  replace Q2 := Lib.hid (IsRow.below Q2.out h2)
  replace Q3 := Lib.hid (IsRow.below Q3.out h2)
  replace BB := Lib.hid (BB.out.trans (h2.mono BB.out.size))
  clear h2
  clear RX
  clear RY
  clear RZ
  go_wp2_with fail
  obtain ⟨LU, rx, mx, hq⟩ := or_x (readsL_mk (t := 24) [Value.slice AdD LD.length CpD, Value.slice AdC LC.length CpC, Value.slice AdB LB.length CpB, Value.slice AdA LA.length CpA, Value.slice AdB LB.length CpB] [LD, LC, LB, LA, LB] ⟨RD.out, RC.out, RB.out, RA.out, RB.out, trivial⟩) ⟨HLD.out, HLC.out, HLB.out, HLA.out, HLB.out, trivial⟩ (by simp)
  have HLU := Lib.hid rx; have MU := Lib.hid mx; clear rx mx
  refine hq.mono ?_
  rintro e W11 ⟨VU, rfl, h1, h2⟩
  clear hq
  replace RA := Lib.hid (ReadsP.below (RA.out.alloc _) h2)
  replace RB := Lib.hid (ReadsP.below (RB.out.alloc _) h2)
  replace RC := Lib.hid (ReadsP.below (RC.out.alloc _) h2)
  replace RD := Lib.hid (ReadsP.below (RD.out.alloc _) h2)
  replace RO := Lib.hid (ReadsP.below (RO.out.alloc _) h2)
  replace Q0 := Lib.hid (IsRow.below (Q0.out.alloc _) h2)
  replace Q1 := Lib.hid (IsRow.below (Q1.out.alloc _) h2)
  replace Q2 := Lib.hid (IsRow.below (Q2.out.alloc _) h2)
  replace Q3 := Lib.hid (IsRow.below (Q3.out.alloc _) h2)
  replace BB := Lib.hid ((BB.out.alloc BB.out.size _).trans (h2.mono (BB.out.alloc BB.out.size _).size))
  clear h2
  have RU : Hid (ReadsP W11 VU LU.length LU) := Lib.hid h1.reads
  clear h1
  obtain ⟨AdU, CpU, eU, -, -, -⟩ := RU.out.form
  subst eU
  have E2 : Hid (LO = LU) := Lib.hid (canon HLO.out HLU.out fun n => by
    simp only [AnyIn, or_false, inS_nilF, MO.out n, MU.out n]
    by_cases hu : InU n
    · skip <;> by_cases hA : inS LA n <;> by_cases hB : inS LB n <;> by_cases hC : inS LC n <;> by_cases hD : inS LD n <;> simp [hu, hA, hB, hC, hD]
    · skip; have hA : ¬ inS LA n := fun h => hu (HLA.out.num h); have hB : ¬ inS LB n := fun h => hu (HLB.out.num h); have hC : ¬ inS LC n := fun h => hu (HLC.out.num h); have hD : ¬ inS LD n := fun h => hu (HLD.out.num h); simp [hu, hA, hB, hC, hD])
  go_wp2_with fail
  have hq := same_x RO.out RU.out E2.out
  refine hq.mono ?_
  rintro e W12 ⟨rfl, h2⟩
  clear hq
  replace RA := Lib.hid (ReadsP.below RA.out h2)
  replace RB := Lib.hid (ReadsP.below RB.out h2)
  replace RC := Lib.hid (ReadsP.below RC.out h2)
  replace RD := Lib.hid (ReadsP.below RD.out h2)
  replace RO := Lib.hid (ReadsP.below RO.out h2)
  replace RU := Lib.hid (ReadsP.below RU.out h2)
  replace Q0 := Lib.hid (IsRow.below Q0.out h2)
  replace Q1 := Lib.hid (IsRow.below Q1.out h2)
  replace Q2 := Lib.hid (IsRow.below Q2.out h2)
  replace Q3 := Lib.hid (IsRow.below Q3.out h2)
  replace BB := Lib.hid (BB.out.trans (h2.mono BB.out.size))
  clear h2
  go_wp2_with fail
  have hq := right_x RO.out HLO.out
  refine hq.mono ?_
  rintro e W13 ⟨rfl, h2⟩
  clear hq
  replace RA := Lib.hid (ReadsP.below RA.out h2)
  replace RB := Lib.hid (ReadsP.below RB.out h2)
  replace RC := Lib.hid (ReadsP.below RC.out h2)
  replace RD := Lib.hid (ReadsP.below RD.out h2)
  replace RO := Lib.hid (ReadsP.below RO.out h2)
  replace RU := Lib.hid (ReadsP.below RU.out h2)
  replace Q0 := Lib.hid (IsRow.below Q0.out h2)
  replace Q1 := Lib.hid (IsRow.below Q1.out h2)
  replace Q2 := Lib.hid (IsRow.below Q2.out h2)
  replace Q3 := Lib.hid (IsRow.below Q3.out h2)
  replace BB := Lib.hid (BB.out.trans (h2.mono BB.out.size))
  clear h2
  go_wp2_with fail
  go_ret
  exact ⟨rfl, BB.out⟩

end Go.Proofs.Ytkbcepgnjoeneaa
