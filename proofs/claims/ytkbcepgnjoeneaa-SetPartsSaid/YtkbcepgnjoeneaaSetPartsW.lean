/- The law SetParts, walked. -/
import Derived.Test.YtkbcepgnjoeneaaSetX
namespace Go.Proofs.Ytkbcepgnjoeneaa
open Go Go.RowKit
set_option linter.unusedVariables false
set_option linter.unusedSimpArgs false

set_option maxRecDepth 100000 in
set_option maxHeartbeats 8000000 in
theorem setParts_walk (a0 : Option Addr) (len0 cap0 : Nat) (z0 : List Int) (a1 : Option Addr) (len1 cap1 : Nat) (z1 : List Int) (w : World) (w0 : IsRow .i64 w a0 len0 cap0 z0) (w1 : IsRow .i64 w a1 len1 cap1 z1) :
    Calls Try.prog 9 #[.slice a0 len0 cap0, .slice a1 len1 cap1] w fun e w' => e = .returned (.bool true) ∧ Below w.heap.size w w' := by
  have Q0 := Lib.hid w0; clear w0
  obtain ⟨LA, HLA, MA⟩ : ∃ A, Rt A ∧ ∀ w', IsRow .i64 w' a0 len0 cap0 z0 → Calls Try.prog 20 #[.slice a0 len0 cap0] w' (Tells w' A) := ⟨_, mkS_rt z0 len0, fun w' h => make_any h⟩
  replace HLA := Lib.hid HLA; replace MA := Lib.hid MA
  have Q1 := Lib.hid w1; clear w1
  obtain ⟨LB, HLB, MB⟩ : ∃ A, Rt A ∧ ∀ w', IsRow .i64 w' a1 len1 cap1 z1 → Calls Try.prog 20 #[.slice a1 len1 cap1] w' (Tells w' A) := ⟨_, mkS_rt z1 len1, fun w' h => make_any h⟩
  replace HLB := Lib.hid HLB; replace MB := Lib.hid MB
  have BB : Hid (Below w.heap.size w w) := Lib.hid (Below.refl _ _)
  go_enter Try.func9, Try.ntmps9
  go_wp2_with fail
  have hq := known_any w
  refine hq.mono ?_
  rintro e W1 ⟨rfl, h2⟩
  clear hq
  replace Q0 := Lib.hid (IsRow.below Q0.out h2)
  replace Q1 := Lib.hid (IsRow.below Q1.out h2)
  replace BB := Lib.hid (BB.out.trans (h2.mono BB.out.size))
  clear h2
  go_wp2_with fail
  have hq := MA.out _ Q0.out
  refine hq.mono ?_
  rintro e W2 ⟨VA, rfl, h1, h2⟩
  clear hq
  replace Q0 := Lib.hid (IsRow.below Q0.out h2)
  replace Q1 := Lib.hid (IsRow.below Q1.out h2)
  replace BB := Lib.hid (BB.out.trans (h2.mono BB.out.size))
  clear h2
  have RA : Hid (ReadsP W2 VA LA.length LA) := Lib.hid h1.reads
  clear h1
  obtain ⟨AdA, CpA, eA, -, -, -⟩ := RA.out.form
  subst eA
  go_wp2_with fail
  have hq := MB.out _ Q1.out
  refine hq.mono ?_
  rintro e W3 ⟨VB, rfl, h1, h2⟩
  clear hq
  replace RA := Lib.hid (ReadsP.below RA.out h2)
  replace Q0 := Lib.hid (IsRow.below Q0.out h2)
  replace Q1 := Lib.hid (IsRow.below Q1.out h2)
  replace BB := Lib.hid (BB.out.trans (h2.mono BB.out.size))
  clear h2
  have RB : Hid (ReadsP W3 VB LB.length LB) := Lib.hid h1.reads
  clear h1
  obtain ⟨AdB, CpB, eB, -, -, -⟩ := RB.out.form
  subst eB
  go_wp2_with fail
  obtain ⟨LX, rx, mx, hq⟩ := and_x RA.out RB.out HLA.out HLB.out
  have HLX := Lib.hid rx; have MX := Lib.hid mx; clear rx mx
  refine hq.mono ?_
  rintro e W4 ⟨VX, rfl, h1, h2⟩
  clear hq
  replace RA := Lib.hid (ReadsP.below RA.out h2)
  replace RB := Lib.hid (ReadsP.below RB.out h2)
  replace Q0 := Lib.hid (IsRow.below Q0.out h2)
  replace Q1 := Lib.hid (IsRow.below Q1.out h2)
  replace BB := Lib.hid (BB.out.trans (h2.mono BB.out.size))
  clear h2
  have RX : Hid (ReadsP W4 VX LX.length LX) := Lib.hid h1.reads
  clear h1
  obtain ⟨AdX, CpX, eX, -, -, -⟩ := RX.out.form
  subst eX
  go_wp2_with fail
  obtain ⟨LY, rx, mx, hq⟩ := less_x RA.out RB.out HLA.out HLB.out
  have HLY := Lib.hid rx; have MY := Lib.hid mx; clear rx mx
  refine hq.mono ?_
  rintro e W5 ⟨VY, rfl, h1, h2⟩
  clear hq
  replace RA := Lib.hid (ReadsP.below RA.out h2)
  replace RB := Lib.hid (ReadsP.below RB.out h2)
  replace RX := Lib.hid (ReadsP.below RX.out h2)
  replace Q0 := Lib.hid (IsRow.below Q0.out h2)
  replace Q1 := Lib.hid (IsRow.below Q1.out h2)
  replace BB := Lib.hid (BB.out.trans (h2.mono BB.out.size))
  clear h2
  have RY : Hid (ReadsP W5 VY LY.length LY) := Lib.hid h1.reads
  clear h1
  obtain ⟨AdY, CpY, eY, -, -, -⟩ := RY.out.form
  subst eY
  go_wp2_with fail
  obtain ⟨LZ, rx, mx, hq⟩ := less_x RB.out RA.out HLB.out HLA.out
  have HLZ := Lib.hid rx; have MZ := Lib.hid mx; clear rx mx
  refine hq.mono ?_
  rintro e W6 ⟨VZ, rfl, h1, h2⟩
  clear hq
  replace RA := Lib.hid (ReadsP.below RA.out h2)
  replace RB := Lib.hid (ReadsP.below RB.out h2)
  replace RX := Lib.hid (ReadsP.below RX.out h2)
  replace RY := Lib.hid (ReadsP.below RY.out h2)
  replace Q0 := Lib.hid (IsRow.below Q0.out h2)
  replace Q1 := Lib.hid (IsRow.below Q1.out h2)
  replace BB := Lib.hid (BB.out.trans (h2.mono BB.out.size))
  clear h2
  have RZ : Hid (ReadsP W6 VZ LZ.length LZ) := Lib.hid h1.reads
  clear h1
  obtain ⟨AdZ, CpZ, eZ, -, -, -⟩ := RZ.out.form
  subst eZ
  go_wp2_with fail
  obtain ⟨LO, rx, mx, hq⟩ := or_x (readsL_mk (t := 24) [Value.slice AdX LX.length CpX, Value.slice AdY LY.length CpY, Value.slice AdZ LZ.length CpZ] [LX, LY, LZ] ⟨RX.out, RY.out, RZ.out, trivial⟩) ⟨HLX.out, HLY.out, HLZ.out, trivial⟩ (by simp)
  have HLO := Lib.hid rx; have MO := Lib.hid mx; clear rx mx
  refine hq.mono ?_
  rintro e W7 ⟨VO, rfl, h1, h2⟩
  clear hq
  replace RA := Lib.hid (ReadsP.below (RA.out.alloc _) h2)
  replace RB := Lib.hid (ReadsP.below (RB.out.alloc _) h2)
  replace RX := Lib.hid (ReadsP.below (RX.out.alloc _) h2)
  replace RY := Lib.hid (ReadsP.below (RY.out.alloc _) h2)
  replace RZ := Lib.hid (ReadsP.below (RZ.out.alloc _) h2)
  replace Q0 := Lib.hid (IsRow.below (Q0.out.alloc _) h2)
  replace Q1 := Lib.hid (IsRow.below (Q1.out.alloc _) h2)
  replace BB := Lib.hid ((BB.out.alloc BB.out.size _).trans (h2.mono (BB.out.alloc BB.out.size _).size))
  clear h2
  have RO : Hid (ReadsP W7 VO LO.length LO) := Lib.hid h1.reads
  clear h1
  obtain ⟨AdO, CpO, eO, -, -, -⟩ := RO.out.form
  subst eO
  go_wp2_with fail
  obtain ⟨LP, rx, mx, hq⟩ := or_x (readsL_mk (t := 24) [Value.slice AdA LA.length CpA, Value.slice AdB LB.length CpB] [LA, LB] ⟨RA.out, RB.out, trivial⟩) ⟨HLA.out, HLB.out, trivial⟩ (by simp)
  have HLP := Lib.hid rx; have MP := Lib.hid mx; clear rx mx
  refine hq.mono ?_
  rintro e W8 ⟨VP, rfl, h1, h2⟩
  clear hq
  replace RA := Lib.hid (ReadsP.below (RA.out.alloc _) h2)
  replace RB := Lib.hid (ReadsP.below (RB.out.alloc _) h2)
  replace RX := Lib.hid (ReadsP.below (RX.out.alloc _) h2)
  replace RY := Lib.hid (ReadsP.below (RY.out.alloc _) h2)
  replace RZ := Lib.hid (ReadsP.below (RZ.out.alloc _) h2)
  replace RO := Lib.hid (ReadsP.below (RO.out.alloc _) h2)
  replace Q0 := Lib.hid (IsRow.below (Q0.out.alloc _) h2)
  replace Q1 := Lib.hid (IsRow.below (Q1.out.alloc _) h2)
  replace BB := Lib.hid ((BB.out.alloc BB.out.size _).trans (h2.mono (BB.out.alloc BB.out.size _).size))
  clear h2
  have RP : Hid (ReadsP W8 VP LP.length LP) := Lib.hid h1.reads
  clear h1
  obtain ⟨AdP, CpP, eP, -, -, -⟩ := RP.out.form
  subst eP
  have E1 : Hid (LO = LP) := Lib.hid (canon HLO.out HLP.out fun n => by
    simp only [AnyIn, or_false, inS_nilF, MO.out n, MX.out n, MY.out n, MZ.out n, MP.out n]
    by_cases hu : InU n
    · skip <;> by_cases hA : inS LA n <;> by_cases hB : inS LB n <;> simp [hu, hA, hB]
    · skip; have hA : ¬ inS LA n := fun h => hu (HLA.out.num h); have hB : ¬ inS LB n := fun h => hu (HLB.out.num h); simp [hu, hA, hB])
  go_wp2_with fail
  have hq := same_x RO.out RP.out E1.out
  refine hq.mono ?_
  rintro e W9 ⟨rfl, h2⟩
  clear hq
  replace RA := Lib.hid (ReadsP.below RA.out h2)
  replace RB := Lib.hid (ReadsP.below RB.out h2)
  replace RX := Lib.hid (ReadsP.below RX.out h2)
  replace RY := Lib.hid (ReadsP.below RY.out h2)
  replace RZ := Lib.hid (ReadsP.below RZ.out h2)
  replace RO := Lib.hid (ReadsP.below RO.out h2)
  replace RP := Lib.hid (ReadsP.below RP.out h2)
  replace Q0 := Lib.hid (IsRow.below Q0.out h2)
  replace Q1 := Lib.hid (IsRow.below Q1.out h2)
  replace BB := Lib.hid (BB.out.trans (h2.mono BB.out.size))
  clear h2
  clear RO
  clear RP
  go_wp2_with fail
  obtain ⟨Lp, rx, mx, hq⟩ := and_x RX.out RY.out HLX.out HLY.out
  have HLp := Lib.hid rx; have Mp := Lib.hid mx; clear rx mx
  refine hq.mono ?_
  rintro e W10 ⟨Vp, rfl, h1, h2⟩
  clear hq
  replace RA := Lib.hid (ReadsP.below RA.out h2)
  replace RB := Lib.hid (ReadsP.below RB.out h2)
  replace RX := Lib.hid (ReadsP.below RX.out h2)
  replace RY := Lib.hid (ReadsP.below RY.out h2)
  replace RZ := Lib.hid (ReadsP.below RZ.out h2)
  replace Q0 := Lib.hid (IsRow.below Q0.out h2)
  replace Q1 := Lib.hid (IsRow.below Q1.out h2)
  replace BB := Lib.hid (BB.out.trans (h2.mono BB.out.size))
  clear h2
  have Rp : Hid (ReadsP W10 Vp Lp.length Lp) := Lib.hid h1.reads
  clear h1
  have E2 : Hid (Lp = ([] : List (Int × Int))) := Lib.hid (canon HLp.out rt_none fun n => by
    simp only [AnyIn, or_false, inS_nilF, Mp.out n, MX.out n, MY.out n]
    by_cases hu : InU n
    · skip <;> by_cases hA : inS LA n <;> by_cases hB : inS LB n <;> simp [hu, hA, hB]
    · skip; have hA : ¬ inS LA n := fun h => hu (HLA.out.num h); have hB : ¬ inS LB n := fun h => hu (HLB.out.num h); simp [hu, hA, hB])
  have hs := Rp.out
  rw [E2.out] at hs
  obtain ⟨Adp, Cpp, ep, -, -, -⟩ := hs.form
  subst ep
  clear hs Rp
  go_wp2_with fail
  obtain ⟨Lq, rx, mx, hq⟩ := and_x RX.out RZ.out HLX.out HLZ.out
  have HLq := Lib.hid rx; have Mq := Lib.hid mx; clear rx mx
  refine hq.mono ?_
  rintro e W11 ⟨Vq, rfl, h1, h2⟩
  clear hq
  replace RA := Lib.hid (ReadsP.below RA.out h2)
  replace RB := Lib.hid (ReadsP.below RB.out h2)
  replace RX := Lib.hid (ReadsP.below RX.out h2)
  replace RY := Lib.hid (ReadsP.below RY.out h2)
  replace RZ := Lib.hid (ReadsP.below RZ.out h2)
  replace Q0 := Lib.hid (IsRow.below Q0.out h2)
  replace Q1 := Lib.hid (IsRow.below Q1.out h2)
  replace BB := Lib.hid (BB.out.trans (h2.mono BB.out.size))
  clear h2
  have Rq : Hid (ReadsP W11 Vq Lq.length Lq) := Lib.hid h1.reads
  clear h1
  have E3 : Hid (Lq = ([] : List (Int × Int))) := Lib.hid (canon HLq.out rt_none fun n => by
    simp only [AnyIn, or_false, inS_nilF, Mq.out n, MX.out n, MZ.out n]
    by_cases hu : InU n
    · skip <;> by_cases hA : inS LA n <;> by_cases hB : inS LB n <;> simp [hu, hA, hB]
    · skip; have hA : ¬ inS LA n := fun h => hu (HLA.out.num h); have hB : ¬ inS LB n := fun h => hu (HLB.out.num h); simp [hu, hA, hB])
  have hs := Rq.out
  rw [E3.out] at hs
  obtain ⟨Adq, Cpq, eq, -, -, -⟩ := hs.form
  subst eq
  clear hs Rq
  go_wp2_with fail
  obtain ⟨Lr, rx, mx, hq⟩ := and_x RY.out RZ.out HLY.out HLZ.out
  have HLr := Lib.hid rx; have Mr := Lib.hid mx; clear rx mx
  refine hq.mono ?_
  rintro e W12 ⟨Vr, rfl, h1, h2⟩
  clear hq
  replace RA := Lib.hid (ReadsP.below RA.out h2)
  replace RB := Lib.hid (ReadsP.below RB.out h2)
  replace RX := Lib.hid (ReadsP.below RX.out h2)
  replace RY := Lib.hid (ReadsP.below RY.out h2)
  replace RZ := Lib.hid (ReadsP.below RZ.out h2)
  replace Q0 := Lib.hid (IsRow.below Q0.out h2)
  replace Q1 := Lib.hid (IsRow.below Q1.out h2)
  replace BB := Lib.hid (BB.out.trans (h2.mono BB.out.size))
  clear h2
  have Rr : Hid (ReadsP W12 Vr Lr.length Lr) := Lib.hid h1.reads
  clear h1
  have E4 : Hid (Lr = ([] : List (Int × Int))) := Lib.hid (canon HLr.out rt_none fun n => by
    simp only [AnyIn, or_false, inS_nilF, Mr.out n, MY.out n, MZ.out n]
    by_cases hu : InU n
    · skip <;> by_cases hA : inS LA n <;> by_cases hB : inS LB n <;> simp [hu, hA, hB]
    · skip; have hA : ¬ inS LA n := fun h => hu (HLA.out.num h); have hB : ¬ inS LB n := fun h => hu (HLB.out.num h); simp [hu, hA, hB])
  have hs := Rr.out
  rw [E4.out] at hs
  obtain ⟨Adr, Cpr, er, -, -, -⟩ := hs.form
  subst er
  clear hs Rr
  go_wp2_with fail
  obtain ⟨LS, rx, mx, hq⟩ := or_x (readsL_mk (t := 24) [Value.slice AdX LX.length CpX, Value.slice AdY LY.length CpY] [LX, LY] ⟨RX.out, RY.out, trivial⟩) ⟨HLX.out, HLY.out, trivial⟩ (by simp)
  have HLS := Lib.hid rx; have MS := Lib.hid mx; clear rx mx
  refine hq.mono ?_
  rintro e W13 ⟨VS, rfl, h1, h2⟩
  clear hq
  replace RA := Lib.hid (ReadsP.below (RA.out.alloc _) h2)
  replace RB := Lib.hid (ReadsP.below (RB.out.alloc _) h2)
  replace RX := Lib.hid (ReadsP.below (RX.out.alloc _) h2)
  replace RY := Lib.hid (ReadsP.below (RY.out.alloc _) h2)
  replace RZ := Lib.hid (ReadsP.below (RZ.out.alloc _) h2)
  replace Q0 := Lib.hid (IsRow.below (Q0.out.alloc _) h2)
  replace Q1 := Lib.hid (IsRow.below (Q1.out.alloc _) h2)
  replace BB := Lib.hid ((BB.out.alloc BB.out.size _).trans (h2.mono (BB.out.alloc BB.out.size _).size))
  clear h2
  have RS : Hid (ReadsP W13 VS LS.length LS) := Lib.hid h1.reads
  clear h1
  obtain ⟨AdS, CpS, eS, -, -, -⟩ := RS.out.form
  subst eS
  have E5 : Hid (LS = LA) := Lib.hid (canon HLS.out HLA.out fun n => by
    simp only [AnyIn, or_false, inS_nilF, MS.out n, MX.out n, MY.out n]
    by_cases hu : InU n
    · skip <;> by_cases hA : inS LA n <;> by_cases hB : inS LB n <;> simp [hu, hA, hB]
    · skip; have hA : ¬ inS LA n := fun h => hu (HLA.out.num h); have hB : ¬ inS LB n := fun h => hu (HLB.out.num h); simp [hu, hA, hB])
  go_wp2_with fail
  have hq := same_x RS.out RA.out E5.out
  refine hq.mono ?_
  rintro e W14 ⟨rfl, h2⟩
  clear hq
  replace RA := Lib.hid (ReadsP.below RA.out h2)
  replace RB := Lib.hid (ReadsP.below RB.out h2)
  replace RX := Lib.hid (ReadsP.below RX.out h2)
  replace RY := Lib.hid (ReadsP.below RY.out h2)
  replace RZ := Lib.hid (ReadsP.below RZ.out h2)
  replace RS := Lib.hid (ReadsP.below RS.out h2)
  replace Q0 := Lib.hid (IsRow.below Q0.out h2)
  replace Q1 := Lib.hid (IsRow.below Q1.out h2)
  replace BB := Lib.hid (BB.out.trans (h2.mono BB.out.size))
  clear h2
  go_wp2_with fail
  go_ret
  exact ⟨rfl, BB.out⟩

end Go.Proofs.Ytkbcepgnjoeneaa
