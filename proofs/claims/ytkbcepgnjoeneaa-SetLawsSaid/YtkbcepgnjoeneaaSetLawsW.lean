/- The law SetLaws, walked. -/
import Derived.Test.YtkbcepgnjoeneaaSetX
namespace Go.Proofs.Ytkbcepgnjoeneaa
open Go Go.RowKit
set_option linter.unusedVariables false
set_option linter.unusedSimpArgs false

set_option maxRecDepth 100000 in
set_option maxHeartbeats 8000000 in
theorem setLaws_walk (a0 : Option Addr) (len0 cap0 : Nat) (z0 : List Int) (a1 : Option Addr) (len1 cap1 : Nat) (z1 : List Int) (a2 : Option Addr) (len2 cap2 : Nat) (z2 : List Int) (w : World) (w0 : IsRow .i64 w a0 len0 cap0 z0) (w1 : IsRow .i64 w a1 len1 cap1 z1) (w2 : IsRow .i64 w a2 len2 cap2 z2) :
    Calls Try.prog 5 #[.slice a0 len0 cap0, .slice a1 len1 cap1, .slice a2 len2 cap2] w fun e w' => e = .returned (.bool true) ∧ Below w.heap.size w w' := by
  have Q0 := Lib.hid w0; clear w0
  obtain ⟨LA, HLA, MA⟩ : ∃ A, Rt A ∧ ∀ w', IsRow .i64 w' a0 len0 cap0 z0 → Calls Try.prog 20 #[.slice a0 len0 cap0] w' (Tells w' A) := ⟨_, mkS_rt z0 len0, fun w' h => make_any h⟩
  replace HLA := Lib.hid HLA; replace MA := Lib.hid MA
  have Q1 := Lib.hid w1; clear w1
  obtain ⟨LB, HLB, MB⟩ : ∃ A, Rt A ∧ ∀ w', IsRow .i64 w' a1 len1 cap1 z1 → Calls Try.prog 20 #[.slice a1 len1 cap1] w' (Tells w' A) := ⟨_, mkS_rt z1 len1, fun w' h => make_any h⟩
  replace HLB := Lib.hid HLB; replace MB := Lib.hid MB
  have Q2 := Lib.hid w2; clear w2
  obtain ⟨LC, HLC, MC⟩ : ∃ A, Rt A ∧ ∀ w', IsRow .i64 w' a2 len2 cap2 z2 → Calls Try.prog 20 #[.slice a2 len2 cap2] w' (Tells w' A) := ⟨_, mkS_rt z2 len2, fun w' h => make_any h⟩
  replace HLC := Lib.hid HLC; replace MC := Lib.hid MC
  have BB : Hid (Below w.heap.size w w) := Lib.hid (Below.refl _ _)
  go_enter Try.func5, Try.ntmps5
  go_wp2_with fail
  have hq := known_any w
  refine hq.mono ?_
  rintro e W1 ⟨rfl, h2⟩
  clear hq
  replace Q0 := Lib.hid (IsRow.below Q0.out h2)
  replace Q1 := Lib.hid (IsRow.below Q1.out h2)
  replace Q2 := Lib.hid (IsRow.below Q2.out h2)
  replace BB := Lib.hid (BB.out.trans (h2.mono BB.out.size))
  clear h2
  go_wp2_with fail
  have hq := MA.out _ Q0.out
  refine hq.mono ?_
  rintro e W2 ⟨VA, rfl, h1, h2⟩
  clear hq
  replace Q0 := Lib.hid (IsRow.below Q0.out h2)
  replace Q1 := Lib.hid (IsRow.below Q1.out h2)
  replace Q2 := Lib.hid (IsRow.below Q2.out h2)
  replace BB := Lib.hid (BB.out.trans (h2.mono BB.out.size))
  clear h2
  have RA : Hid (ReadsP W2 VA LA.length LA) := Lib.hid h1.reads
  clear h1
  obtain ⟨AdA, CpA, eA, -, -, -⟩ := RA.out.form
  subst eA
  go_wp2_with fail
  have hq := MB.out _ Q1.out
  refine hq.mono ?_
  rintro e W3 ⟨VB, rfl, h1, h2⟩
  clear hq
  replace RA := Lib.hid (ReadsP.below RA.out h2)
  replace Q0 := Lib.hid (IsRow.below Q0.out h2)
  replace Q1 := Lib.hid (IsRow.below Q1.out h2)
  replace Q2 := Lib.hid (IsRow.below Q2.out h2)
  replace BB := Lib.hid (BB.out.trans (h2.mono BB.out.size))
  clear h2
  have RB : Hid (ReadsP W3 VB LB.length LB) := Lib.hid h1.reads
  clear h1
  obtain ⟨AdB, CpB, eB, -, -, -⟩ := RB.out.form
  subst eB
  go_wp2_with fail
  have hq := MC.out _ Q2.out
  refine hq.mono ?_
  rintro e W4 ⟨VC, rfl, h1, h2⟩
  clear hq
  replace RA := Lib.hid (ReadsP.below RA.out h2)
  replace RB := Lib.hid (ReadsP.below RB.out h2)
  replace Q0 := Lib.hid (IsRow.below Q0.out h2)
  replace Q1 := Lib.hid (IsRow.below Q1.out h2)
  replace Q2 := Lib.hid (IsRow.below Q2.out h2)
  replace BB := Lib.hid (BB.out.trans (h2.mono BB.out.size))
  clear h2
  have RC : Hid (ReadsP W4 VC LC.length LC) := Lib.hid h1.reads
  clear h1
  obtain ⟨AdC, CpC, eC, -, -, -⟩ := RC.out.form
  subst eC
  go_wp2_with fail
  obtain ⟨LU, rx, mx, hq⟩ := not_x (ReadsP.nil W4) rt_none
  have HLU := Lib.hid rx; have MU := Lib.hid mx; clear rx mx
  refine hq.mono ?_
  rintro e W5 ⟨VU, rfl, h1, h2⟩
  clear hq
  replace RA := Lib.hid (ReadsP.below RA.out h2)
  replace RB := Lib.hid (ReadsP.below RB.out h2)
  replace RC := Lib.hid (ReadsP.below RC.out h2)
  replace Q0 := Lib.hid (IsRow.below Q0.out h2)
  replace Q1 := Lib.hid (IsRow.below Q1.out h2)
  replace Q2 := Lib.hid (IsRow.below Q2.out h2)
  replace BB := Lib.hid (BB.out.trans (h2.mono BB.out.size))
  clear h2
  have RU : Hid (ReadsP W5 VU LU.length LU) := Lib.hid h1.reads
  clear h1
  obtain ⟨AdU, CpU, eU, -, -, -⟩ := RU.out.form
  subst eU
  go_wp2_with fail
  obtain ⟨Lx, rx, mx, hq⟩ := not_x RA.out HLA.out
  have HLx := Lib.hid rx; have Mx := Lib.hid mx; clear rx mx
  refine hq.mono ?_
  rintro e W6 ⟨Vx, rfl, h1, h2⟩
  clear hq
  replace RA := Lib.hid (ReadsP.below RA.out h2)
  replace RB := Lib.hid (ReadsP.below RB.out h2)
  replace RC := Lib.hid (ReadsP.below RC.out h2)
  replace RU := Lib.hid (ReadsP.below RU.out h2)
  replace Q0 := Lib.hid (IsRow.below Q0.out h2)
  replace Q1 := Lib.hid (IsRow.below Q1.out h2)
  replace Q2 := Lib.hid (IsRow.below Q2.out h2)
  replace BB := Lib.hid (BB.out.trans (h2.mono BB.out.size))
  clear h2
  have Rx : Hid (ReadsP W6 Vx Lx.length Lx) := Lib.hid h1.reads
  clear h1
  obtain ⟨Adx, Cpx, ex, -, -, -⟩ := Rx.out.form
  subst ex
  go_wp2_with fail
  obtain ⟨Ly, rx, mx, hq⟩ := not_x Rx.out HLx.out
  have HLy := Lib.hid rx; have My := Lib.hid mx; clear rx mx
  refine hq.mono ?_
  rintro e W7 ⟨Vy, rfl, h1, h2⟩
  clear hq
  replace RA := Lib.hid (ReadsP.below RA.out h2)
  replace RB := Lib.hid (ReadsP.below RB.out h2)
  replace RC := Lib.hid (ReadsP.below RC.out h2)
  replace RU := Lib.hid (ReadsP.below RU.out h2)
  replace Rx := Lib.hid (ReadsP.below Rx.out h2)
  replace Q0 := Lib.hid (IsRow.below Q0.out h2)
  replace Q1 := Lib.hid (IsRow.below Q1.out h2)
  replace Q2 := Lib.hid (IsRow.below Q2.out h2)
  replace BB := Lib.hid (BB.out.trans (h2.mono BB.out.size))
  clear h2
  have Ry : Hid (ReadsP W7 Vy Ly.length Ly) := Lib.hid h1.reads
  clear h1
  obtain ⟨Ady, Cpy, ey, -, -, -⟩ := Ry.out.form
  subst ey
  have E1 : Hid (Ly = LA) := Lib.hid (canon HLy.out HLA.out fun n => by
    simp only [AnyIn, or_false, inS_nilF, My.out n, Mx.out n]
    all_goals
      by_cases hu : InU n
      · skip <;> by_cases hA : inS LA n <;> simp [hu, hA]
      · skip; have hA : ¬ inS LA n := fun h => hu (HLA.out.num h); simp [hu, hA])
  go_wp2_with fail
  have hq := same_x Ry.out RA.out E1.out
  refine hq.mono ?_
  rintro e W8 ⟨rfl, h2⟩
  clear hq
  replace RA := Lib.hid (ReadsP.below RA.out h2)
  replace RB := Lib.hid (ReadsP.below RB.out h2)
  replace RC := Lib.hid (ReadsP.below RC.out h2)
  replace RU := Lib.hid (ReadsP.below RU.out h2)
  replace Rx := Lib.hid (ReadsP.below Rx.out h2)
  replace Ry := Lib.hid (ReadsP.below Ry.out h2)
  replace Q0 := Lib.hid (IsRow.below Q0.out h2)
  replace Q1 := Lib.hid (IsRow.below Q1.out h2)
  replace Q2 := Lib.hid (IsRow.below Q2.out h2)
  replace BB := Lib.hid (BB.out.trans (h2.mono BB.out.size))
  clear h2
  clear Rx
  clear Ry
  go_wp2_with fail
  obtain ⟨Lp, rx, mx, hq⟩ := or_x (readsL_mk (t := 24) [Value.slice AdA LA.length CpA, Value.slice AdB LB.length CpB] [LA, LB] ⟨RA.out, RB.out, trivial⟩) ⟨HLA.out, HLB.out, trivial⟩ (by simp)
  have HLp := Lib.hid rx; have Mp := Lib.hid mx; clear rx mx
  refine hq.mono ?_
  rintro e W9 ⟨Vp, rfl, h1, h2⟩
  clear hq
  replace RA := Lib.hid (ReadsP.below (RA.out.alloc _) h2)
  replace RB := Lib.hid (ReadsP.below (RB.out.alloc _) h2)
  replace RC := Lib.hid (ReadsP.below (RC.out.alloc _) h2)
  replace RU := Lib.hid (ReadsP.below (RU.out.alloc _) h2)
  replace Q0 := Lib.hid (IsRow.below (Q0.out.alloc _) h2)
  replace Q1 := Lib.hid (IsRow.below (Q1.out.alloc _) h2)
  replace Q2 := Lib.hid (IsRow.below (Q2.out.alloc _) h2)
  replace BB := Lib.hid ((BB.out.alloc BB.out.size _).trans (h2.mono (BB.out.alloc BB.out.size _).size))
  clear h2
  have Rp : Hid (ReadsP W9 Vp Lp.length Lp) := Lib.hid h1.reads
  clear h1
  obtain ⟨Adp, Cpp, ep, -, -, -⟩ := Rp.out.form
  subst ep
  go_wp2_with fail
  obtain ⟨Lq, rx, mx, hq⟩ := not_x Rp.out HLp.out
  have HLq := Lib.hid rx; have Mq := Lib.hid mx; clear rx mx
  refine hq.mono ?_
  rintro e W10 ⟨Vq, rfl, h1, h2⟩
  clear hq
  replace RA := Lib.hid (ReadsP.below RA.out h2)
  replace RB := Lib.hid (ReadsP.below RB.out h2)
  replace RC := Lib.hid (ReadsP.below RC.out h2)
  replace RU := Lib.hid (ReadsP.below RU.out h2)
  replace Rp := Lib.hid (ReadsP.below Rp.out h2)
  replace Q0 := Lib.hid (IsRow.below Q0.out h2)
  replace Q1 := Lib.hid (IsRow.below Q1.out h2)
  replace Q2 := Lib.hid (IsRow.below Q2.out h2)
  replace BB := Lib.hid (BB.out.trans (h2.mono BB.out.size))
  clear h2
  have Rq : Hid (ReadsP W10 Vq Lq.length Lq) := Lib.hid h1.reads
  clear h1
  obtain ⟨Adq, Cpq, eq, -, -, -⟩ := Rq.out.form
  subst eq
  go_wp2_with fail
  obtain ⟨Lr, rx, mx, hq⟩ := not_x RA.out HLA.out
  have HLr := Lib.hid rx; have Mr := Lib.hid mx; clear rx mx
  refine hq.mono ?_
  rintro e W11 ⟨Vr, rfl, h1, h2⟩
  clear hq
  replace RA := Lib.hid (ReadsP.below RA.out h2)
  replace RB := Lib.hid (ReadsP.below RB.out h2)
  replace RC := Lib.hid (ReadsP.below RC.out h2)
  replace RU := Lib.hid (ReadsP.below RU.out h2)
  replace Rp := Lib.hid (ReadsP.below Rp.out h2)
  replace Rq := Lib.hid (ReadsP.below Rq.out h2)
  replace Q0 := Lib.hid (IsRow.below Q0.out h2)
  replace Q1 := Lib.hid (IsRow.below Q1.out h2)
  replace Q2 := Lib.hid (IsRow.below Q2.out h2)
  replace BB := Lib.hid (BB.out.trans (h2.mono BB.out.size))
  clear h2
  have Rr : Hid (ReadsP W11 Vr Lr.length Lr) := Lib.hid h1.reads
  clear h1
  obtain ⟨Adr, Cpr, er, -, -, -⟩ := Rr.out.form
  subst er
  go_wp2_with fail
  obtain ⟨Ls, rx, mx, hq⟩ := not_x RB.out HLB.out
  have HLs := Lib.hid rx; have Ms := Lib.hid mx; clear rx mx
  refine hq.mono ?_
  rintro e W12 ⟨Vs, rfl, h1, h2⟩
  clear hq
  replace RA := Lib.hid (ReadsP.below RA.out h2)
  replace RB := Lib.hid (ReadsP.below RB.out h2)
  replace RC := Lib.hid (ReadsP.below RC.out h2)
  replace RU := Lib.hid (ReadsP.below RU.out h2)
  replace Rp := Lib.hid (ReadsP.below Rp.out h2)
  replace Rq := Lib.hid (ReadsP.below Rq.out h2)
  replace Rr := Lib.hid (ReadsP.below Rr.out h2)
  replace Q0 := Lib.hid (IsRow.below Q0.out h2)
  replace Q1 := Lib.hid (IsRow.below Q1.out h2)
  replace Q2 := Lib.hid (IsRow.below Q2.out h2)
  replace BB := Lib.hid (BB.out.trans (h2.mono BB.out.size))
  clear h2
  have Rs : Hid (ReadsP W12 Vs Ls.length Ls) := Lib.hid h1.reads
  clear h1
  obtain ⟨Ads, Cps, es, -, -, -⟩ := Rs.out.form
  subst es
  go_wp2_with fail
  obtain ⟨Lt, rx, mx, hq⟩ := and_x Rr.out Rs.out HLr.out HLs.out
  have HLt := Lib.hid rx; have Mt := Lib.hid mx; clear rx mx
  refine hq.mono ?_
  rintro e W13 ⟨Vt, rfl, h1, h2⟩
  clear hq
  replace RA := Lib.hid (ReadsP.below RA.out h2)
  replace RB := Lib.hid (ReadsP.below RB.out h2)
  replace RC := Lib.hid (ReadsP.below RC.out h2)
  replace RU := Lib.hid (ReadsP.below RU.out h2)
  replace Rp := Lib.hid (ReadsP.below Rp.out h2)
  replace Rq := Lib.hid (ReadsP.below Rq.out h2)
  replace Rr := Lib.hid (ReadsP.below Rr.out h2)
  replace Rs := Lib.hid (ReadsP.below Rs.out h2)
  replace Q0 := Lib.hid (IsRow.below Q0.out h2)
  replace Q1 := Lib.hid (IsRow.below Q1.out h2)
  replace Q2 := Lib.hid (IsRow.below Q2.out h2)
  replace BB := Lib.hid (BB.out.trans (h2.mono BB.out.size))
  clear h2
  have Rt : Hid (ReadsP W13 Vt Lt.length Lt) := Lib.hid h1.reads
  clear h1
  obtain ⟨Adt, Cpt, et, -, -, -⟩ := Rt.out.form
  subst et
  have E2 : Hid (Lq = Lt) := Lib.hid (canon HLq.out HLt.out fun n => by
    simp only [AnyIn, or_false, inS_nilF, Mq.out n, Mp.out n, Mt.out n, Mr.out n, Ms.out n]
    all_goals
      by_cases hu : InU n
      · skip <;> by_cases hA : inS LA n <;> by_cases hB : inS LB n <;> simp [hu, hA, hB]
      · skip; have hA : ¬ inS LA n := fun h => hu (HLA.out.num h); have hB : ¬ inS LB n := fun h => hu (HLB.out.num h); simp [hu, hA, hB])
  go_wp2_with fail
  have hq := same_x Rq.out Rt.out E2.out
  refine hq.mono ?_
  rintro e W14 ⟨rfl, h2⟩
  clear hq
  replace RA := Lib.hid (ReadsP.below RA.out h2)
  replace RB := Lib.hid (ReadsP.below RB.out h2)
  replace RC := Lib.hid (ReadsP.below RC.out h2)
  replace RU := Lib.hid (ReadsP.below RU.out h2)
  replace Rp := Lib.hid (ReadsP.below Rp.out h2)
  replace Rq := Lib.hid (ReadsP.below Rq.out h2)
  replace Rr := Lib.hid (ReadsP.below Rr.out h2)
  replace Rs := Lib.hid (ReadsP.below Rs.out h2)
  replace Rt := Lib.hid (ReadsP.below Rt.out h2)
  replace Q0 := Lib.hid (IsRow.below Q0.out h2)
  replace Q1 := Lib.hid (IsRow.below Q1.out h2)
  replace Q2 := Lib.hid (IsRow.below Q2.out h2)
  replace BB := Lib.hid (BB.out.trans (h2.mono BB.out.size))
  clear h2
  clear Rp
  clear Rq
  clear Rr
  clear Rs
  clear Rt
  go_wp2_with fail
  obtain ⟨Ld, rx, mx, hq⟩ := or_x (readsL_mk (t := 24) [Value.slice AdB LB.length CpB, Value.slice AdC LC.length CpC] [LB, LC] ⟨RB.out, RC.out, trivial⟩) ⟨HLB.out, HLC.out, trivial⟩ (by simp)
  have HLd := Lib.hid rx; have Md := Lib.hid mx; clear rx mx
  refine hq.mono ?_
  rintro e W15 ⟨Vd, rfl, h1, h2⟩
  clear hq
  replace RA := Lib.hid (ReadsP.below (RA.out.alloc _) h2)
  replace RB := Lib.hid (ReadsP.below (RB.out.alloc _) h2)
  replace RC := Lib.hid (ReadsP.below (RC.out.alloc _) h2)
  replace RU := Lib.hid (ReadsP.below (RU.out.alloc _) h2)
  replace Q0 := Lib.hid (IsRow.below (Q0.out.alloc _) h2)
  replace Q1 := Lib.hid (IsRow.below (Q1.out.alloc _) h2)
  replace Q2 := Lib.hid (IsRow.below (Q2.out.alloc _) h2)
  replace BB := Lib.hid ((BB.out.alloc BB.out.size _).trans (h2.mono (BB.out.alloc BB.out.size _).size))
  clear h2
  have Rd : Hid (ReadsP W15 Vd Ld.length Ld) := Lib.hid h1.reads
  clear h1
  obtain ⟨Add, Cpd, ed, -, -, -⟩ := Rd.out.form
  subst ed
  go_wp2_with fail
  obtain ⟨Lf, rx, mx, hq⟩ := and_x RA.out Rd.out HLA.out HLd.out
  have HLf := Lib.hid rx; have Mf := Lib.hid mx; clear rx mx
  refine hq.mono ?_
  rintro e W16 ⟨Vf, rfl, h1, h2⟩
  clear hq
  replace RA := Lib.hid (ReadsP.below RA.out h2)
  replace RB := Lib.hid (ReadsP.below RB.out h2)
  replace RC := Lib.hid (ReadsP.below RC.out h2)
  replace RU := Lib.hid (ReadsP.below RU.out h2)
  replace Rd := Lib.hid (ReadsP.below Rd.out h2)
  replace Q0 := Lib.hid (IsRow.below Q0.out h2)
  replace Q1 := Lib.hid (IsRow.below Q1.out h2)
  replace Q2 := Lib.hid (IsRow.below Q2.out h2)
  replace BB := Lib.hid (BB.out.trans (h2.mono BB.out.size))
  clear h2
  have Rf : Hid (ReadsP W16 Vf Lf.length Lf) := Lib.hid h1.reads
  clear h1
  obtain ⟨Adf, Cpf, ef, -, -, -⟩ := Rf.out.form
  subst ef
  go_wp2_with fail
  obtain ⟨Lg, rx, mx, hq⟩ := and_x RA.out RB.out HLA.out HLB.out
  have HLg := Lib.hid rx; have Mg := Lib.hid mx; clear rx mx
  refine hq.mono ?_
  rintro e W17 ⟨Vg, rfl, h1, h2⟩
  clear hq
  replace RA := Lib.hid (ReadsP.below RA.out h2)
  replace RB := Lib.hid (ReadsP.below RB.out h2)
  replace RC := Lib.hid (ReadsP.below RC.out h2)
  replace RU := Lib.hid (ReadsP.below RU.out h2)
  replace Rd := Lib.hid (ReadsP.below Rd.out h2)
  replace Rf := Lib.hid (ReadsP.below Rf.out h2)
  replace Q0 := Lib.hid (IsRow.below Q0.out h2)
  replace Q1 := Lib.hid (IsRow.below Q1.out h2)
  replace Q2 := Lib.hid (IsRow.below Q2.out h2)
  replace BB := Lib.hid (BB.out.trans (h2.mono BB.out.size))
  clear h2
  have Rg : Hid (ReadsP W17 Vg Lg.length Lg) := Lib.hid h1.reads
  clear h1
  obtain ⟨Adg, Cpg, eg, -, -, -⟩ := Rg.out.form
  subst eg
  go_wp2_with fail
  obtain ⟨Li, rx, mx, hq⟩ := and_x RA.out RC.out HLA.out HLC.out
  have HLi := Lib.hid rx; have Mi := Lib.hid mx; clear rx mx
  refine hq.mono ?_
  rintro e W18 ⟨Vi, rfl, h1, h2⟩
  clear hq
  replace RA := Lib.hid (ReadsP.below RA.out h2)
  replace RB := Lib.hid (ReadsP.below RB.out h2)
  replace RC := Lib.hid (ReadsP.below RC.out h2)
  replace RU := Lib.hid (ReadsP.below RU.out h2)
  replace Rd := Lib.hid (ReadsP.below Rd.out h2)
  replace Rf := Lib.hid (ReadsP.below Rf.out h2)
  replace Rg := Lib.hid (ReadsP.below Rg.out h2)
  replace Q0 := Lib.hid (IsRow.below Q0.out h2)
  replace Q1 := Lib.hid (IsRow.below Q1.out h2)
  replace Q2 := Lib.hid (IsRow.below Q2.out h2)
  replace BB := Lib.hid (BB.out.trans (h2.mono BB.out.size))
  clear h2
  have Ri : Hid (ReadsP W18 Vi Li.length Li) := Lib.hid h1.reads
  clear h1
  obtain ⟨Adi, Cpi, ei, -, -, -⟩ := Ri.out.form
  subst ei
  go_wp2_with fail
  obtain ⟨Lj, rx, mx, hq⟩ := or_x (readsL_mk (t := 24) [Value.slice Adg Lg.length Cpg, Value.slice Adi Li.length Cpi] [Lg, Li] ⟨Rg.out, Ri.out, trivial⟩) ⟨HLg.out, HLi.out, trivial⟩ (by simp)
  have HLj := Lib.hid rx; have Mj := Lib.hid mx; clear rx mx
  refine hq.mono ?_
  rintro e W19 ⟨Vj, rfl, h1, h2⟩
  clear hq
  replace RA := Lib.hid (ReadsP.below (RA.out.alloc _) h2)
  replace RB := Lib.hid (ReadsP.below (RB.out.alloc _) h2)
  replace RC := Lib.hid (ReadsP.below (RC.out.alloc _) h2)
  replace RU := Lib.hid (ReadsP.below (RU.out.alloc _) h2)
  replace Rd := Lib.hid (ReadsP.below (Rd.out.alloc _) h2)
  replace Rf := Lib.hid (ReadsP.below (Rf.out.alloc _) h2)
  replace Rg := Lib.hid (ReadsP.below (Rg.out.alloc _) h2)
  replace Ri := Lib.hid (ReadsP.below (Ri.out.alloc _) h2)
  replace Q0 := Lib.hid (IsRow.below (Q0.out.alloc _) h2)
  replace Q1 := Lib.hid (IsRow.below (Q1.out.alloc _) h2)
  replace Q2 := Lib.hid (IsRow.below (Q2.out.alloc _) h2)
  replace BB := Lib.hid ((BB.out.alloc BB.out.size _).trans (h2.mono (BB.out.alloc BB.out.size _).size))
  clear h2
  have Rj : Hid (ReadsP W19 Vj Lj.length Lj) := Lib.hid h1.reads
  clear h1
  obtain ⟨Adj, Cpj, ej, -, -, -⟩ := Rj.out.form
  subst ej
  have E3 : Hid (Lf = Lj) := Lib.hid (canon HLf.out HLj.out fun n => by
    simp only [AnyIn, or_false, inS_nilF, Mf.out n, Md.out n, Mj.out n, Mg.out n, Mi.out n]
    all_goals
      by_cases hu : InU n
      · skip <;> by_cases hA : inS LA n <;> by_cases hB : inS LB n <;> by_cases hC : inS LC n <;> simp [hu, hA, hB, hC]
      · skip; have hA : ¬ inS LA n := fun h => hu (HLA.out.num h); have hB : ¬ inS LB n := fun h => hu (HLB.out.num h); have hC : ¬ inS LC n := fun h => hu (HLC.out.num h); simp [hu, hA, hB, hC])
  go_wp2_with fail
  have hq := same_x Rf.out Rj.out E3.out
  refine hq.mono ?_
  rintro e W20 ⟨rfl, h2⟩
  clear hq
  replace RA := Lib.hid (ReadsP.below RA.out h2)
  replace RB := Lib.hid (ReadsP.below RB.out h2)
  replace RC := Lib.hid (ReadsP.below RC.out h2)
  replace RU := Lib.hid (ReadsP.below RU.out h2)
  replace Rd := Lib.hid (ReadsP.below Rd.out h2)
  replace Rf := Lib.hid (ReadsP.below Rf.out h2)
  replace Rg := Lib.hid (ReadsP.below Rg.out h2)
  replace Ri := Lib.hid (ReadsP.below Ri.out h2)
  replace Rj := Lib.hid (ReadsP.below Rj.out h2)
  replace Q0 := Lib.hid (IsRow.below Q0.out h2)
  replace Q1 := Lib.hid (IsRow.below Q1.out h2)
  replace Q2 := Lib.hid (IsRow.below Q2.out h2)
  replace BB := Lib.hid (BB.out.trans (h2.mono BB.out.size))
  clear h2
  clear Rd
  clear Rf
  clear Rg
  clear Ri
  clear Rj
  go_wp2_with fail
  obtain ⟨Lk, rx, mx, hq⟩ := not_x RA.out HLA.out
  have HLk := Lib.hid rx; have Mk := Lib.hid mx; clear rx mx
  refine hq.mono ?_
  rintro e W21 ⟨Vk, rfl, h1, h2⟩
  clear hq
  replace RA := Lib.hid (ReadsP.below RA.out h2)
  replace RB := Lib.hid (ReadsP.below RB.out h2)
  replace RC := Lib.hid (ReadsP.below RC.out h2)
  replace RU := Lib.hid (ReadsP.below RU.out h2)
  replace Q0 := Lib.hid (IsRow.below Q0.out h2)
  replace Q1 := Lib.hid (IsRow.below Q1.out h2)
  replace Q2 := Lib.hid (IsRow.below Q2.out h2)
  replace BB := Lib.hid (BB.out.trans (h2.mono BB.out.size))
  clear h2
  have Rk : Hid (ReadsP W21 Vk Lk.length Lk) := Lib.hid h1.reads
  clear h1
  obtain ⟨Adk, Cpk, ek, -, -, -⟩ := Rk.out.form
  subst ek
  go_wp2_with fail
  obtain ⟨Ll, rx, mx, hq⟩ := or_x (readsL_mk (t := 24) [Value.slice AdA LA.length CpA, Value.slice Adk Lk.length Cpk] [LA, Lk] ⟨RA.out, Rk.out, trivial⟩) ⟨HLA.out, HLk.out, trivial⟩ (by simp)
  have HLl := Lib.hid rx; have Ml := Lib.hid mx; clear rx mx
  refine hq.mono ?_
  rintro e W22 ⟨Vl, rfl, h1, h2⟩
  clear hq
  replace RA := Lib.hid (ReadsP.below (RA.out.alloc _) h2)
  replace RB := Lib.hid (ReadsP.below (RB.out.alloc _) h2)
  replace RC := Lib.hid (ReadsP.below (RC.out.alloc _) h2)
  replace RU := Lib.hid (ReadsP.below (RU.out.alloc _) h2)
  replace Rk := Lib.hid (ReadsP.below (Rk.out.alloc _) h2)
  replace Q0 := Lib.hid (IsRow.below (Q0.out.alloc _) h2)
  replace Q1 := Lib.hid (IsRow.below (Q1.out.alloc _) h2)
  replace Q2 := Lib.hid (IsRow.below (Q2.out.alloc _) h2)
  replace BB := Lib.hid ((BB.out.alloc BB.out.size _).trans (h2.mono (BB.out.alloc BB.out.size _).size))
  clear h2
  have Rl : Hid (ReadsP W22 Vl Ll.length Ll) := Lib.hid h1.reads
  clear h1
  obtain ⟨Adl, Cpl, el, -, -, -⟩ := Rl.out.form
  subst el
  have E4 : Hid (Ll = LU) := Lib.hid (canon HLl.out HLU.out fun n => by
    simp only [AnyIn, or_false, inS_nilF, Ml.out n, Mk.out n, MU.out n]
    all_goals
      by_cases hu : InU n
      · skip <;> by_cases hA : inS LA n <;> simp [hu, hA]
      · skip; have hA : ¬ inS LA n := fun h => hu (HLA.out.num h); simp [hu, hA])
  go_wp2_with fail
  have hq := same_x Rl.out RU.out E4.out
  refine hq.mono ?_
  rintro e W23 ⟨rfl, h2⟩
  clear hq
  replace RA := Lib.hid (ReadsP.below RA.out h2)
  replace RB := Lib.hid (ReadsP.below RB.out h2)
  replace RC := Lib.hid (ReadsP.below RC.out h2)
  replace RU := Lib.hid (ReadsP.below RU.out h2)
  replace Rk := Lib.hid (ReadsP.below Rk.out h2)
  replace Rl := Lib.hid (ReadsP.below Rl.out h2)
  replace Q0 := Lib.hid (IsRow.below Q0.out h2)
  replace Q1 := Lib.hid (IsRow.below Q1.out h2)
  replace Q2 := Lib.hid (IsRow.below Q2.out h2)
  replace BB := Lib.hid (BB.out.trans (h2.mono BB.out.size))
  clear h2
  clear Rk
  clear Rl
  go_wp2_with fail
  obtain ⟨Lm, rx, mx, hq⟩ := not_x RA.out HLA.out
  have HLm := Lib.hid rx; have Mm := Lib.hid mx; clear rx mx
  refine hq.mono ?_
  rintro e W24 ⟨Vm, rfl, h1, h2⟩
  clear hq
  replace RA := Lib.hid (ReadsP.below RA.out h2)
  replace RB := Lib.hid (ReadsP.below RB.out h2)
  replace RC := Lib.hid (ReadsP.below RC.out h2)
  replace RU := Lib.hid (ReadsP.below RU.out h2)
  replace Q0 := Lib.hid (IsRow.below Q0.out h2)
  replace Q1 := Lib.hid (IsRow.below Q1.out h2)
  replace Q2 := Lib.hid (IsRow.below Q2.out h2)
  replace BB := Lib.hid (BB.out.trans (h2.mono BB.out.size))
  clear h2
  have Rm : Hid (ReadsP W24 Vm Lm.length Lm) := Lib.hid h1.reads
  clear h1
  obtain ⟨Adm, Cpm, em, -, -, -⟩ := Rm.out.form
  subst em
  go_wp2_with fail
  obtain ⟨Lz, rx, mx, hq⟩ := and_x RA.out Rm.out HLA.out HLm.out
  have HLz := Lib.hid rx; have Mz := Lib.hid mx; clear rx mx
  refine hq.mono ?_
  rintro e W25 ⟨Vz, rfl, h1, h2⟩
  clear hq
  replace RA := Lib.hid (ReadsP.below RA.out h2)
  replace RB := Lib.hid (ReadsP.below RB.out h2)
  replace RC := Lib.hid (ReadsP.below RC.out h2)
  replace RU := Lib.hid (ReadsP.below RU.out h2)
  replace Rm := Lib.hid (ReadsP.below Rm.out h2)
  replace Q0 := Lib.hid (IsRow.below Q0.out h2)
  replace Q1 := Lib.hid (IsRow.below Q1.out h2)
  replace Q2 := Lib.hid (IsRow.below Q2.out h2)
  replace BB := Lib.hid (BB.out.trans (h2.mono BB.out.size))
  clear h2
  have Rz : Hid (ReadsP W25 Vz Lz.length Lz) := Lib.hid h1.reads
  clear h1
  have E5 : Hid (Lz = ([] : List (Int × Int))) := Lib.hid (canon HLz.out rt_none fun n => by
    simp only [AnyIn, or_false, inS_nilF, Mz.out n, Mm.out n]
    all_goals
      by_cases hu : InU n
      · skip <;> by_cases hA : inS LA n <;> simp [hu, hA]
      · skip; have hA : ¬ inS LA n := fun h => hu (HLA.out.num h); simp [hu, hA])
  have hs := Rz.out
  rw [E5.out] at hs
  obtain ⟨Adz, Cpz, ez, -, -, -⟩ := hs.form
  subst ez
  clear hs Rz
  clear Rm
  go_wp2_with fail
  obtain ⟨Ln, rx, mx, hq⟩ := less_x RA.out RB.out HLA.out HLB.out
  have HLn := Lib.hid rx; have Mn := Lib.hid mx; clear rx mx
  refine hq.mono ?_
  rintro e W26 ⟨Vn, rfl, h1, h2⟩
  clear hq
  replace RA := Lib.hid (ReadsP.below RA.out h2)
  replace RB := Lib.hid (ReadsP.below RB.out h2)
  replace RC := Lib.hid (ReadsP.below RC.out h2)
  replace RU := Lib.hid (ReadsP.below RU.out h2)
  replace Q0 := Lib.hid (IsRow.below Q0.out h2)
  replace Q1 := Lib.hid (IsRow.below Q1.out h2)
  replace Q2 := Lib.hid (IsRow.below Q2.out h2)
  replace BB := Lib.hid (BB.out.trans (h2.mono BB.out.size))
  clear h2
  have Rn : Hid (ReadsP W26 Vn Ln.length Ln) := Lib.hid h1.reads
  clear h1
  obtain ⟨Adn, Cpn, en, -, -, -⟩ := Rn.out.form
  subst en
  go_wp2_with fail
  obtain ⟨Lo, rx, mx, hq⟩ := not_x RB.out HLB.out
  have HLo := Lib.hid rx; have Mo := Lib.hid mx; clear rx mx
  refine hq.mono ?_
  rintro e W27 ⟨Vo, rfl, h1, h2⟩
  clear hq
  replace RA := Lib.hid (ReadsP.below RA.out h2)
  replace RB := Lib.hid (ReadsP.below RB.out h2)
  replace RC := Lib.hid (ReadsP.below RC.out h2)
  replace RU := Lib.hid (ReadsP.below RU.out h2)
  replace Rn := Lib.hid (ReadsP.below Rn.out h2)
  replace Q0 := Lib.hid (IsRow.below Q0.out h2)
  replace Q1 := Lib.hid (IsRow.below Q1.out h2)
  replace Q2 := Lib.hid (IsRow.below Q2.out h2)
  replace BB := Lib.hid (BB.out.trans (h2.mono BB.out.size))
  clear h2
  have Ro : Hid (ReadsP W27 Vo Lo.length Lo) := Lib.hid h1.reads
  clear h1
  obtain ⟨Ado, Cpo, eo, -, -, -⟩ := Ro.out.form
  subst eo
  go_wp2_with fail
  obtain ⟨Lc, rx, mx, hq⟩ := and_x RA.out Ro.out HLA.out HLo.out
  have HLc := Lib.hid rx; have Mc := Lib.hid mx; clear rx mx
  refine hq.mono ?_
  rintro e W28 ⟨Vc, rfl, h1, h2⟩
  clear hq
  replace RA := Lib.hid (ReadsP.below RA.out h2)
  replace RB := Lib.hid (ReadsP.below RB.out h2)
  replace RC := Lib.hid (ReadsP.below RC.out h2)
  replace RU := Lib.hid (ReadsP.below RU.out h2)
  replace Rn := Lib.hid (ReadsP.below Rn.out h2)
  replace Ro := Lib.hid (ReadsP.below Ro.out h2)
  replace Q0 := Lib.hid (IsRow.below Q0.out h2)
  replace Q1 := Lib.hid (IsRow.below Q1.out h2)
  replace Q2 := Lib.hid (IsRow.below Q2.out h2)
  replace BB := Lib.hid (BB.out.trans (h2.mono BB.out.size))
  clear h2
  have Rc : Hid (ReadsP W28 Vc Lc.length Lc) := Lib.hid h1.reads
  clear h1
  obtain ⟨Adc, Cpc, ec, -, -, -⟩ := Rc.out.form
  subst ec
  have E6 : Hid (Ln = Lc) := Lib.hid (canon HLn.out HLc.out fun n => by
    simp only [AnyIn, or_false, inS_nilF, Mn.out n, Mc.out n, Mo.out n]
    all_goals
      by_cases hu : InU n
      · skip <;> by_cases hA : inS LA n <;> by_cases hB : inS LB n <;> simp [hu, hA, hB]
      · skip; have hA : ¬ inS LA n := fun h => hu (HLA.out.num h); have hB : ¬ inS LB n := fun h => hu (HLB.out.num h); simp [hu, hA, hB])
  go_wp2_with fail
  have hq := same_x Rn.out Rc.out E6.out
  refine hq.mono ?_
  rintro e W29 ⟨rfl, h2⟩
  clear hq
  replace RA := Lib.hid (ReadsP.below RA.out h2)
  replace RB := Lib.hid (ReadsP.below RB.out h2)
  replace RC := Lib.hid (ReadsP.below RC.out h2)
  replace RU := Lib.hid (ReadsP.below RU.out h2)
  replace Rn := Lib.hid (ReadsP.below Rn.out h2)
  replace Ro := Lib.hid (ReadsP.below Ro.out h2)
  replace Rc := Lib.hid (ReadsP.below Rc.out h2)
  replace Q0 := Lib.hid (IsRow.below Q0.out h2)
  replace Q1 := Lib.hid (IsRow.below Q1.out h2)
  replace Q2 := Lib.hid (IsRow.below Q2.out h2)
  replace BB := Lib.hid (BB.out.trans (h2.mono BB.out.size))
  clear h2
  clear Rn
  clear Ro
  clear Rc
  go_wp2_with fail
  obtain ⟨Lb, rx, mx, hq⟩ := or_x (w := W29) (v := .slice none 0 0) (k := 0) (ls := []) ⟨rfl, none, 0, rfl, Nat.le_refl _, Nat.zero_le _, fun _ => rfl, fun i hi => absurd hi (Nat.not_lt_zero i)⟩ trivial (by decide)
  have HLb := Lib.hid rx; have Mb := Lib.hid mx; clear rx mx
  refine hq.mono ?_
  rintro e W30 ⟨Vb, rfl, h1, h2⟩
  clear hq
  replace RA := Lib.hid (ReadsP.below RA.out h2)
  replace RB := Lib.hid (ReadsP.below RB.out h2)
  replace RC := Lib.hid (ReadsP.below RC.out h2)
  replace RU := Lib.hid (ReadsP.below RU.out h2)
  replace Q0 := Lib.hid (IsRow.below Q0.out h2)
  replace Q1 := Lib.hid (IsRow.below Q1.out h2)
  replace Q2 := Lib.hid (IsRow.below Q2.out h2)
  replace BB := Lib.hid (BB.out.trans (h2.mono BB.out.size))
  clear h2
  have Rb : Hid (ReadsP W30 Vb Lb.length Lb) := Lib.hid h1.reads
  clear h1
  obtain ⟨Adb, Cpb, eb, -, -, -⟩ := Rb.out.form
  subst eb
  have E7 : Hid (Lb = ([] : List (Int × Int))) := Lib.hid (canon HLb.out rt_none fun n => by
    simp only [AnyIn, or_false, inS_nilF, Mb.out n]
    all_goals
      by_cases hu : InU n
      · skip <;> simp [hu, ]
      · skip; simp [hu, ])
  go_wp2_with fail
  have hq := same_x (b := []) Rb.out (ReadsP.nil W30) E7.out
  refine hq.mono ?_
  rintro e W31 ⟨rfl, h2⟩
  clear hq
  replace RA := Lib.hid (ReadsP.below RA.out h2)
  replace RB := Lib.hid (ReadsP.below RB.out h2)
  replace RC := Lib.hid (ReadsP.below RC.out h2)
  replace RU := Lib.hid (ReadsP.below RU.out h2)
  replace Rb := Lib.hid (ReadsP.below Rb.out h2)
  replace Q0 := Lib.hid (IsRow.below Q0.out h2)
  replace Q1 := Lib.hid (IsRow.below Q1.out h2)
  replace Q2 := Lib.hid (IsRow.below Q2.out h2)
  replace BB := Lib.hid (BB.out.trans (h2.mono BB.out.size))
  clear h2
  clear Rb
  go_wp2_with fail
  obtain ⟨La, rx, mx, hq⟩ := or_x (readsL_mk (t := 24) [Value.slice AdA LA.length CpA] [LA] ⟨RA.out, trivial⟩) ⟨HLA.out, trivial⟩ (by simp)
  have HLa := Lib.hid rx; have Ma := Lib.hid mx; clear rx mx
  refine hq.mono ?_
  rintro e W32 ⟨Va, rfl, h1, h2⟩
  clear hq
  replace RA := Lib.hid (ReadsP.below (RA.out.alloc _) h2)
  replace RB := Lib.hid (ReadsP.below (RB.out.alloc _) h2)
  replace RC := Lib.hid (ReadsP.below (RC.out.alloc _) h2)
  replace RU := Lib.hid (ReadsP.below (RU.out.alloc _) h2)
  replace Q0 := Lib.hid (IsRow.below (Q0.out.alloc _) h2)
  replace Q1 := Lib.hid (IsRow.below (Q1.out.alloc _) h2)
  replace Q2 := Lib.hid (IsRow.below (Q2.out.alloc _) h2)
  replace BB := Lib.hid ((BB.out.alloc BB.out.size _).trans (h2.mono (BB.out.alloc BB.out.size _).size))
  clear h2
  have Ra : Hid (ReadsP W32 Va La.length La) := Lib.hid h1.reads
  clear h1
  obtain ⟨Ada, Cpa, ea, -, -, -⟩ := Ra.out.form
  subst ea
  have E8 : Hid (La = LA) := Lib.hid (canon HLa.out HLA.out fun n => by
    simp only [AnyIn, or_false, inS_nilF, Ma.out n]
    all_goals
      by_cases hu : InU n
      · skip <;> by_cases hA : inS LA n <;> simp [hu, hA]
      · skip; have hA : ¬ inS LA n := fun h => hu (HLA.out.num h); simp [hu, hA])
  go_wp2_with fail
  have hq := same_x Ra.out RA.out E8.out
  refine hq.mono ?_
  rintro e W33 ⟨rfl, h2⟩
  clear hq
  replace RA := Lib.hid (ReadsP.below RA.out h2)
  replace RB := Lib.hid (ReadsP.below RB.out h2)
  replace RC := Lib.hid (ReadsP.below RC.out h2)
  replace RU := Lib.hid (ReadsP.below RU.out h2)
  replace Ra := Lib.hid (ReadsP.below Ra.out h2)
  replace Q0 := Lib.hid (IsRow.below Q0.out h2)
  replace Q1 := Lib.hid (IsRow.below Q1.out h2)
  replace Q2 := Lib.hid (IsRow.below Q2.out h2)
  replace BB := Lib.hid (BB.out.trans (h2.mono BB.out.size))
  clear h2
  go_wp2_with fail
  go_ret
  exact ⟨rfl, BB.out⟩

end Go.Proofs.Ytkbcepgnjoeneaa
