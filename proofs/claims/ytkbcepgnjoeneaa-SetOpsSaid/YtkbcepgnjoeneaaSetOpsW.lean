/- The law SetOps, walked. -/
import Derived.Test.YtkbcepgnjoeneaaSetX
namespace Go.Proofs.Ytkbcepgnjoeneaa
open Go Go.RowKit
set_option linter.unusedVariables false
set_option linter.unusedSimpArgs false

theorem wth_U (x : Int) : InU (wth x 1114112) := by
  have := wth_bd x 1114112 (by omega)
  unfold InU; omega
theorem has_tt {w : World} {v : Value} {n : Nat} {a : List (Int × Int)} {x : Int} (h : ReadsP w v n a) (ha : Rt a) (hx : inS a x) : Calls Try.prog 19 #[v, .int .i64 x] w (Says w true) := by
  have := has_any (x := x) h ha
  rw [show hasB a x = true by unfold hasB; simpa using hx] at this
  exact this
theorem has_ff {w : World} {v : Value} {n : Nat} {a : List (Int × Int)} {x : Int} (h : ReadsP w v n a) (ha : Rt a) (hx : ¬ inS a x) : Calls Try.prog 19 #[v, .int .i64 x] w (Says w false) := by
  have := has_any (x := x) h ha
  rw [show hasB a x = false by unfold hasB; simpa using hx] at this
  exact this
set_option maxRecDepth 100000 in
set_option maxHeartbeats 8000000 in
theorem setOps_walk (a0 : Option Addr) (len0 cap0 : Nat) (z0 : List Int) (a1 : Option Addr) (len1 cap1 : Nat) (z1 : List Int) (a2 : Option Addr) (len2 cap2 : Nat) (z2 : List Int) (a3 : Int) (w : World) (w0 : IsRow .i64 w a0 len0 cap0 z0) (w1 : IsRow .i64 w a1 len1 cap1 z1) (w2 : IsRow .i64 w a2 len2 cap2 z2) (w3 : (Lit.int .i64 a3).wf = true) :
    Calls Try.prog 4 #[.slice a0 len0 cap0, .slice a1 len1 cap1, .slice a2 len2 cap2, .int .i64 a3] w fun e w' => e = .returned (.bool true) ∧ Below w.heap.size w w' := by
  have Q0 := Lib.hid w0; clear w0
  obtain ⟨LA, HLA, MA⟩ : ∃ A, Rt A ∧ ∀ w', IsRow .i64 w' a0 len0 cap0 z0 → Calls Try.prog 20 #[.slice a0 len0 cap0] w' (Tells w' A) := ⟨_, mkS_rt z0 len0, fun w' h => make_any h⟩
  replace HLA := Lib.hid HLA; replace MA := Lib.hid MA
  have Q1 := Lib.hid w1; clear w1
  obtain ⟨LB, HLB, MB⟩ : ∃ A, Rt A ∧ ∀ w', IsRow .i64 w' a1 len1 cap1 z1 → Calls Try.prog 20 #[.slice a1 len1 cap1] w' (Tells w' A) := ⟨_, mkS_rt z1 len1, fun w' h => make_any h⟩
  replace HLB := Lib.hid HLB; replace MB := Lib.hid MB
  have Q2 := Lib.hid w2; clear w2
  obtain ⟨LC, HLC, MC⟩ : ∃ A, Rt A ∧ ∀ w', IsRow .i64 w' a2 len2 cap2 z2 → Calls Try.prog 20 #[.slice a2 len2 cap2] w' (Tells w' A) := ⟨_, mkS_rt z2 len2, fun w' h => make_any h⟩
  replace HLC := Lib.hid HLC; replace MC := Lib.hid MC
  have F3 := Lib.hid w3; clear w3
  have BB : Hid (Below w.heap.size w w) := Lib.hid (Below.refl _ _)
  go_enter Try.func4, Try.ntmps4
  go_wp2_with fail
  have hq := known_any w
  refine hq.mono ?_
  rintro e W1 ⟨rfl, h2⟩
  clear hq
  replace Q0 := Lib.hid (IsRow.below Q0.out h2)
  replace Q1 := Lib.hid (IsRow.below Q1.out h2)
  replace Q2 := Lib.hid (IsRow.below Q2.out h2)
  replace BB := Lib.hid (BB.out.trans (h2.mono BB.out.size))
  clear h2
  go_wp2_with fail
  have hq := MA.out _ Q0.out
  refine hq.mono ?_
  rintro e W2 ⟨VA, rfl, h1, h2⟩
  clear hq
  replace Q0 := Lib.hid (IsRow.below Q0.out h2)
  replace Q1 := Lib.hid (IsRow.below Q1.out h2)
  replace Q2 := Lib.hid (IsRow.below Q2.out h2)
  replace BB := Lib.hid (BB.out.trans (h2.mono BB.out.size))
  clear h2
  have RA : Hid (ReadsP W2 VA LA.length LA) := Lib.hid h1.reads
  clear h1
  obtain ⟨AdA, CpA, eA, -, -, -⟩ := RA.out.form
  subst eA
  go_wp2_with fail
  have hq := MB.out _ Q1.out
  refine hq.mono ?_
  rintro e W3 ⟨VB, rfl, h1, h2⟩
  clear hq
  replace RA := Lib.hid (ReadsP.below RA.out h2)
  replace Q0 := Lib.hid (IsRow.below Q0.out h2)
  replace Q1 := Lib.hid (IsRow.below Q1.out h2)
  replace Q2 := Lib.hid (IsRow.below Q2.out h2)
  replace BB := Lib.hid (BB.out.trans (h2.mono BB.out.size))
  clear h2
  have RB : Hid (ReadsP W3 VB LB.length LB) := Lib.hid h1.reads
  clear h1
  obtain ⟨AdB, CpB, eB, -, -, -⟩ := RB.out.form
  subst eB
  go_wp2_with fail
  have hq := MC.out _ Q2.out
  refine hq.mono ?_
  rintro e W4 ⟨VC, rfl, h1, h2⟩
  clear hq
  replace RA := Lib.hid (ReadsP.below RA.out h2)
  replace RB := Lib.hid (ReadsP.below RB.out h2)
  replace Q0 := Lib.hid (IsRow.below Q0.out h2)
  replace Q1 := Lib.hid (IsRow.below Q1.out h2)
  replace Q2 := Lib.hid (IsRow.below Q2.out h2)
  replace BB := Lib.hid (BB.out.trans (h2.mono BB.out.size))
  clear h2
  have RC : Hid (ReadsP W4 VC LC.length LC) := Lib.hid h1.reads
  clear h1
  obtain ⟨AdC, CpC, eC, -, -, -⟩ := RC.out.form
  subst eC
  clear Q0 Q1 Q2
  go_wp2_with fail
  obtain ⟨LO, rx, mx, hq⟩ := or_x (readsL_mk (t := 24) [Value.slice AdA LA.length CpA, Value.slice AdB LB.length CpB, Value.slice AdC LC.length CpC] [LA, LB, LC] ⟨RA.out, RB.out, RC.out, trivial⟩) ⟨HLA.out, HLB.out, HLC.out, trivial⟩ (by simp)
  have HLO := Lib.hid rx; have MO := Lib.hid mx; clear rx mx
  refine hq.mono ?_
  rintro e W5 ⟨VO, rfl, h1, h2⟩
  clear hq
  replace RA := Lib.hid (ReadsP.below (RA.out.alloc _) h2)
  replace RB := Lib.hid (ReadsP.below (RB.out.alloc _) h2)
  replace RC := Lib.hid (ReadsP.below (RC.out.alloc _) h2)
  replace BB := Lib.hid ((BB.out.alloc BB.out.size _).trans (h2.mono (BB.out.alloc BB.out.size _).size))
  clear h2
  have RO : Hid (ReadsP W5 VO LO.length LO) := Lib.hid h1.reads
  clear h1
  obtain ⟨AdO, CpO, eO, -, -, -⟩ := RO.out.form
  subst eO
  go_wp2_with fail
  obtain ⟨LD, rx, mx, hq⟩ := and_x RA.out RB.out HLA.out HLB.out
  have HLD := Lib.hid rx; have MD := Lib.hid mx; clear rx mx
  refine hq.mono ?_
  rintro e W6 ⟨VD, rfl, h1, h2⟩
  clear hq
  replace RA := Lib.hid (ReadsP.below RA.out h2)
  replace RB := Lib.hid (ReadsP.below RB.out h2)
  replace RC := Lib.hid (ReadsP.below RC.out h2)
  replace RO := Lib.hid (ReadsP.below RO.out h2)
  replace BB := Lib.hid (BB.out.trans (h2.mono BB.out.size))
  clear h2
  have RD : Hid (ReadsP W6 VD LD.length LD) := Lib.hid h1.reads
  clear h1
  obtain ⟨AdD, CpD, eD, -, -, -⟩ := RD.out.form
  subst eD
  go_wp2_with fail
  obtain ⟨LT, rx, mx, hq⟩ := not_x RA.out HLA.out
  have HLT := Lib.hid rx; have MT := Lib.hid mx; clear rx mx
  refine hq.mono ?_
  rintro e W7 ⟨VT, rfl, h1, h2⟩
  clear hq
  replace RA := Lib.hid (ReadsP.below RA.out h2)
  replace RB := Lib.hid (ReadsP.below RB.out h2)
  replace RC := Lib.hid (ReadsP.below RC.out h2)
  replace RO := Lib.hid (ReadsP.below RO.out h2)
  replace RD := Lib.hid (ReadsP.below RD.out h2)
  replace BB := Lib.hid (BB.out.trans (h2.mono BB.out.size))
  clear h2
  have RT : Hid (ReadsP W7 VT LT.length LT) := Lib.hid h1.reads
  clear h1
  obtain ⟨AdT, CpT, eT, -, -, -⟩ := RT.out.form
  subst eT
  go_wp2_with fail
  obtain ⟨LS, rx, mx, hq⟩ := less_x RA.out RB.out HLA.out HLB.out
  have HLS := Lib.hid rx; have MS := Lib.hid mx; clear rx mx
  refine hq.mono ?_
  rintro e W8 ⟨VS, rfl, h1, h2⟩
  clear hq
  replace RA := Lib.hid (ReadsP.below RA.out h2)
  replace RB := Lib.hid (ReadsP.below RB.out h2)
  replace RC := Lib.hid (ReadsP.below RC.out h2)
  replace RO := Lib.hid (ReadsP.below RO.out h2)
  replace RD := Lib.hid (ReadsP.below RD.out h2)
  replace RT := Lib.hid (ReadsP.below RT.out h2)
  replace BB := Lib.hid (BB.out.trans (h2.mono BB.out.size))
  clear h2
  have RS : Hid (ReadsP W8 VS LS.length LS) := Lib.hid h1.reads
  clear h1
  obtain ⟨AdS, CpS, eS, -, -, -⟩ := RS.out.form
  subst eS
  go_wp2_with fail
  obtain ⟨Lp, rx, mx, hq⟩ := ror_x RA.out RB.out HLA.out HLB.out
  have HLp := Lib.hid rx; have Mp := Lib.hid mx; clear rx mx
  refine hq.mono ?_
  rintro e W9 ⟨Vp, rfl, h1, h2⟩
  clear hq
  replace RA := Lib.hid (ReadsP.below RA.out h2)
  replace RB := Lib.hid (ReadsP.below RB.out h2)
  replace RC := Lib.hid (ReadsP.below RC.out h2)
  replace RO := Lib.hid (ReadsP.below RO.out h2)
  replace RD := Lib.hid (ReadsP.below RD.out h2)
  replace RT := Lib.hid (ReadsP.below RT.out h2)
  replace RS := Lib.hid (ReadsP.below RS.out h2)
  replace BB := Lib.hid (BB.out.trans (h2.mono BB.out.size))
  clear h2
  have Rp : Hid (ReadsP W9 Vp Lp.length Lp) := Lib.hid h1.reads
  clear h1
  obtain ⟨Adp, Cpp, ep, -, -, -⟩ := Rp.out.form
  subst ep
  go_wp2_with fail
  obtain ⟨Lq, rx, mx, hq⟩ := ror_x Rp.out RC.out HLp.out HLC.out
  have HLq := Lib.hid rx; have Mq := Lib.hid mx; clear rx mx
  refine hq.mono ?_
  rintro e W10 ⟨Vq, rfl, h1, h2⟩
  clear hq
  replace RA := Lib.hid (ReadsP.below RA.out h2)
  replace RB := Lib.hid (ReadsP.below RB.out h2)
  replace RC := Lib.hid (ReadsP.below RC.out h2)
  replace RO := Lib.hid (ReadsP.below RO.out h2)
  replace RD := Lib.hid (ReadsP.below RD.out h2)
  replace RT := Lib.hid (ReadsP.below RT.out h2)
  replace RS := Lib.hid (ReadsP.below RS.out h2)
  replace Rp := Lib.hid (ReadsP.below Rp.out h2)
  replace BB := Lib.hid (BB.out.trans (h2.mono BB.out.size))
  clear h2
  have Rq : Hid (ReadsP W10 Vq Lq.length Lq) := Lib.hid h1.reads
  clear h1
  obtain ⟨Adq, Cpq, eq, -, -, -⟩ := Rq.out.form
  subst eq
  have E1 : Hid (LO = Lq) := Lib.hid (canon HLO.out HLq.out fun n => by
    simp only [AnyIn, or_false, inS_nilF, MO.out n, Mq.out n, Mp.out n]
    all_goals
      by_cases hu : InU n
      · skip <;> by_cases hA : inS LA n <;> by_cases hB : inS LB n <;> by_cases hC : inS LC n <;> simp [hu, hA, hB, hC]
      · skip; have hA : ¬ inS LA n := fun h => hu (HLA.out.num h); have hB : ¬ inS LB n := fun h => hu (HLB.out.num h); have hC : ¬ inS LC n := fun h => hu (HLC.out.num h); simp [hu, hA, hB, hC])
  go_wp2_with fail
  have hq := same_x RO.out Rq.out E1.out
  refine hq.mono ?_
  rintro e W11 ⟨rfl, h2⟩
  clear hq
  replace RA := Lib.hid (ReadsP.below RA.out h2)
  replace RB := Lib.hid (ReadsP.below RB.out h2)
  replace RC := Lib.hid (ReadsP.below RC.out h2)
  replace RO := Lib.hid (ReadsP.below RO.out h2)
  replace RD := Lib.hid (ReadsP.below RD.out h2)
  replace RT := Lib.hid (ReadsP.below RT.out h2)
  replace RS := Lib.hid (ReadsP.below RS.out h2)
  replace Rp := Lib.hid (ReadsP.below Rp.out h2)
  replace Rq := Lib.hid (ReadsP.below Rq.out h2)
  replace BB := Lib.hid (BB.out.trans (h2.mono BB.out.size))
  clear h2
  clear Rp
  clear Rq
  go_wp2_with fail
  obtain ⟨Lr, rx, mx, hq⟩ := rand_x RA.out RB.out HLA.out HLB.out
  have HLr := Lib.hid rx; have Mr := Lib.hid mx; clear rx mx
  refine hq.mono ?_
  rintro e W12 ⟨Vr, rfl, h1, h2⟩
  clear hq
  replace RA := Lib.hid (ReadsP.below RA.out h2)
  replace RB := Lib.hid (ReadsP.below RB.out h2)
  replace RC := Lib.hid (ReadsP.below RC.out h2)
  replace RO := Lib.hid (ReadsP.below RO.out h2)
  replace RD := Lib.hid (ReadsP.below RD.out h2)
  replace RT := Lib.hid (ReadsP.below RT.out h2)
  replace RS := Lib.hid (ReadsP.below RS.out h2)
  replace BB := Lib.hid (BB.out.trans (h2.mono BB.out.size))
  clear h2
  have Rr : Hid (ReadsP W12 Vr Lr.length Lr) := Lib.hid h1.reads
  clear h1
  obtain ⟨Adr, Cpr, er, -, -, -⟩ := Rr.out.form
  subst er
  have E2 : Hid (LD = Lr) := Lib.hid (canon HLD.out HLr.out fun n => by
    simp only [AnyIn, or_false, inS_nilF, MD.out n, Mr.out n]
    all_goals
      by_cases hu : InU n
      · skip <;> by_cases hA : inS LA n <;> by_cases hB : inS LB n <;> simp [hu, hA, hB]
      · skip; have hA : ¬ inS LA n := fun h => hu (HLA.out.num h); have hB : ¬ inS LB n := fun h => hu (HLB.out.num h); simp [hu, hA, hB])
  go_wp2_with fail
  have hq := same_x RD.out Rr.out E2.out
  refine hq.mono ?_
  rintro e W13 ⟨rfl, h2⟩
  clear hq
  replace RA := Lib.hid (ReadsP.below RA.out h2)
  replace RB := Lib.hid (ReadsP.below RB.out h2)
  replace RC := Lib.hid (ReadsP.below RC.out h2)
  replace RO := Lib.hid (ReadsP.below RO.out h2)
  replace RD := Lib.hid (ReadsP.below RD.out h2)
  replace RT := Lib.hid (ReadsP.below RT.out h2)
  replace RS := Lib.hid (ReadsP.below RS.out h2)
  replace Rr := Lib.hid (ReadsP.below Rr.out h2)
  replace BB := Lib.hid (BB.out.trans (h2.mono BB.out.size))
  clear h2
  clear Rr
  go_wp2_with fail
  obtain ⟨Ls, rx, mx, hq⟩ := rnot_x RA.out HLA.out
  have HLs := Lib.hid rx; have Ms := Lib.hid mx; clear rx mx
  refine hq.mono ?_
  rintro e W14 ⟨Vs, rfl, h1, h2⟩
  clear hq
  replace RA := Lib.hid (ReadsP.below RA.out h2)
  replace RB := Lib.hid (ReadsP.below RB.out h2)
  replace RC := Lib.hid (ReadsP.below RC.out h2)
  replace RO := Lib.hid (ReadsP.below RO.out h2)
  replace RD := Lib.hid (ReadsP.below RD.out h2)
  replace RT := Lib.hid (ReadsP.below RT.out h2)
  replace RS := Lib.hid (ReadsP.below RS.out h2)
  replace BB := Lib.hid (BB.out.trans (h2.mono BB.out.size))
  clear h2
  have Rs : Hid (ReadsP W14 Vs Ls.length Ls) := Lib.hid h1.reads
  clear h1
  obtain ⟨Ads, Cps, es, -, -, -⟩ := Rs.out.form
  subst es
  have E3 : Hid (LT = Ls) := Lib.hid (canon HLT.out HLs.out fun n => by
    simp only [AnyIn, or_false, inS_nilF, MT.out n, Ms.out n]
    all_goals
      by_cases hu : InU n
      · skip <;> by_cases hA : inS LA n <;> simp [hu, hA]
      · skip; have hA : ¬ inS LA n := fun h => hu (HLA.out.num h); simp [hu, hA])
  go_wp2_with fail
  have hq := same_x RT.out Rs.out E3.out
  refine hq.mono ?_
  rintro e W15 ⟨rfl, h2⟩
  clear hq
  replace RA := Lib.hid (ReadsP.below RA.out h2)
  replace RB := Lib.hid (ReadsP.below RB.out h2)
  replace RC := Lib.hid (ReadsP.below RC.out h2)
  replace RO := Lib.hid (ReadsP.below RO.out h2)
  replace RD := Lib.hid (ReadsP.below RD.out h2)
  replace RT := Lib.hid (ReadsP.below RT.out h2)
  replace RS := Lib.hid (ReadsP.below RS.out h2)
  replace Rs := Lib.hid (ReadsP.below Rs.out h2)
  replace BB := Lib.hid (BB.out.trans (h2.mono BB.out.size))
  clear h2
  clear Rs
  go_wp2_with fail
  obtain ⟨Lt, rx, mx, hq⟩ := rless_x RA.out RB.out HLA.out HLB.out
  have HLt := Lib.hid rx; have Mt := Lib.hid mx; clear rx mx
  refine hq.mono ?_
  rintro e W16 ⟨Vt, rfl, h1, h2⟩
  clear hq
  replace RA := Lib.hid (ReadsP.below RA.out h2)
  replace RB := Lib.hid (ReadsP.below RB.out h2)
  replace RC := Lib.hid (ReadsP.below RC.out h2)
  replace RO := Lib.hid (ReadsP.below RO.out h2)
  replace RD := Lib.hid (ReadsP.below RD.out h2)
  replace RT := Lib.hid (ReadsP.below RT.out h2)
  replace RS := Lib.hid (ReadsP.below RS.out h2)
  replace BB := Lib.hid (BB.out.trans (h2.mono BB.out.size))
  clear h2
  have Rt : Hid (ReadsP W16 Vt Lt.length Lt) := Lib.hid h1.reads
  clear h1
  obtain ⟨Adt, Cpt, et, -, -, -⟩ := Rt.out.form
  subst et
  have E4 : Hid (LS = Lt) := Lib.hid (canon HLS.out HLt.out fun n => by
    simp only [AnyIn, or_false, inS_nilF, MS.out n, Mt.out n]
    all_goals
      by_cases hu : InU n
      · skip <;> by_cases hA : inS LA n <;> by_cases hB : inS LB n <;> simp [hu, hA, hB]
      · skip; have hA : ¬ inS LA n := fun h => hu (HLA.out.num h); have hB : ¬ inS LB n := fun h => hu (HLB.out.num h); simp [hu, hA, hB])
  go_wp2_with fail
  have hq := same_x RS.out Rt.out E4.out
  refine hq.mono ?_
  rintro e W17 ⟨rfl, h2⟩
  clear hq
  replace RA := Lib.hid (ReadsP.below RA.out h2)
  replace RB := Lib.hid (ReadsP.below RB.out h2)
  replace RC := Lib.hid (ReadsP.below RC.out h2)
  replace RO := Lib.hid (ReadsP.below RO.out h2)
  replace RD := Lib.hid (ReadsP.below RD.out h2)
  replace RT := Lib.hid (ReadsP.below RT.out h2)
  replace RS := Lib.hid (ReadsP.below RS.out h2)
  replace Rt := Lib.hid (ReadsP.below Rt.out h2)
  replace BB := Lib.hid (BB.out.trans (h2.mono BB.out.size))
  clear h2
  clear Rt
  generalize hnA : LA.length = nA at *
  clear hnA
  generalize hnB : LB.length = nB at *
  clear hnB
  generalize hnC : LC.length = nC at *
  clear hnC
  generalize hnO : LO.length = nO at *
  clear hnO
  generalize hnD : LD.length = nD at *
  clear hnD
  generalize hnT : LT.length = nT at *
  clear hnT
  generalize hnS : LS.length = nS at *
  clear hnS
  go_wp2_with fail
  go_loopw [16] (fun i wr => ∃ j : Nat, j ≤ 75 ∧ i = .int .i64 j ∧ Hid (ReadsP wr (.slice AdA nA CpA) nA LA) ∧ Hid (ReadsP wr (.slice AdB nB CpB) nB LB) ∧ Hid (ReadsP wr (.slice AdC nC CpC) nC LC) ∧ Hid (ReadsP wr (.slice AdO nO CpO) nO LO) ∧ Hid (ReadsP wr (.slice AdD nD CpD) nD LD) ∧ Hid (ReadsP wr (.slice AdT nT CpT) nT LT) ∧ Hid (ReadsP wr (.slice AdS nS CpS) nS LS) ∧ Hid (Below w.heap.size w wr)) (fun i _ => 75 - (intOf i).toNat)
  case atStart => exact ⟨0, by omega, rfl, RA, RB, RC, RO, RD, RT, RS, BB⟩
  case round =>
    clear RA RB RC RO RD RT RS BB
    obtain ⟨j, hj, rfl, RA, RB, RC, RO, RD, RT, RS, BB⟩ := hrel
    have i0 : (0 : Int) ≤ (j : Int) := Int.natCast_nonneg _
    by_cases hj75 : j < 75
    · have i1 : (j : Int) < 75 := by omega
      by_cases h72 : 72 < j
      · have i2 : (72 : Int) < (j : Int) := by omega
        go_wp2_with fail
        refine (within_any _ _ (by omega) (by omega) _).mono ?_
        rintro e w' ⟨rfl, rfl⟩
        generalize hkk : wth _ 1114112 = kk at *
        have HU : Hid (InU kk) := Lib.hid (by rw [← hkk]; exact wth_U _)
        clear hkk
        by_cases hA : inS LA (kk)
        · replace hA := Lib.hid hA
          by_cases hB : inS LB (kk)
          · replace hB := Lib.hid hB
            by_cases hC : inS LC (kk)
            · replace hC := Lib.hid hC
              go_wp2_with fail
              have hq := has_tt (x := kk) RA.out HLA.out (hA.out)
              refine hq.mono ?_
              rintro e W18 ⟨rfl, h2⟩
              clear hq
              replace RA := Lib.hid (ReadsP.below RA.out h2)
              replace RB := Lib.hid (ReadsP.below RB.out h2)
              replace RC := Lib.hid (ReadsP.below RC.out h2)
              replace RO := Lib.hid (ReadsP.below RO.out h2)
              replace RD := Lib.hid (ReadsP.below RD.out h2)
              replace RT := Lib.hid (ReadsP.below RT.out h2)
              replace RS := Lib.hid (ReadsP.below RS.out h2)
              replace BB := Lib.hid (BB.out.trans (h2.mono BB.out.size))
              clear h2
              go_wp2_with fail
              have hq := has_tt (x := kk) RB.out HLB.out (hB.out)
              refine hq.mono ?_
              rintro e W19 ⟨rfl, h2⟩
              clear hq
              replace RA := Lib.hid (ReadsP.below RA.out h2)
              replace RB := Lib.hid (ReadsP.below RB.out h2)
              replace RC := Lib.hid (ReadsP.below RC.out h2)
              replace RO := Lib.hid (ReadsP.below RO.out h2)
              replace RD := Lib.hid (ReadsP.below RD.out h2)
              replace RT := Lib.hid (ReadsP.below RT.out h2)
              replace RS := Lib.hid (ReadsP.below RS.out h2)
              replace BB := Lib.hid (BB.out.trans (h2.mono BB.out.size))
              clear h2
              go_wp2_with fail
              have hq := has_tt (x := kk) RC.out HLC.out (hC.out)
              refine hq.mono ?_
              rintro e W20 ⟨rfl, h2⟩
              clear hq
              replace RA := Lib.hid (ReadsP.below RA.out h2)
              replace RB := Lib.hid (ReadsP.below RB.out h2)
              replace RC := Lib.hid (ReadsP.below RC.out h2)
              replace RO := Lib.hid (ReadsP.below RO.out h2)
              replace RD := Lib.hid (ReadsP.below RD.out h2)
              replace RT := Lib.hid (ReadsP.below RT.out h2)
              replace RS := Lib.hid (ReadsP.below RS.out h2)
              replace BB := Lib.hid (BB.out.trans (h2.mono BB.out.size))
              clear h2
              go_wp2_with fail
              have hq := has_tt (x := kk) RO.out HLO.out (show inS LO (kk) from (MO.out _).2 (by simp [AnyIn, HU.out, hA.out, hB.out, hC.out]))
              refine hq.mono ?_
              rintro e W21 ⟨rfl, h2⟩
              clear hq
              replace RA := Lib.hid (ReadsP.below RA.out h2)
              replace RB := Lib.hid (ReadsP.below RB.out h2)
              replace RC := Lib.hid (ReadsP.below RC.out h2)
              replace RO := Lib.hid (ReadsP.below RO.out h2)
              replace RD := Lib.hid (ReadsP.below RD.out h2)
              replace RT := Lib.hid (ReadsP.below RT.out h2)
              replace RS := Lib.hid (ReadsP.below RS.out h2)
              replace BB := Lib.hid (BB.out.trans (h2.mono BB.out.size))
              clear h2
              go_wp2_with fail
              have hq := has_tt (x := kk) RD.out HLD.out (show inS LD (kk) from (MD.out _).2 (by simp [AnyIn, HU.out, hA.out, hB.out, hC.out]))
              refine hq.mono ?_
              rintro e W22 ⟨rfl, h2⟩
              clear hq
              replace RA := Lib.hid (ReadsP.below RA.out h2)
              replace RB := Lib.hid (ReadsP.below RB.out h2)
              replace RC := Lib.hid (ReadsP.below RC.out h2)
              replace RO := Lib.hid (ReadsP.below RO.out h2)
              replace RD := Lib.hid (ReadsP.below RD.out h2)
              replace RT := Lib.hid (ReadsP.below RT.out h2)
              replace RS := Lib.hid (ReadsP.below RS.out h2)
              replace BB := Lib.hid (BB.out.trans (h2.mono BB.out.size))
              clear h2
              go_wp2_with fail
              have hq := has_ff (x := kk) RT.out HLT.out (show ¬ inS LT (kk) from fun h => by have := (MT.out _).1 h; simp [AnyIn, HU.out, hA.out, hB.out, hC.out] at this)
              refine hq.mono ?_
              rintro e W23 ⟨rfl, h2⟩
              clear hq
              replace RA := Lib.hid (ReadsP.below RA.out h2)
              replace RB := Lib.hid (ReadsP.below RB.out h2)
              replace RC := Lib.hid (ReadsP.below RC.out h2)
              replace RO := Lib.hid (ReadsP.below RO.out h2)
              replace RD := Lib.hid (ReadsP.below RD.out h2)
              replace RT := Lib.hid (ReadsP.below RT.out h2)
              replace RS := Lib.hid (ReadsP.below RS.out h2)
              replace BB := Lib.hid (BB.out.trans (h2.mono BB.out.size))
              clear h2
              go_wp2_with fail
              have hq := has_ff (x := kk) RS.out HLS.out (show ¬ inS LS (kk) from fun h => by have := (MS.out _).1 h; simp [AnyIn, HU.out, hA.out, hB.out, hC.out] at this)
              refine hq.mono ?_
              rintro e W24 ⟨rfl, h2⟩
              clear hq
              replace RA := Lib.hid (ReadsP.below RA.out h2)
              replace RB := Lib.hid (ReadsP.below RB.out h2)
              replace RC := Lib.hid (ReadsP.below RC.out h2)
              replace RO := Lib.hid (ReadsP.below RO.out h2)
              replace RD := Lib.hid (ReadsP.below RD.out h2)
              replace RT := Lib.hid (ReadsP.below RT.out h2)
              replace RS := Lib.hid (ReadsP.below RS.out h2)
              replace BB := Lib.hid (BB.out.trans (h2.mono BB.out.size))
              clear h2
              go_wp2_with fail
              exact ⟨⟨j + 1, by omega, by go_num, RA, RB, RC, RO, RD, RT, RS, BB⟩, by simp [intOf]; omega⟩
            · replace hC := Lib.hid hC
              go_wp2_with fail
              have hq := has_tt (x := kk) RA.out HLA.out (hA.out)
              refine hq.mono ?_
              rintro e W25 ⟨rfl, h2⟩
              clear hq
              replace RA := Lib.hid (ReadsP.below RA.out h2)
              replace RB := Lib.hid (ReadsP.below RB.out h2)
              replace RC := Lib.hid (ReadsP.below RC.out h2)
              replace RO := Lib.hid (ReadsP.below RO.out h2)
              replace RD := Lib.hid (ReadsP.below RD.out h2)
              replace RT := Lib.hid (ReadsP.below RT.out h2)
              replace RS := Lib.hid (ReadsP.below RS.out h2)
              replace BB := Lib.hid (BB.out.trans (h2.mono BB.out.size))
              clear h2
              go_wp2_with fail
              have hq := has_tt (x := kk) RB.out HLB.out (hB.out)
              refine hq.mono ?_
              rintro e W26 ⟨rfl, h2⟩
              clear hq
              replace RA := Lib.hid (ReadsP.below RA.out h2)
              replace RB := Lib.hid (ReadsP.below RB.out h2)
              replace RC := Lib.hid (ReadsP.below RC.out h2)
              replace RO := Lib.hid (ReadsP.below RO.out h2)
              replace RD := Lib.hid (ReadsP.below RD.out h2)
              replace RT := Lib.hid (ReadsP.below RT.out h2)
              replace RS := Lib.hid (ReadsP.below RS.out h2)
              replace BB := Lib.hid (BB.out.trans (h2.mono BB.out.size))
              clear h2
              go_wp2_with fail
              have hq := has_ff (x := kk) RC.out HLC.out (hC.out)
              refine hq.mono ?_
              rintro e W27 ⟨rfl, h2⟩
              clear hq
              replace RA := Lib.hid (ReadsP.below RA.out h2)
              replace RB := Lib.hid (ReadsP.below RB.out h2)
              replace RC := Lib.hid (ReadsP.below RC.out h2)
              replace RO := Lib.hid (ReadsP.below RO.out h2)
              replace RD := Lib.hid (ReadsP.below RD.out h2)
              replace RT := Lib.hid (ReadsP.below RT.out h2)
              replace RS := Lib.hid (ReadsP.below RS.out h2)
              replace BB := Lib.hid (BB.out.trans (h2.mono BB.out.size))
              clear h2
              go_wp2_with fail
              have hq := has_tt (x := kk) RO.out HLO.out (show inS LO (kk) from (MO.out _).2 (by simp [AnyIn, HU.out, hA.out, hB.out, hC.out]))
              refine hq.mono ?_
              rintro e W28 ⟨rfl, h2⟩
              clear hq
              replace RA := Lib.hid (ReadsP.below RA.out h2)
              replace RB := Lib.hid (ReadsP.below RB.out h2)
              replace RC := Lib.hid (ReadsP.below RC.out h2)
              replace RO := Lib.hid (ReadsP.below RO.out h2)
              replace RD := Lib.hid (ReadsP.below RD.out h2)
              replace RT := Lib.hid (ReadsP.below RT.out h2)
              replace RS := Lib.hid (ReadsP.below RS.out h2)
              replace BB := Lib.hid (BB.out.trans (h2.mono BB.out.size))
              clear h2
              go_wp2_with fail
              have hq := has_tt (x := kk) RD.out HLD.out (show inS LD (kk) from (MD.out _).2 (by simp [AnyIn, HU.out, hA.out, hB.out, hC.out]))
              refine hq.mono ?_
              rintro e W29 ⟨rfl, h2⟩
              clear hq
              replace RA := Lib.hid (ReadsP.below RA.out h2)
              replace RB := Lib.hid (ReadsP.below RB.out h2)
              replace RC := Lib.hid (ReadsP.below RC.out h2)
              replace RO := Lib.hid (ReadsP.below RO.out h2)
              replace RD := Lib.hid (ReadsP.below RD.out h2)
              replace RT := Lib.hid (ReadsP.below RT.out h2)
              replace RS := Lib.hid (ReadsP.below RS.out h2)
              replace BB := Lib.hid (BB.out.trans (h2.mono BB.out.size))
              clear h2
              go_wp2_with fail
              have hq := has_ff (x := kk) RT.out HLT.out (show ¬ inS LT (kk) from fun h => by have := (MT.out _).1 h; simp [AnyIn, HU.out, hA.out, hB.out, hC.out] at this)
              refine hq.mono ?_
              rintro e W30 ⟨rfl, h2⟩
              clear hq
              replace RA := Lib.hid (ReadsP.below RA.out h2)
              replace RB := Lib.hid (ReadsP.below RB.out h2)
              replace RC := Lib.hid (ReadsP.below RC.out h2)
              replace RO := Lib.hid (ReadsP.below RO.out h2)
              replace RD := Lib.hid (ReadsP.below RD.out h2)
              replace RT := Lib.hid (ReadsP.below RT.out h2)
              replace RS := Lib.hid (ReadsP.below RS.out h2)
              replace BB := Lib.hid (BB.out.trans (h2.mono BB.out.size))
              clear h2
              go_wp2_with fail
              have hq := has_ff (x := kk) RS.out HLS.out (show ¬ inS LS (kk) from fun h => by have := (MS.out _).1 h; simp [AnyIn, HU.out, hA.out, hB.out, hC.out] at this)
              refine hq.mono ?_
              rintro e W31 ⟨rfl, h2⟩
              clear hq
              replace RA := Lib.hid (ReadsP.below RA.out h2)
              replace RB := Lib.hid (ReadsP.below RB.out h2)
              replace RC := Lib.hid (ReadsP.below RC.out h2)
              replace RO := Lib.hid (ReadsP.below RO.out h2)
              replace RD := Lib.hid (ReadsP.below RD.out h2)
              replace RT := Lib.hid (ReadsP.below RT.out h2)
              replace RS := Lib.hid (ReadsP.below RS.out h2)
              replace BB := Lib.hid (BB.out.trans (h2.mono BB.out.size))
              clear h2
              go_wp2_with fail
              exact ⟨⟨j + 1, by omega, by go_num, RA, RB, RC, RO, RD, RT, RS, BB⟩, by simp [intOf]; omega⟩
          · replace hB := Lib.hid hB
            by_cases hC : inS LC (kk)
            · replace hC := Lib.hid hC
              go_wp2_with fail
              have hq := has_tt (x := kk) RA.out HLA.out (hA.out)
              refine hq.mono ?_
              rintro e W32 ⟨rfl, h2⟩
              clear hq
              replace RA := Lib.hid (ReadsP.below RA.out h2)
              replace RB := Lib.hid (ReadsP.below RB.out h2)
              replace RC := Lib.hid (ReadsP.below RC.out h2)
              replace RO := Lib.hid (ReadsP.below RO.out h2)
              replace RD := Lib.hid (ReadsP.below RD.out h2)
              replace RT := Lib.hid (ReadsP.below RT.out h2)
              replace RS := Lib.hid (ReadsP.below RS.out h2)
              replace BB := Lib.hid (BB.out.trans (h2.mono BB.out.size))
              clear h2
              go_wp2_with fail
              have hq := has_ff (x := kk) RB.out HLB.out (hB.out)
              refine hq.mono ?_
              rintro e W33 ⟨rfl, h2⟩
              clear hq
              replace RA := Lib.hid (ReadsP.below RA.out h2)
              replace RB := Lib.hid (ReadsP.below RB.out h2)
              replace RC := Lib.hid (ReadsP.below RC.out h2)
              replace RO := Lib.hid (ReadsP.below RO.out h2)
              replace RD := Lib.hid (ReadsP.below RD.out h2)
              replace RT := Lib.hid (ReadsP.below RT.out h2)
              replace RS := Lib.hid (ReadsP.below RS.out h2)
              replace BB := Lib.hid (BB.out.trans (h2.mono BB.out.size))
              clear h2
              go_wp2_with fail
              have hq := has_tt (x := kk) RC.out HLC.out (hC.out)
              refine hq.mono ?_
              rintro e W34 ⟨rfl, h2⟩
              clear hq
              replace RA := Lib.hid (ReadsP.below RA.out h2)
              replace RB := Lib.hid (ReadsP.below RB.out h2)
              replace RC := Lib.hid (ReadsP.below RC.out h2)
              replace RO := Lib.hid (ReadsP.below RO.out h2)
              replace RD := Lib.hid (ReadsP.below RD.out h2)
              replace RT := Lib.hid (ReadsP.below RT.out h2)
              replace RS := Lib.hid (ReadsP.below RS.out h2)
              replace BB := Lib.hid (BB.out.trans (h2.mono BB.out.size))
              clear h2
              go_wp2_with fail
              have hq := has_tt (x := kk) RO.out HLO.out (show inS LO (kk) from (MO.out _).2 (by simp [AnyIn, HU.out, hA.out, hB.out, hC.out]))
              refine hq.mono ?_
              rintro e W35 ⟨rfl, h2⟩
              clear hq
              replace RA := Lib.hid (ReadsP.below RA.out h2)
              replace RB := Lib.hid (ReadsP.below RB.out h2)
              replace RC := Lib.hid (ReadsP.below RC.out h2)
              replace RO := Lib.hid (ReadsP.below RO.out h2)
              replace RD := Lib.hid (ReadsP.below RD.out h2)
              replace RT := Lib.hid (ReadsP.below RT.out h2)
              replace RS := Lib.hid (ReadsP.below RS.out h2)
              replace BB := Lib.hid (BB.out.trans (h2.mono BB.out.size))
              clear h2
              go_wp2_with fail
              have hq := has_ff (x := kk) RD.out HLD.out (show ¬ inS LD (kk) from fun h => by have := (MD.out _).1 h; simp [AnyIn, HU.out, hA.out, hB.out, hC.out] at this)
              refine hq.mono ?_
              rintro e W36 ⟨rfl, h2⟩
              clear hq
              replace RA := Lib.hid (ReadsP.below RA.out h2)
              replace RB := Lib.hid (ReadsP.below RB.out h2)
              replace RC := Lib.hid (ReadsP.below RC.out h2)
              replace RO := Lib.hid (ReadsP.below RO.out h2)
              replace RD := Lib.hid (ReadsP.below RD.out h2)
              replace RT := Lib.hid (ReadsP.below RT.out h2)
              replace RS := Lib.hid (ReadsP.below RS.out h2)
              replace BB := Lib.hid (BB.out.trans (h2.mono BB.out.size))
              clear h2
              go_wp2_with fail
              have hq := has_ff (x := kk) RT.out HLT.out (show ¬ inS LT (kk) from fun h => by have := (MT.out _).1 h; simp [AnyIn, HU.out, hA.out, hB.out, hC.out] at this)
              refine hq.mono ?_
              rintro e W37 ⟨rfl, h2⟩
              clear hq
              replace RA := Lib.hid (ReadsP.below RA.out h2)
              replace RB := Lib.hid (ReadsP.below RB.out h2)
              replace RC := Lib.hid (ReadsP.below RC.out h2)
              replace RO := Lib.hid (ReadsP.below RO.out h2)
              replace RD := Lib.hid (ReadsP.below RD.out h2)
              replace RT := Lib.hid (ReadsP.below RT.out h2)
              replace RS := Lib.hid (ReadsP.below RS.out h2)
              replace BB := Lib.hid (BB.out.trans (h2.mono BB.out.size))
              clear h2
              go_wp2_with fail
              have hq := has_tt (x := kk) RS.out HLS.out (show inS LS (kk) from (MS.out _).2 (by simp [AnyIn, HU.out, hA.out, hB.out, hC.out]))
              refine hq.mono ?_
              rintro e W38 ⟨rfl, h2⟩
              clear hq
              replace RA := Lib.hid (ReadsP.below RA.out h2)
              replace RB := Lib.hid (ReadsP.below RB.out h2)
              replace RC := Lib.hid (ReadsP.below RC.out h2)
              replace RO := Lib.hid (ReadsP.below RO.out h2)
              replace RD := Lib.hid (ReadsP.below RD.out h2)
              replace RT := Lib.hid (ReadsP.below RT.out h2)
              replace RS := Lib.hid (ReadsP.below RS.out h2)
              replace BB := Lib.hid (BB.out.trans (h2.mono BB.out.size))
              clear h2
              go_wp2_with fail
              exact ⟨⟨j + 1, by omega, by go_num, RA, RB, RC, RO, RD, RT, RS, BB⟩, by simp [intOf]; omega⟩
            · replace hC := Lib.hid hC
              go_wp2_with fail
              have hq := has_tt (x := kk) RA.out HLA.out (hA.out)
              refine hq.mono ?_
              rintro e W39 ⟨rfl, h2⟩
              clear hq
              replace RA := Lib.hid (ReadsP.below RA.out h2)
              replace RB := Lib.hid (ReadsP.below RB.out h2)
              replace RC := Lib.hid (ReadsP.below RC.out h2)
              replace RO := Lib.hid (ReadsP.below RO.out h2)
              replace RD := Lib.hid (ReadsP.below RD.out h2)
              replace RT := Lib.hid (ReadsP.below RT.out h2)
              replace RS := Lib.hid (ReadsP.below RS.out h2)
              replace BB := Lib.hid (BB.out.trans (h2.mono BB.out.size))
              clear h2
              go_wp2_with fail
              have hq := has_ff (x := kk) RB.out HLB.out (hB.out)
              refine hq.mono ?_
              rintro e W40 ⟨rfl, h2⟩
              clear hq
              replace RA := Lib.hid (ReadsP.below RA.out h2)
              replace RB := Lib.hid (ReadsP.below RB.out h2)
              replace RC := Lib.hid (ReadsP.below RC.out h2)
              replace RO := Lib.hid (ReadsP.below RO.out h2)
              replace RD := Lib.hid (ReadsP.below RD.out h2)
              replace RT := Lib.hid (ReadsP.below RT.out h2)
              replace RS := Lib.hid (ReadsP.below RS.out h2)
              replace BB := Lib.hid (BB.out.trans (h2.mono BB.out.size))
              clear h2
              go_wp2_with fail
              have hq := has_ff (x := kk) RC.out HLC.out (hC.out)
              refine hq.mono ?_
              rintro e W41 ⟨rfl, h2⟩
              clear hq
              replace RA := Lib.hid (ReadsP.below RA.out h2)
              replace RB := Lib.hid (ReadsP.below RB.out h2)
              replace RC := Lib.hid (ReadsP.below RC.out h2)
              replace RO := Lib.hid (ReadsP.below RO.out h2)
              replace RD := Lib.hid (ReadsP.below RD.out h2)
              replace RT := Lib.hid (ReadsP.below RT.out h2)
              replace RS := Lib.hid (ReadsP.below RS.out h2)
              replace BB := Lib.hid (BB.out.trans (h2.mono BB.out.size))
              clear h2
              go_wp2_with fail
              have hq := has_tt (x := kk) RO.out HLO.out (show inS LO (kk) from (MO.out _).2 (by simp [AnyIn, HU.out, hA.out, hB.out, hC.out]))
              refine hq.mono ?_
              rintro e W42 ⟨rfl, h2⟩
              clear hq
              replace RA := Lib.hid (ReadsP.below RA.out h2)
              replace RB := Lib.hid (ReadsP.below RB.out h2)
              replace RC := Lib.hid (ReadsP.below RC.out h2)
              replace RO := Lib.hid (ReadsP.below RO.out h2)
              replace RD := Lib.hid (ReadsP.below RD.out h2)
              replace RT := Lib.hid (ReadsP.below RT.out h2)
              replace RS := Lib.hid (ReadsP.below RS.out h2)
              replace BB := Lib.hid (BB.out.trans (h2.mono BB.out.size))
              clear h2
              go_wp2_with fail
              have hq := has_ff (x := kk) RD.out HLD.out (show ¬ inS LD (kk) from fun h => by have := (MD.out _).1 h; simp [AnyIn, HU.out, hA.out, hB.out, hC.out] at this)
              refine hq.mono ?_
              rintro e W43 ⟨rfl, h2⟩
              clear hq
              replace RA := Lib.hid (ReadsP.below RA.out h2)
              replace RB := Lib.hid (ReadsP.below RB.out h2)
              replace RC := Lib.hid (ReadsP.below RC.out h2)
              replace RO := Lib.hid (ReadsP.below RO.out h2)
              replace RD := Lib.hid (ReadsP.below RD.out h2)
              replace RT := Lib.hid (ReadsP.below RT.out h2)
              replace RS := Lib.hid (ReadsP.below RS.out h2)
              replace BB := Lib.hid (BB.out.trans (h2.mono BB.out.size))
              clear h2
              go_wp2_with fail
              have hq := has_ff (x := kk) RT.out HLT.out (show ¬ inS LT (kk) from fun h => by have := (MT.out _).1 h; simp [AnyIn, HU.out, hA.out, hB.out, hC.out] at this)
              refine hq.mono ?_
              rintro e W44 ⟨rfl, h2⟩
              clear hq
              replace RA := Lib.hid (ReadsP.below RA.out h2)
              replace RB := Lib.hid (ReadsP.below RB.out h2)
              replace RC := Lib.hid (ReadsP.below RC.out h2)
              replace RO := Lib.hid (ReadsP.below RO.out h2)
              replace RD := Lib.hid (ReadsP.below RD.out h2)
              replace RT := Lib.hid (ReadsP.below RT.out h2)
              replace RS := Lib.hid (ReadsP.below RS.out h2)
              replace BB := Lib.hid (BB.out.trans (h2.mono BB.out.size))
              clear h2
              go_wp2_with fail
              have hq := has_tt (x := kk) RS.out HLS.out (show inS LS (kk) from (MS.out _).2 (by simp [AnyIn, HU.out, hA.out, hB.out, hC.out]))
              refine hq.mono ?_
              rintro e W45 ⟨rfl, h2⟩
              clear hq
              replace RA := Lib.hid (ReadsP.below RA.out h2)
              replace RB := Lib.hid (ReadsP.below RB.out h2)
              replace RC := Lib.hid (ReadsP.below RC.out h2)
              replace RO := Lib.hid (ReadsP.below RO.out h2)
              replace RD := Lib.hid (ReadsP.below RD.out h2)
              replace RT := Lib.hid (ReadsP.below RT.out h2)
              replace RS := Lib.hid (ReadsP.below RS.out h2)
              replace BB := Lib.hid (BB.out.trans (h2.mono BB.out.size))
              clear h2
              go_wp2_with fail
              exact ⟨⟨j + 1, by omega, by go_num, RA, RB, RC, RO, RD, RT, RS, BB⟩, by simp [intOf]; omega⟩
        · replace hA := Lib.hid hA
          by_cases hB : inS LB (kk)
          · replace hB := Lib.hid hB
            by_cases hC : inS LC (kk)
            · replace hC := Lib.hid hC
              go_wp2_with fail
              have hq := has_ff (x := kk) RA.out HLA.out (hA.out)
              refine hq.mono ?_
              rintro e W46 ⟨rfl, h2⟩
              clear hq
              replace RA := Lib.hid (ReadsP.below RA.out h2)
              replace RB := Lib.hid (ReadsP.below RB.out h2)
              replace RC := Lib.hid (ReadsP.below RC.out h2)
              replace RO := Lib.hid (ReadsP.below RO.out h2)
              replace RD := Lib.hid (ReadsP.below RD.out h2)
              replace RT := Lib.hid (ReadsP.below RT.out h2)
              replace RS := Lib.hid (ReadsP.below RS.out h2)
              replace BB := Lib.hid (BB.out.trans (h2.mono BB.out.size))
              clear h2
              go_wp2_with fail
              have hq := has_tt (x := kk) RB.out HLB.out (hB.out)
              refine hq.mono ?_
              rintro e W47 ⟨rfl, h2⟩
              clear hq
              replace RA := Lib.hid (ReadsP.below RA.out h2)
              replace RB := Lib.hid (ReadsP.below RB.out h2)
              replace RC := Lib.hid (ReadsP.below RC.out h2)
              replace RO := Lib.hid (ReadsP.below RO.out h2)
              replace RD := Lib.hid (ReadsP.below RD.out h2)
              replace RT := Lib.hid (ReadsP.below RT.out h2)
              replace RS := Lib.hid (ReadsP.below RS.out h2)
              replace BB := Lib.hid (BB.out.trans (h2.mono BB.out.size))
              clear h2
              go_wp2_with fail
              have hq := has_tt (x := kk) RC.out HLC.out (hC.out)
              refine hq.mono ?_
              rintro e W48 ⟨rfl, h2⟩
              clear hq
              replace RA := Lib.hid (ReadsP.below RA.out h2)
              replace RB := Lib.hid (ReadsP.below RB.out h2)
              replace RC := Lib.hid (ReadsP.below RC.out h2)
              replace RO := Lib.hid (ReadsP.below RO.out h2)
              replace RD := Lib.hid (ReadsP.below RD.out h2)
              replace RT := Lib.hid (ReadsP.below RT.out h2)
              replace RS := Lib.hid (ReadsP.below RS.out h2)
              replace BB := Lib.hid (BB.out.trans (h2.mono BB.out.size))
              clear h2
              go_wp2_with fail
              have hq := has_tt (x := kk) RO.out HLO.out (show inS LO (kk) from (MO.out _).2 (by simp [AnyIn, HU.out, hA.out, hB.out, hC.out]))
              refine hq.mono ?_
              rintro e W49 ⟨rfl, h2⟩
              clear hq
              replace RA := Lib.hid (ReadsP.below RA.out h2)
              replace RB := Lib.hid (ReadsP.below RB.out h2)
              replace RC := Lib.hid (ReadsP.below RC.out h2)
              replace RO := Lib.hid (ReadsP.below RO.out h2)
              replace RD := Lib.hid (ReadsP.below RD.out h2)
              replace RT := Lib.hid (ReadsP.below RT.out h2)
              replace RS := Lib.hid (ReadsP.below RS.out h2)
              replace BB := Lib.hid (BB.out.trans (h2.mono BB.out.size))
              clear h2
              go_wp2_with fail
              have hq := has_ff (x := kk) RD.out HLD.out (show ¬ inS LD (kk) from fun h => by have := (MD.out _).1 h; simp [AnyIn, HU.out, hA.out, hB.out, hC.out] at this)
              refine hq.mono ?_
              rintro e W50 ⟨rfl, h2⟩
              clear hq
              replace RA := Lib.hid (ReadsP.below RA.out h2)
              replace RB := Lib.hid (ReadsP.below RB.out h2)
              replace RC := Lib.hid (ReadsP.below RC.out h2)
              replace RO := Lib.hid (ReadsP.below RO.out h2)
              replace RD := Lib.hid (ReadsP.below RD.out h2)
              replace RT := Lib.hid (ReadsP.below RT.out h2)
              replace RS := Lib.hid (ReadsP.below RS.out h2)
              replace BB := Lib.hid (BB.out.trans (h2.mono BB.out.size))
              clear h2
              go_wp2_with fail
              have hq := has_tt (x := kk) RT.out HLT.out (show inS LT (kk) from (MT.out _).2 (by simp [AnyIn, HU.out, hA.out, hB.out, hC.out]))
              refine hq.mono ?_
              rintro e W51 ⟨rfl, h2⟩
              clear hq
              replace RA := Lib.hid (ReadsP.below RA.out h2)
              replace RB := Lib.hid (ReadsP.below RB.out h2)
              replace RC := Lib.hid (ReadsP.below RC.out h2)
              replace RO := Lib.hid (ReadsP.below RO.out h2)
              replace RD := Lib.hid (ReadsP.below RD.out h2)
              replace RT := Lib.hid (ReadsP.below RT.out h2)
              replace RS := Lib.hid (ReadsP.below RS.out h2)
              replace BB := Lib.hid (BB.out.trans (h2.mono BB.out.size))
              clear h2
              go_wp2_with fail
              have hq := has_ff (x := kk) RS.out HLS.out (show ¬ inS LS (kk) from fun h => by have := (MS.out _).1 h; simp [AnyIn, HU.out, hA.out, hB.out, hC.out] at this)
              refine hq.mono ?_
              rintro e W52 ⟨rfl, h2⟩
              clear hq
              replace RA := Lib.hid (ReadsP.below RA.out h2)
              replace RB := Lib.hid (ReadsP.below RB.out h2)
              replace RC := Lib.hid (ReadsP.below RC.out h2)
              replace RO := Lib.hid (ReadsP.below RO.out h2)
              replace RD := Lib.hid (ReadsP.below RD.out h2)
              replace RT := Lib.hid (ReadsP.below RT.out h2)
              replace RS := Lib.hid (ReadsP.below RS.out h2)
              replace BB := Lib.hid (BB.out.trans (h2.mono BB.out.size))
              clear h2
              go_wp2_with fail
              exact ⟨⟨j + 1, by omega, by go_num, RA, RB, RC, RO, RD, RT, RS, BB⟩, by simp [intOf]; omega⟩
            · replace hC := Lib.hid hC
              go_wp2_with fail
              have hq := has_ff (x := kk) RA.out HLA.out (hA.out)
              refine hq.mono ?_
              rintro e W53 ⟨rfl, h2⟩
              clear hq
              replace RA := Lib.hid (ReadsP.below RA.out h2)
              replace RB := Lib.hid (ReadsP.below RB.out h2)
              replace RC := Lib.hid (ReadsP.below RC.out h2)
              replace RO := Lib.hid (ReadsP.below RO.out h2)
              replace RD := Lib.hid (ReadsP.below RD.out h2)
              replace RT := Lib.hid (ReadsP.below RT.out h2)
              replace RS := Lib.hid (ReadsP.below RS.out h2)
              replace BB := Lib.hid (BB.out.trans (h2.mono BB.out.size))
              clear h2
              go_wp2_with fail
              have hq := has_tt (x := kk) RB.out HLB.out (hB.out)
              refine hq.mono ?_
              rintro e W54 ⟨rfl, h2⟩
              clear hq
              replace RA := Lib.hid (ReadsP.below RA.out h2)
              replace RB := Lib.hid (ReadsP.below RB.out h2)
              replace RC := Lib.hid (ReadsP.below RC.out h2)
              replace RO := Lib.hid (ReadsP.below RO.out h2)
              replace RD := Lib.hid (ReadsP.below RD.out h2)
              replace RT := Lib.hid (ReadsP.below RT.out h2)
              replace RS := Lib.hid (ReadsP.below RS.out h2)
              replace BB := Lib.hid (BB.out.trans (h2.mono BB.out.size))
              clear h2
              go_wp2_with fail
              have hq := has_ff (x := kk) RC.out HLC.out (hC.out)
              refine hq.mono ?_
              rintro e W55 ⟨rfl, h2⟩
              clear hq
              replace RA := Lib.hid (ReadsP.below RA.out h2)
              replace RB := Lib.hid (ReadsP.below RB.out h2)
              replace RC := Lib.hid (ReadsP.below RC.out h2)
              replace RO := Lib.hid (ReadsP.below RO.out h2)
              replace RD := Lib.hid (ReadsP.below RD.out h2)
              replace RT := Lib.hid (ReadsP.below RT.out h2)
              replace RS := Lib.hid (ReadsP.below RS.out h2)
              replace BB := Lib.hid (BB.out.trans (h2.mono BB.out.size))
              clear h2
              go_wp2_with fail
              have hq := has_tt (x := kk) RO.out HLO.out (show inS LO (kk) from (MO.out _).2 (by simp [AnyIn, HU.out, hA.out, hB.out, hC.out]))
              refine hq.mono ?_
              rintro e W56 ⟨rfl, h2⟩
              clear hq
              replace RA := Lib.hid (ReadsP.below RA.out h2)
              replace RB := Lib.hid (ReadsP.below RB.out h2)
              replace RC := Lib.hid (ReadsP.below RC.out h2)
              replace RO := Lib.hid (ReadsP.below RO.out h2)
              replace RD := Lib.hid (ReadsP.below RD.out h2)
              replace RT := Lib.hid (ReadsP.below RT.out h2)
              replace RS := Lib.hid (ReadsP.below RS.out h2)
              replace BB := Lib.hid (BB.out.trans (h2.mono BB.out.size))
              clear h2
              go_wp2_with fail
              have hq := has_ff (x := kk) RD.out HLD.out (show ¬ inS LD (kk) from fun h => by have := (MD.out _).1 h; simp [AnyIn, HU.out, hA.out, hB.out, hC.out] at this)
              refine hq.mono ?_
              rintro e W57 ⟨rfl, h2⟩
              clear hq
              replace RA := Lib.hid (ReadsP.below RA.out h2)
              replace RB := Lib.hid (ReadsP.below RB.out h2)
              replace RC := Lib.hid (ReadsP.below RC.out h2)
              replace RO := Lib.hid (ReadsP.below RO.out h2)
              replace RD := Lib.hid (ReadsP.below RD.out h2)
              replace RT := Lib.hid (ReadsP.below RT.out h2)
              replace RS := Lib.hid (ReadsP.below RS.out h2)
              replace BB := Lib.hid (BB.out.trans (h2.mono BB.out.size))
              clear h2
              go_wp2_with fail
              have hq := has_tt (x := kk) RT.out HLT.out (show inS LT (kk) from (MT.out _).2 (by simp [AnyIn, HU.out, hA.out, hB.out, hC.out]))
              refine hq.mono ?_
              rintro e W58 ⟨rfl, h2⟩
              clear hq
              replace RA := Lib.hid (ReadsP.below RA.out h2)
              replace RB := Lib.hid (ReadsP.below RB.out h2)
              replace RC := Lib.hid (ReadsP.below RC.out h2)
              replace RO := Lib.hid (ReadsP.below RO.out h2)
              replace RD := Lib.hid (ReadsP.below RD.out h2)
              replace RT := Lib.hid (ReadsP.below RT.out h2)
              replace RS := Lib.hid (ReadsP.below RS.out h2)
              replace BB := Lib.hid (BB.out.trans (h2.mono BB.out.size))
              clear h2
              go_wp2_with fail
              have hq := has_ff (x := kk) RS.out HLS.out (show ¬ inS LS (kk) from fun h => by have := (MS.out _).1 h; simp [AnyIn, HU.out, hA.out, hB.out, hC.out] at this)
              refine hq.mono ?_
              rintro e W59 ⟨rfl, h2⟩
              clear hq
              replace RA := Lib.hid (ReadsP.below RA.out h2)
              replace RB := Lib.hid (ReadsP.below RB.out h2)
              replace RC := Lib.hid (ReadsP.below RC.out h2)
              replace RO := Lib.hid (ReadsP.below RO.out h2)
              replace RD := Lib.hid (ReadsP.below RD.out h2)
              replace RT := Lib.hid (ReadsP.below RT.out h2)
              replace RS := Lib.hid (ReadsP.below RS.out h2)
              replace BB := Lib.hid (BB.out.trans (h2.mono BB.out.size))
              clear h2
              go_wp2_with fail
              exact ⟨⟨j + 1, by omega, by go_num, RA, RB, RC, RO, RD, RT, RS, BB⟩, by simp [intOf]; omega⟩
          · replace hB := Lib.hid hB
            by_cases hC : inS LC (kk)
            · replace hC := Lib.hid hC
              go_wp2_with fail
              have hq := has_ff (x := kk) RA.out HLA.out (hA.out)
              refine hq.mono ?_
              rintro e W60 ⟨rfl, h2⟩
              clear hq
              replace RA := Lib.hid (ReadsP.below RA.out h2)
              replace RB := Lib.hid (ReadsP.below RB.out h2)
              replace RC := Lib.hid (ReadsP.below RC.out h2)
              replace RO := Lib.hid (ReadsP.below RO.out h2)
              replace RD := Lib.hid (ReadsP.below RD.out h2)
              replace RT := Lib.hid (ReadsP.below RT.out h2)
              replace RS := Lib.hid (ReadsP.below RS.out h2)
              replace BB := Lib.hid (BB.out.trans (h2.mono BB.out.size))
              clear h2
              go_wp2_with fail
              have hq := has_ff (x := kk) RB.out HLB.out (hB.out)
              refine hq.mono ?_
              rintro e W61 ⟨rfl, h2⟩
              clear hq
              replace RA := Lib.hid (ReadsP.below RA.out h2)
              replace RB := Lib.hid (ReadsP.below RB.out h2)
              replace RC := Lib.hid (ReadsP.below RC.out h2)
              replace RO := Lib.hid (ReadsP.below RO.out h2)
              replace RD := Lib.hid (ReadsP.below RD.out h2)
              replace RT := Lib.hid (ReadsP.below RT.out h2)
              replace RS := Lib.hid (ReadsP.below RS.out h2)
              replace BB := Lib.hid (BB.out.trans (h2.mono BB.out.size))
              clear h2
              go_wp2_with fail
              have hq := has_tt (x := kk) RC.out HLC.out (hC.out)
              refine hq.mono ?_
              rintro e W62 ⟨rfl, h2⟩
              clear hq
              replace RA := Lib.hid (ReadsP.below RA.out h2)
              replace RB := Lib.hid (ReadsP.below RB.out h2)
              replace RC := Lib.hid (ReadsP.below RC.out h2)
              replace RO := Lib.hid (ReadsP.below RO.out h2)
              replace RD := Lib.hid (ReadsP.below RD.out h2)
              replace RT := Lib.hid (ReadsP.below RT.out h2)
              replace RS := Lib.hid (ReadsP.below RS.out h2)
              replace BB := Lib.hid (BB.out.trans (h2.mono BB.out.size))
              clear h2
              go_wp2_with fail
              have hq := has_tt (x := kk) RO.out HLO.out (show inS LO (kk) from (MO.out _).2 (by simp [AnyIn, HU.out, hA.out, hB.out, hC.out]))
              refine hq.mono ?_
              rintro e W63 ⟨rfl, h2⟩
              clear hq
              replace RA := Lib.hid (ReadsP.below RA.out h2)
              replace RB := Lib.hid (ReadsP.below RB.out h2)
              replace RC := Lib.hid (ReadsP.below RC.out h2)
              replace RO := Lib.hid (ReadsP.below RO.out h2)
              replace RD := Lib.hid (ReadsP.below RD.out h2)
              replace RT := Lib.hid (ReadsP.below RT.out h2)
              replace RS := Lib.hid (ReadsP.below RS.out h2)
              replace BB := Lib.hid (BB.out.trans (h2.mono BB.out.size))
              clear h2
              go_wp2_with fail
              have hq := has_ff (x := kk) RD.out HLD.out (show ¬ inS LD (kk) from fun h => by have := (MD.out _).1 h; simp [AnyIn, HU.out, hA.out, hB.out, hC.out] at this)
              refine hq.mono ?_
              rintro e W64 ⟨rfl, h2⟩
              clear hq
              replace RA := Lib.hid (ReadsP.below RA.out h2)
              replace RB := Lib.hid (ReadsP.below RB.out h2)
              replace RC := Lib.hid (ReadsP.below RC.out h2)
              replace RO := Lib.hid (ReadsP.below RO.out h2)
              replace RD := Lib.hid (ReadsP.below RD.out h2)
              replace RT := Lib.hid (ReadsP.below RT.out h2)
              replace RS := Lib.hid (ReadsP.below RS.out h2)
              replace BB := Lib.hid (BB.out.trans (h2.mono BB.out.size))
              clear h2
              go_wp2_with fail
              have hq := has_tt (x := kk) RT.out HLT.out (show inS LT (kk) from (MT.out _).2 (by simp [AnyIn, HU.out, hA.out, hB.out, hC.out]))
              refine hq.mono ?_
              rintro e W65 ⟨rfl, h2⟩
              clear hq
              replace RA := Lib.hid (ReadsP.below RA.out h2)
              replace RB := Lib.hid (ReadsP.below RB.out h2)
              replace RC := Lib.hid (ReadsP.below RC.out h2)
              replace RO := Lib.hid (ReadsP.below RO.out h2)
              replace RD := Lib.hid (ReadsP.below RD.out h2)
              replace RT := Lib.hid (ReadsP.below RT.out h2)
              replace RS := Lib.hid (ReadsP.below RS.out h2)
              replace BB := Lib.hid (BB.out.trans (h2.mono BB.out.size))
              clear h2
              go_wp2_with fail
              have hq := has_ff (x := kk) RS.out HLS.out (show ¬ inS LS (kk) from fun h => by have := (MS.out _).1 h; simp [AnyIn, HU.out, hA.out, hB.out, hC.out] at this)
              refine hq.mono ?_
              rintro e W66 ⟨rfl, h2⟩
              clear hq
              replace RA := Lib.hid (ReadsP.below RA.out h2)
              replace RB := Lib.hid (ReadsP.below RB.out h2)
              replace RC := Lib.hid (ReadsP.below RC.out h2)
              replace RO := Lib.hid (ReadsP.below RO.out h2)
              replace RD := Lib.hid (ReadsP.below RD.out h2)
              replace RT := Lib.hid (ReadsP.below RT.out h2)
              replace RS := Lib.hid (ReadsP.below RS.out h2)
              replace BB := Lib.hid (BB.out.trans (h2.mono BB.out.size))
              clear h2
              go_wp2_with fail
              exact ⟨⟨j + 1, by omega, by go_num, RA, RB, RC, RO, RD, RT, RS, BB⟩, by simp [intOf]; omega⟩
            · replace hC := Lib.hid hC
              go_wp2_with fail
              have hq := has_ff (x := kk) RA.out HLA.out (hA.out)
              refine hq.mono ?_
              rintro e W67 ⟨rfl, h2⟩
              clear hq
              replace RA := Lib.hid (ReadsP.below RA.out h2)
              replace RB := Lib.hid (ReadsP.below RB.out h2)
              replace RC := Lib.hid (ReadsP.below RC.out h2)
              replace RO := Lib.hid (ReadsP.below RO.out h2)
              replace RD := Lib.hid (ReadsP.below RD.out h2)
              replace RT := Lib.hid (ReadsP.below RT.out h2)
              replace RS := Lib.hid (ReadsP.below RS.out h2)
              replace BB := Lib.hid (BB.out.trans (h2.mono BB.out.size))
              clear h2
              go_wp2_with fail
              have hq := has_ff (x := kk) RB.out HLB.out (hB.out)
              refine hq.mono ?_
              rintro e W68 ⟨rfl, h2⟩
              clear hq
              replace RA := Lib.hid (ReadsP.below RA.out h2)
              replace RB := Lib.hid (ReadsP.below RB.out h2)
              replace RC := Lib.hid (ReadsP.below RC.out h2)
              replace RO := Lib.hid (ReadsP.below RO.out h2)
              replace RD := Lib.hid (ReadsP.below RD.out h2)
              replace RT := Lib.hid (ReadsP.below RT.out h2)
              replace RS := Lib.hid (ReadsP.below RS.out h2)
              replace BB := Lib.hid (BB.out.trans (h2.mono BB.out.size))
              clear h2
              go_wp2_with fail
              have hq := has_ff (x := kk) RC.out HLC.out (hC.out)
              refine hq.mono ?_
              rintro e W69 ⟨rfl, h2⟩
              clear hq
              replace RA := Lib.hid (ReadsP.below RA.out h2)
              replace RB := Lib.hid (ReadsP.below RB.out h2)
              replace RC := Lib.hid (ReadsP.below RC.out h2)
              replace RO := Lib.hid (ReadsP.below RO.out h2)
              replace RD := Lib.hid (ReadsP.below RD.out h2)
              replace RT := Lib.hid (ReadsP.below RT.out h2)
              replace RS := Lib.hid (ReadsP.below RS.out h2)
              replace BB := Lib.hid (BB.out.trans (h2.mono BB.out.size))
              clear h2
              go_wp2_with fail
              have hq := has_ff (x := kk) RO.out HLO.out (show ¬ inS LO (kk) from fun h => by have := (MO.out _).1 h; simp [AnyIn, HU.out, hA.out, hB.out, hC.out] at this)
              refine hq.mono ?_
              rintro e W70 ⟨rfl, h2⟩
              clear hq
              replace RA := Lib.hid (ReadsP.below RA.out h2)
              replace RB := Lib.hid (ReadsP.below RB.out h2)
              replace RC := Lib.hid (ReadsP.below RC.out h2)
              replace RO := Lib.hid (ReadsP.below RO.out h2)
              replace RD := Lib.hid (ReadsP.below RD.out h2)
              replace RT := Lib.hid (ReadsP.below RT.out h2)
              replace RS := Lib.hid (ReadsP.below RS.out h2)
              replace BB := Lib.hid (BB.out.trans (h2.mono BB.out.size))
              clear h2
              go_wp2_with fail
              have hq := has_ff (x := kk) RD.out HLD.out (show ¬ inS LD (kk) from fun h => by have := (MD.out _).1 h; simp [AnyIn, HU.out, hA.out, hB.out, hC.out] at this)
              refine hq.mono ?_
              rintro e W71 ⟨rfl, h2⟩
              clear hq
              replace RA := Lib.hid (ReadsP.below RA.out h2)
              replace RB := Lib.hid (ReadsP.below RB.out h2)
              replace RC := Lib.hid (ReadsP.below RC.out h2)
              replace RO := Lib.hid (ReadsP.below RO.out h2)
              replace RD := Lib.hid (ReadsP.below RD.out h2)
              replace RT := Lib.hid (ReadsP.below RT.out h2)
              replace RS := Lib.hid (ReadsP.below RS.out h2)
              replace BB := Lib.hid (BB.out.trans (h2.mono BB.out.size))
              clear h2
              go_wp2_with fail
              have hq := has_tt (x := kk) RT.out HLT.out (show inS LT (kk) from (MT.out _).2 (by simp [AnyIn, HU.out, hA.out, hB.out, hC.out]))
              refine hq.mono ?_
              rintro e W72 ⟨rfl, h2⟩
              clear hq
              replace RA := Lib.hid (ReadsP.below RA.out h2)
              replace RB := Lib.hid (ReadsP.below RB.out h2)
              replace RC := Lib.hid (ReadsP.below RC.out h2)
              replace RO := Lib.hid (ReadsP.below RO.out h2)
              replace RD := Lib.hid (ReadsP.below RD.out h2)
              replace RT := Lib.hid (ReadsP.below RT.out h2)
              replace RS := Lib.hid (ReadsP.below RS.out h2)
              replace BB := Lib.hid (BB.out.trans (h2.mono BB.out.size))
              clear h2
              go_wp2_with fail
              have hq := has_ff (x := kk) RS.out HLS.out (show ¬ inS LS (kk) from fun h => by have := (MS.out _).1 h; simp [AnyIn, HU.out, hA.out, hB.out, hC.out] at this)
              refine hq.mono ?_
              rintro e W73 ⟨rfl, h2⟩
              clear hq
              replace RA := Lib.hid (ReadsP.below RA.out h2)
              replace RB := Lib.hid (ReadsP.below RB.out h2)
              replace RC := Lib.hid (ReadsP.below RC.out h2)
              replace RO := Lib.hid (ReadsP.below RO.out h2)
              replace RD := Lib.hid (ReadsP.below RD.out h2)
              replace RT := Lib.hid (ReadsP.below RT.out h2)
              replace RS := Lib.hid (ReadsP.below RS.out h2)
              replace BB := Lib.hid (BB.out.trans (h2.mono BB.out.size))
              clear h2
              go_wp2_with fail
              exact ⟨⟨j + 1, by omega, by go_num, RA, RB, RC, RO, RD, RT, RS, BB⟩, by simp [intOf]; omega⟩
      · have i2 : ¬ (72 : Int) < (j : Int) := by omega
        have HU : Hid (InU (j : Int)) := Lib.hid (by unfold InU; omega)
        by_cases hA : inS LA ((j : Int))
        · replace hA := Lib.hid hA
          by_cases hB : inS LB ((j : Int))
          · replace hB := Lib.hid hB
            by_cases hC : inS LC ((j : Int))
            · replace hC := Lib.hid hC
              go_wp2_with fail
              have hq := has_tt (x := (j : Int)) RA.out HLA.out (hA.out)
              refine hq.mono ?_
              rintro e W74 ⟨rfl, h2⟩
              clear hq
              replace RA := Lib.hid (ReadsP.below RA.out h2)
              replace RB := Lib.hid (ReadsP.below RB.out h2)
              replace RC := Lib.hid (ReadsP.below RC.out h2)
              replace RO := Lib.hid (ReadsP.below RO.out h2)
              replace RD := Lib.hid (ReadsP.below RD.out h2)
              replace RT := Lib.hid (ReadsP.below RT.out h2)
              replace RS := Lib.hid (ReadsP.below RS.out h2)
              replace BB := Lib.hid (BB.out.trans (h2.mono BB.out.size))
              clear h2
              go_wp2_with fail
              have hq := has_tt (x := (j : Int)) RB.out HLB.out (hB.out)
              refine hq.mono ?_
              rintro e W75 ⟨rfl, h2⟩
              clear hq
              replace RA := Lib.hid (ReadsP.below RA.out h2)
              replace RB := Lib.hid (ReadsP.below RB.out h2)
              replace RC := Lib.hid (ReadsP.below RC.out h2)
              replace RO := Lib.hid (ReadsP.below RO.out h2)
              replace RD := Lib.hid (ReadsP.below RD.out h2)
              replace RT := Lib.hid (ReadsP.below RT.out h2)
              replace RS := Lib.hid (ReadsP.below RS.out h2)
              replace BB := Lib.hid (BB.out.trans (h2.mono BB.out.size))
              clear h2
              go_wp2_with fail
              have hq := has_tt (x := (j : Int)) RC.out HLC.out (hC.out)
              refine hq.mono ?_
              rintro e W76 ⟨rfl, h2⟩
              clear hq
              replace RA := Lib.hid (ReadsP.below RA.out h2)
              replace RB := Lib.hid (ReadsP.below RB.out h2)
              replace RC := Lib.hid (ReadsP.below RC.out h2)
              replace RO := Lib.hid (ReadsP.below RO.out h2)
              replace RD := Lib.hid (ReadsP.below RD.out h2)
              replace RT := Lib.hid (ReadsP.below RT.out h2)
              replace RS := Lib.hid (ReadsP.below RS.out h2)
              replace BB := Lib.hid (BB.out.trans (h2.mono BB.out.size))
              clear h2
              go_wp2_with fail
              have hq := has_tt (x := (j : Int)) RO.out HLO.out (show inS LO ((j : Int)) from (MO.out _).2 (by simp [AnyIn, HU.out, hA.out, hB.out, hC.out]))
              refine hq.mono ?_
              rintro e W77 ⟨rfl, h2⟩
              clear hq
              replace RA := Lib.hid (ReadsP.below RA.out h2)
              replace RB := Lib.hid (ReadsP.below RB.out h2)
              replace RC := Lib.hid (ReadsP.below RC.out h2)
              replace RO := Lib.hid (ReadsP.below RO.out h2)
              replace RD := Lib.hid (ReadsP.below RD.out h2)
              replace RT := Lib.hid (ReadsP.below RT.out h2)
              replace RS := Lib.hid (ReadsP.below RS.out h2)
              replace BB := Lib.hid (BB.out.trans (h2.mono BB.out.size))
              clear h2
              go_wp2_with fail
              have hq := has_tt (x := (j : Int)) RD.out HLD.out (show inS LD ((j : Int)) from (MD.out _).2 (by simp [AnyIn, HU.out, hA.out, hB.out, hC.out]))
              refine hq.mono ?_
              rintro e W78 ⟨rfl, h2⟩
              clear hq
              replace RA := Lib.hid (ReadsP.below RA.out h2)
              replace RB := Lib.hid (ReadsP.below RB.out h2)
              replace RC := Lib.hid (ReadsP.below RC.out h2)
              replace RO := Lib.hid (ReadsP.below RO.out h2)
              replace RD := Lib.hid (ReadsP.below RD.out h2)
              replace RT := Lib.hid (ReadsP.below RT.out h2)
              replace RS := Lib.hid (ReadsP.below RS.out h2)
              replace BB := Lib.hid (BB.out.trans (h2.mono BB.out.size))
              clear h2
              go_wp2_with fail
              have hq := has_ff (x := (j : Int)) RT.out HLT.out (show ¬ inS LT ((j : Int)) from fun h => by have := (MT.out _).1 h; simp [AnyIn, HU.out, hA.out, hB.out, hC.out] at this)
              refine hq.mono ?_
              rintro e W79 ⟨rfl, h2⟩
              clear hq
              replace RA := Lib.hid (ReadsP.below RA.out h2)
              replace RB := Lib.hid (ReadsP.below RB.out h2)
              replace RC := Lib.hid (ReadsP.below RC.out h2)
              replace RO := Lib.hid (ReadsP.below RO.out h2)
              replace RD := Lib.hid (ReadsP.below RD.out h2)
              replace RT := Lib.hid (ReadsP.below RT.out h2)
              replace RS := Lib.hid (ReadsP.below RS.out h2)
              replace BB := Lib.hid (BB.out.trans (h2.mono BB.out.size))
              clear h2
              go_wp2_with fail
              have hq := has_ff (x := (j : Int)) RS.out HLS.out (show ¬ inS LS ((j : Int)) from fun h => by have := (MS.out _).1 h; simp [AnyIn, HU.out, hA.out, hB.out, hC.out] at this)
              refine hq.mono ?_
              rintro e W80 ⟨rfl, h2⟩
              clear hq
              replace RA := Lib.hid (ReadsP.below RA.out h2)
              replace RB := Lib.hid (ReadsP.below RB.out h2)
              replace RC := Lib.hid (ReadsP.below RC.out h2)
              replace RO := Lib.hid (ReadsP.below RO.out h2)
              replace RD := Lib.hid (ReadsP.below RD.out h2)
              replace RT := Lib.hid (ReadsP.below RT.out h2)
              replace RS := Lib.hid (ReadsP.below RS.out h2)
              replace BB := Lib.hid (BB.out.trans (h2.mono BB.out.size))
              clear h2
              go_wp2_with fail
              exact ⟨⟨j + 1, by omega, by go_num, RA, RB, RC, RO, RD, RT, RS, BB⟩, by simp [intOf]; omega⟩
            · replace hC := Lib.hid hC
              go_wp2_with fail
              have hq := has_tt (x := (j : Int)) RA.out HLA.out (hA.out)
              refine hq.mono ?_
              rintro e W81 ⟨rfl, h2⟩
              clear hq
              replace RA := Lib.hid (ReadsP.below RA.out h2)
              replace RB := Lib.hid (ReadsP.below RB.out h2)
              replace RC := Lib.hid (ReadsP.below RC.out h2)
              replace RO := Lib.hid (ReadsP.below RO.out h2)
              replace RD := Lib.hid (ReadsP.below RD.out h2)
              replace RT := Lib.hid (ReadsP.below RT.out h2)
              replace RS := Lib.hid (ReadsP.below RS.out h2)
              replace BB := Lib.hid (BB.out.trans (h2.mono BB.out.size))
              clear h2
              go_wp2_with fail
              have hq := has_tt (x := (j : Int)) RB.out HLB.out (hB.out)
              refine hq.mono ?_
              rintro e W82 ⟨rfl, h2⟩
              clear hq
              replace RA := Lib.hid (ReadsP.below RA.out h2)
              replace RB := Lib.hid (ReadsP.below RB.out h2)
              replace RC := Lib.hid (ReadsP.below RC.out h2)
              replace RO := Lib.hid (ReadsP.below RO.out h2)
              replace RD := Lib.hid (ReadsP.below RD.out h2)
              replace RT := Lib.hid (ReadsP.below RT.out h2)
              replace RS := Lib.hid (ReadsP.below RS.out h2)
              replace BB := Lib.hid (BB.out.trans (h2.mono BB.out.size))
              clear h2
              go_wp2_with fail
              have hq := has_ff (x := (j : Int)) RC.out HLC.out (hC.out)
              refine hq.mono ?_
              rintro e W83 ⟨rfl, h2⟩
              clear hq
              replace RA := Lib.hid (ReadsP.below RA.out h2)
              replace RB := Lib.hid (ReadsP.below RB.out h2)
              replace RC := Lib.hid (ReadsP.below RC.out h2)
              replace RO := Lib.hid (ReadsP.below RO.out h2)
              replace RD := Lib.hid (ReadsP.below RD.out h2)
              replace RT := Lib.hid (ReadsP.below RT.out h2)
              replace RS := Lib.hid (ReadsP.below RS.out h2)
              replace BB := Lib.hid (BB.out.trans (h2.mono BB.out.size))
              clear h2
              go_wp2_with fail
              have hq := has_tt (x := (j : Int)) RO.out HLO.out (show inS LO ((j : Int)) from (MO.out _).2 (by simp [AnyIn, HU.out, hA.out, hB.out, hC.out]))
              refine hq.mono ?_
              rintro e W84 ⟨rfl, h2⟩
              clear hq
              replace RA := Lib.hid (ReadsP.below RA.out h2)
              replace RB := Lib.hid (ReadsP.below RB.out h2)
              replace RC := Lib.hid (ReadsP.below RC.out h2)
              replace RO := Lib.hid (ReadsP.below RO.out h2)
              replace RD := Lib.hid (ReadsP.below RD.out h2)
              replace RT := Lib.hid (ReadsP.below RT.out h2)
              replace RS := Lib.hid (ReadsP.below RS.out h2)
              replace BB := Lib.hid (BB.out.trans (h2.mono BB.out.size))
              clear h2
              go_wp2_with fail
              have hq := has_tt (x := (j : Int)) RD.out HLD.out (show inS LD ((j : Int)) from (MD.out _).2 (by simp [AnyIn, HU.out, hA.out, hB.out, hC.out]))
              refine hq.mono ?_
              rintro e W85 ⟨rfl, h2⟩
              clear hq
              replace RA := Lib.hid (ReadsP.below RA.out h2)
              replace RB := Lib.hid (ReadsP.below RB.out h2)
              replace RC := Lib.hid (ReadsP.below RC.out h2)
              replace RO := Lib.hid (ReadsP.below RO.out h2)
              replace RD := Lib.hid (ReadsP.below RD.out h2)
              replace RT := Lib.hid (ReadsP.below RT.out h2)
              replace RS := Lib.hid (ReadsP.below RS.out h2)
              replace BB := Lib.hid (BB.out.trans (h2.mono BB.out.size))
              clear h2
              go_wp2_with fail
              have hq := has_ff (x := (j : Int)) RT.out HLT.out (show ¬ inS LT ((j : Int)) from fun h => by have := (MT.out _).1 h; simp [AnyIn, HU.out, hA.out, hB.out, hC.out] at this)
              refine hq.mono ?_
              rintro e W86 ⟨rfl, h2⟩
              clear hq
              replace RA := Lib.hid (ReadsP.below RA.out h2)
              replace RB := Lib.hid (ReadsP.below RB.out h2)
              replace RC := Lib.hid (ReadsP.below RC.out h2)
              replace RO := Lib.hid (ReadsP.below RO.out h2)
              replace RD := Lib.hid (ReadsP.below RD.out h2)
              replace RT := Lib.hid (ReadsP.below RT.out h2)
              replace RS := Lib.hid (ReadsP.below RS.out h2)
              replace BB := Lib.hid (BB.out.trans (h2.mono BB.out.size))
              clear h2
              go_wp2_with fail
              have hq := has_ff (x := (j : Int)) RS.out HLS.out (show ¬ inS LS ((j : Int)) from fun h => by have := (MS.out _).1 h; simp [AnyIn, HU.out, hA.out, hB.out, hC.out] at this)
              refine hq.mono ?_
              rintro e W87 ⟨rfl, h2⟩
              clear hq
              replace RA := Lib.hid (ReadsP.below RA.out h2)
              replace RB := Lib.hid (ReadsP.below RB.out h2)
              replace RC := Lib.hid (ReadsP.below RC.out h2)
              replace RO := Lib.hid (ReadsP.below RO.out h2)
              replace RD := Lib.hid (ReadsP.below RD.out h2)
              replace RT := Lib.hid (ReadsP.below RT.out h2)
              replace RS := Lib.hid (ReadsP.below RS.out h2)
              replace BB := Lib.hid (BB.out.trans (h2.mono BB.out.size))
              clear h2
              go_wp2_with fail
              exact ⟨⟨j + 1, by omega, by go_num, RA, RB, RC, RO, RD, RT, RS, BB⟩, by simp [intOf]; omega⟩
          · replace hB := Lib.hid hB
            by_cases hC : inS LC ((j : Int))
            · replace hC := Lib.hid hC
              go_wp2_with fail
              have hq := has_tt (x := (j : Int)) RA.out HLA.out (hA.out)
              refine hq.mono ?_
              rintro e W88 ⟨rfl, h2⟩
              clear hq
              replace RA := Lib.hid (ReadsP.below RA.out h2)
              replace RB := Lib.hid (ReadsP.below RB.out h2)
              replace RC := Lib.hid (ReadsP.below RC.out h2)
              replace RO := Lib.hid (ReadsP.below RO.out h2)
              replace RD := Lib.hid (ReadsP.below RD.out h2)
              replace RT := Lib.hid (ReadsP.below RT.out h2)
              replace RS := Lib.hid (ReadsP.below RS.out h2)
              replace BB := Lib.hid (BB.out.trans (h2.mono BB.out.size))
              clear h2
              go_wp2_with fail
              have hq := has_ff (x := (j : Int)) RB.out HLB.out (hB.out)
              refine hq.mono ?_
              rintro e W89 ⟨rfl, h2⟩
              clear hq
              replace RA := Lib.hid (ReadsP.below RA.out h2)
              replace RB := Lib.hid (ReadsP.below RB.out h2)
              replace RC := Lib.hid (ReadsP.below RC.out h2)
              replace RO := Lib.hid (ReadsP.below RO.out h2)
              replace RD := Lib.hid (ReadsP.below RD.out h2)
              replace RT := Lib.hid (ReadsP.below RT.out h2)
              replace RS := Lib.hid (ReadsP.below RS.out h2)
              replace BB := Lib.hid (BB.out.trans (h2.mono BB.out.size))
              clear h2
              go_wp2_with fail
              have hq := has_tt (x := (j : Int)) RC.out HLC.out (hC.out)
              refine hq.mono ?_
              rintro e W90 ⟨rfl, h2⟩
              clear hq
              replace RA := Lib.hid (ReadsP.below RA.out h2)
              replace RB := Lib.hid (ReadsP.below RB.out h2)
              replace RC := Lib.hid (ReadsP.below RC.out h2)
              replace RO := Lib.hid (ReadsP.below RO.out h2)
              replace RD := Lib.hid (ReadsP.below RD.out h2)
              replace RT := Lib.hid (ReadsP.below RT.out h2)
              replace RS := Lib.hid (ReadsP.below RS.out h2)
              replace BB := Lib.hid (BB.out.trans (h2.mono BB.out.size))
              clear h2
              go_wp2_with fail
              have hq := has_tt (x := (j : Int)) RO.out HLO.out (show inS LO ((j : Int)) from (MO.out _).2 (by simp [AnyIn, HU.out, hA.out, hB.out, hC.out]))
              refine hq.mono ?_
              rintro e W91 ⟨rfl, h2⟩
              clear hq
              replace RA := Lib.hid (ReadsP.below RA.out h2)
              replace RB := Lib.hid (ReadsP.below RB.out h2)
              replace RC := Lib.hid (ReadsP.below RC.out h2)
              replace RO := Lib.hid (ReadsP.below RO.out h2)
              replace RD := Lib.hid (ReadsP.below RD.out h2)
              replace RT := Lib.hid (ReadsP.below RT.out h2)
              replace RS := Lib.hid (ReadsP.below RS.out h2)
              replace BB := Lib.hid (BB.out.trans (h2.mono BB.out.size))
              clear h2
              go_wp2_with fail
              have hq := has_ff (x := (j : Int)) RD.out HLD.out (show ¬ inS LD ((j : Int)) from fun h => by have := (MD.out _).1 h; simp [AnyIn, HU.out, hA.out, hB.out, hC.out] at this)
              refine hq.mono ?_
              rintro e W92 ⟨rfl, h2⟩
              clear hq
              replace RA := Lib.hid (ReadsP.below RA.out h2)
              replace RB := Lib.hid (ReadsP.below RB.out h2)
              replace RC := Lib.hid (ReadsP.below RC.out h2)
              replace RO := Lib.hid (ReadsP.below RO.out h2)
              replace RD := Lib.hid (ReadsP.below RD.out h2)
              replace RT := Lib.hid (ReadsP.below RT.out h2)
              replace RS := Lib.hid (ReadsP.below RS.out h2)
              replace BB := Lib.hid (BB.out.trans (h2.mono BB.out.size))
              clear h2
              go_wp2_with fail
              have hq := has_ff (x := (j : Int)) RT.out HLT.out (show ¬ inS LT ((j : Int)) from fun h => by have := (MT.out _).1 h; simp [AnyIn, HU.out, hA.out, hB.out, hC.out] at this)
              refine hq.mono ?_
              rintro e W93 ⟨rfl, h2⟩
              clear hq
              replace RA := Lib.hid (ReadsP.below RA.out h2)
              replace RB := Lib.hid (ReadsP.below RB.out h2)
              replace RC := Lib.hid (ReadsP.below RC.out h2)
              replace RO := Lib.hid (ReadsP.below RO.out h2)
              replace RD := Lib.hid (ReadsP.below RD.out h2)
              replace RT := Lib.hid (ReadsP.below RT.out h2)
              replace RS := Lib.hid (ReadsP.below RS.out h2)
              replace BB := Lib.hid (BB.out.trans (h2.mono BB.out.size))
              clear h2
              go_wp2_with fail
              have hq := has_tt (x := (j : Int)) RS.out HLS.out (show inS LS ((j : Int)) from (MS.out _).2 (by simp [AnyIn, HU.out, hA.out, hB.out, hC.out]))
              refine hq.mono ?_
              rintro e W94 ⟨rfl, h2⟩
              clear hq
              replace RA := Lib.hid (ReadsP.below RA.out h2)
              replace RB := Lib.hid (ReadsP.below RB.out h2)
              replace RC := Lib.hid (ReadsP.below RC.out h2)
              replace RO := Lib.hid (ReadsP.below RO.out h2)
              replace RD := Lib.hid (ReadsP.below RD.out h2)
              replace RT := Lib.hid (ReadsP.below RT.out h2)
              replace RS := Lib.hid (ReadsP.below RS.out h2)
              replace BB := Lib.hid (BB.out.trans (h2.mono BB.out.size))
              clear h2
              go_wp2_with fail
              exact ⟨⟨j + 1, by omega, by go_num, RA, RB, RC, RO, RD, RT, RS, BB⟩, by simp [intOf]; omega⟩
            · replace hC := Lib.hid hC
              go_wp2_with fail
              have hq := has_tt (x := (j : Int)) RA.out HLA.out (hA.out)
              refine hq.mono ?_
              rintro e W95 ⟨rfl, h2⟩
              clear hq
              replace RA := Lib.hid (ReadsP.below RA.out h2)
              replace RB := Lib.hid (ReadsP.below RB.out h2)
              replace RC := Lib.hid (ReadsP.below RC.out h2)
              replace RO := Lib.hid (ReadsP.below RO.out h2)
              replace RD := Lib.hid (ReadsP.below RD.out h2)
              replace RT := Lib.hid (ReadsP.below RT.out h2)
              replace RS := Lib.hid (ReadsP.below RS.out h2)
              replace BB := Lib.hid (BB.out.trans (h2.mono BB.out.size))
              clear h2
              go_wp2_with fail
              have hq := has_ff (x := (j : Int)) RB.out HLB.out (hB.out)
              refine hq.mono ?_
              rintro e W96 ⟨rfl, h2⟩
              clear hq
              replace RA := Lib.hid (ReadsP.below RA.out h2)
              replace RB := Lib.hid (ReadsP.below RB.out h2)
              replace RC := Lib.hid (ReadsP.below RC.out h2)
              replace RO := Lib.hid (ReadsP.below RO.out h2)
              replace RD := Lib.hid (ReadsP.below RD.out h2)
              replace RT := Lib.hid (ReadsP.below RT.out h2)
              replace RS := Lib.hid (ReadsP.below RS.out h2)
              replace BB := Lib.hid (BB.out.trans (h2.mono BB.out.size))
              clear h2
              go_wp2_with fail
              have hq := has_ff (x := (j : Int)) RC.out HLC.out (hC.out)
              refine hq.mono ?_
              rintro e W97 ⟨rfl, h2⟩
              clear hq
              replace RA := Lib.hid (ReadsP.below RA.out h2)
              replace RB := Lib.hid (ReadsP.below RB.out h2)
              replace RC := Lib.hid (ReadsP.below RC.out h2)
              replace RO := Lib.hid (ReadsP.below RO.out h2)
              replace RD := Lib.hid (ReadsP.below RD.out h2)
              replace RT := Lib.hid (ReadsP.below RT.out h2)
              replace RS := Lib.hid (ReadsP.below RS.out h2)
              replace BB := Lib.hid (BB.out.trans (h2.mono BB.out.size))
              clear h2
              go_wp2_with fail
              have hq := has_tt (x := (j : Int)) RO.out HLO.out (show inS LO ((j : Int)) from (MO.out _).2 (by simp [AnyIn, HU.out, hA.out, hB.out, hC.out]))
              refine hq.mono ?_
              rintro e W98 ⟨rfl, h2⟩
              clear hq
              replace RA := Lib.hid (ReadsP.below RA.out h2)
              replace RB := Lib.hid (ReadsP.below RB.out h2)
              replace RC := Lib.hid (ReadsP.below RC.out h2)
              replace RO := Lib.hid (ReadsP.below RO.out h2)
              replace RD := Lib.hid (ReadsP.below RD.out h2)
              replace RT := Lib.hid (ReadsP.below RT.out h2)
              replace RS := Lib.hid (ReadsP.below RS.out h2)
              replace BB := Lib.hid (BB.out.trans (h2.mono BB.out.size))
              clear h2
              go_wp2_with fail
              have hq := has_ff (x := (j : Int)) RD.out HLD.out (show ¬ inS LD ((j : Int)) from fun h => by have := (MD.out _).1 h; simp [AnyIn, HU.out, hA.out, hB.out, hC.out] at this)
              refine hq.mono ?_
              rintro e W99 ⟨rfl, h2⟩
              clear hq
              replace RA := Lib.hid (ReadsP.below RA.out h2)
              replace RB := Lib.hid (ReadsP.below RB.out h2)
              replace RC := Lib.hid (ReadsP.below RC.out h2)
              replace RO := Lib.hid (ReadsP.below RO.out h2)
              replace RD := Lib.hid (ReadsP.below RD.out h2)
              replace RT := Lib.hid (ReadsP.below RT.out h2)
              replace RS := Lib.hid (ReadsP.below RS.out h2)
              replace BB := Lib.hid (BB.out.trans (h2.mono BB.out.size))
              clear h2
              go_wp2_with fail
              have hq := has_ff (x := (j : Int)) RT.out HLT.out (show ¬ inS LT ((j : Int)) from fun h => by have := (MT.out _).1 h; simp [AnyIn, HU.out, hA.out, hB.out, hC.out] at this)
              refine hq.mono ?_
              rintro e W100 ⟨rfl, h2⟩
              clear hq
              replace RA := Lib.hid (ReadsP.below RA.out h2)
              replace RB := Lib.hid (ReadsP.below RB.out h2)
              replace RC := Lib.hid (ReadsP.below RC.out h2)
              replace RO := Lib.hid (ReadsP.below RO.out h2)
              replace RD := Lib.hid (ReadsP.below RD.out h2)
              replace RT := Lib.hid (ReadsP.below RT.out h2)
              replace RS := Lib.hid (ReadsP.below RS.out h2)
              replace BB := Lib.hid (BB.out.trans (h2.mono BB.out.size))
              clear h2
              go_wp2_with fail
              have hq := has_tt (x := (j : Int)) RS.out HLS.out (show inS LS ((j : Int)) from (MS.out _).2 (by simp [AnyIn, HU.out, hA.out, hB.out, hC.out]))
              refine hq.mono ?_
              rintro e W101 ⟨rfl, h2⟩
              clear hq
              replace RA := Lib.hid (ReadsP.below RA.out h2)
              replace RB := Lib.hid (ReadsP.below RB.out h2)
              replace RC := Lib.hid (ReadsP.below RC.out h2)
              replace RO := Lib.hid (ReadsP.below RO.out h2)
              replace RD := Lib.hid (ReadsP.below RD.out h2)
              replace RT := Lib.hid (ReadsP.below RT.out h2)
              replace RS := Lib.hid (ReadsP.below RS.out h2)
              replace BB := Lib.hid (BB.out.trans (h2.mono BB.out.size))
              clear h2
              go_wp2_with fail
              exact ⟨⟨j + 1, by omega, by go_num, RA, RB, RC, RO, RD, RT, RS, BB⟩, by simp [intOf]; omega⟩
        · replace hA := Lib.hid hA
          by_cases hB : inS LB ((j : Int))
          · replace hB := Lib.hid hB
            by_cases hC : inS LC ((j : Int))
            · replace hC := Lib.hid hC
              go_wp2_with fail
              have hq := has_ff (x := (j : Int)) RA.out HLA.out (hA.out)
              refine hq.mono ?_
              rintro e W102 ⟨rfl, h2⟩
              clear hq
              replace RA := Lib.hid (ReadsP.below RA.out h2)
              replace RB := Lib.hid (ReadsP.below RB.out h2)
              replace RC := Lib.hid (ReadsP.below RC.out h2)
              replace RO := Lib.hid (ReadsP.below RO.out h2)
              replace RD := Lib.hid (ReadsP.below RD.out h2)
              replace RT := Lib.hid (ReadsP.below RT.out h2)
              replace RS := Lib.hid (ReadsP.below RS.out h2)
              replace BB := Lib.hid (BB.out.trans (h2.mono BB.out.size))
              clear h2
              go_wp2_with fail
              have hq := has_tt (x := (j : Int)) RB.out HLB.out (hB.out)
              refine hq.mono ?_
              rintro e W103 ⟨rfl, h2⟩
              clear hq
              replace RA := Lib.hid (ReadsP.below RA.out h2)
              replace RB := Lib.hid (ReadsP.below RB.out h2)
              replace RC := Lib.hid (ReadsP.below RC.out h2)
              replace RO := Lib.hid (ReadsP.below RO.out h2)
              replace RD := Lib.hid (ReadsP.below RD.out h2)
              replace RT := Lib.hid (ReadsP.below RT.out h2)
              replace RS := Lib.hid (ReadsP.below RS.out h2)
              replace BB := Lib.hid (BB.out.trans (h2.mono BB.out.size))
              clear h2
              go_wp2_with fail
              have hq := has_tt (x := (j : Int)) RC.out HLC.out (hC.out)
              refine hq.mono ?_
              rintro e W104 ⟨rfl, h2⟩
              clear hq
              replace RA := Lib.hid (ReadsP.below RA.out h2)
              replace RB := Lib.hid (ReadsP.below RB.out h2)
              replace RC := Lib.hid (ReadsP.below RC.out h2)
              replace RO := Lib.hid (ReadsP.below RO.out h2)
              replace RD := Lib.hid (ReadsP.below RD.out h2)
              replace RT := Lib.hid (ReadsP.below RT.out h2)
              replace RS := Lib.hid (ReadsP.below RS.out h2)
              replace BB := Lib.hid (BB.out.trans (h2.mono BB.out.size))
              clear h2
              go_wp2_with fail
              have hq := has_tt (x := (j : Int)) RO.out HLO.out (show inS LO ((j : Int)) from (MO.out _).2 (by simp [AnyIn, HU.out, hA.out, hB.out, hC.out]))
              refine hq.mono ?_
              rintro e W105 ⟨rfl, h2⟩
              clear hq
              replace RA := Lib.hid (ReadsP.below RA.out h2)
              replace RB := Lib.hid (ReadsP.below RB.out h2)
              replace RC := Lib.hid (ReadsP.below RC.out h2)
              replace RO := Lib.hid (ReadsP.below RO.out h2)
              replace RD := Lib.hid (ReadsP.below RD.out h2)
              replace RT := Lib.hid (ReadsP.below RT.out h2)
              replace RS := Lib.hid (ReadsP.below RS.out h2)
              replace BB := Lib.hid (BB.out.trans (h2.mono BB.out.size))
              clear h2
              go_wp2_with fail
              have hq := has_ff (x := (j : Int)) RD.out HLD.out (show ¬ inS LD ((j : Int)) from fun h => by have := (MD.out _).1 h; simp [AnyIn, HU.out, hA.out, hB.out, hC.out] at this)
              refine hq.mono ?_
              rintro e W106 ⟨rfl, h2⟩
              clear hq
              replace RA := Lib.hid (ReadsP.below RA.out h2)
              replace RB := Lib.hid (ReadsP.below RB.out h2)
              replace RC := Lib.hid (ReadsP.below RC.out h2)
              replace RO := Lib.hid (ReadsP.below RO.out h2)
              replace RD := Lib.hid (ReadsP.below RD.out h2)
              replace RT := Lib.hid (ReadsP.below RT.out h2)
              replace RS := Lib.hid (ReadsP.below RS.out h2)
              replace BB := Lib.hid (BB.out.trans (h2.mono BB.out.size))
              clear h2
              go_wp2_with fail
              have hq := has_tt (x := (j : Int)) RT.out HLT.out (show inS LT ((j : Int)) from (MT.out _).2 (by simp [AnyIn, HU.out, hA.out, hB.out, hC.out]))
              refine hq.mono ?_
              rintro e W107 ⟨rfl, h2⟩
              clear hq
              replace RA := Lib.hid (ReadsP.below RA.out h2)
              replace RB := Lib.hid (ReadsP.below RB.out h2)
              replace RC := Lib.hid (ReadsP.below RC.out h2)
              replace RO := Lib.hid (ReadsP.below RO.out h2)
              replace RD := Lib.hid (ReadsP.below RD.out h2)
              replace RT := Lib.hid (ReadsP.below RT.out h2)
              replace RS := Lib.hid (ReadsP.below RS.out h2)
              replace BB := Lib.hid (BB.out.trans (h2.mono BB.out.size))
              clear h2
              go_wp2_with fail
              have hq := has_ff (x := (j : Int)) RS.out HLS.out (show ¬ inS LS ((j : Int)) from fun h => by have := (MS.out _).1 h; simp [AnyIn, HU.out, hA.out, hB.out, hC.out] at this)
              refine hq.mono ?_
              rintro e W108 ⟨rfl, h2⟩
              clear hq
              replace RA := Lib.hid (ReadsP.below RA.out h2)
              replace RB := Lib.hid (ReadsP.below RB.out h2)
              replace RC := Lib.hid (ReadsP.below RC.out h2)
              replace RO := Lib.hid (ReadsP.below RO.out h2)
              replace RD := Lib.hid (ReadsP.below RD.out h2)
              replace RT := Lib.hid (ReadsP.below RT.out h2)
              replace RS := Lib.hid (ReadsP.below RS.out h2)
              replace BB := Lib.hid (BB.out.trans (h2.mono BB.out.size))
              clear h2
              go_wp2_with fail
              exact ⟨⟨j + 1, by omega, by go_num, RA, RB, RC, RO, RD, RT, RS, BB⟩, by simp [intOf]; omega⟩
            · replace hC := Lib.hid hC
              go_wp2_with fail
              have hq := has_ff (x := (j : Int)) RA.out HLA.out (hA.out)
              refine hq.mono ?_
              rintro e W109 ⟨rfl, h2⟩
              clear hq
              replace RA := Lib.hid (ReadsP.below RA.out h2)
              replace RB := Lib.hid (ReadsP.below RB.out h2)
              replace RC := Lib.hid (ReadsP.below RC.out h2)
              replace RO := Lib.hid (ReadsP.below RO.out h2)
              replace RD := Lib.hid (ReadsP.below RD.out h2)
              replace RT := Lib.hid (ReadsP.below RT.out h2)
              replace RS := Lib.hid (ReadsP.below RS.out h2)
              replace BB := Lib.hid (BB.out.trans (h2.mono BB.out.size))
              clear h2
              go_wp2_with fail
              have hq := has_tt (x := (j : Int)) RB.out HLB.out (hB.out)
              refine hq.mono ?_
              rintro e W110 ⟨rfl, h2⟩
              clear hq
              replace RA := Lib.hid (ReadsP.below RA.out h2)
              replace RB := Lib.hid (ReadsP.below RB.out h2)
              replace RC := Lib.hid (ReadsP.below RC.out h2)
              replace RO := Lib.hid (ReadsP.below RO.out h2)
              replace RD := Lib.hid (ReadsP.below RD.out h2)
              replace RT := Lib.hid (ReadsP.below RT.out h2)
              replace RS := Lib.hid (ReadsP.below RS.out h2)
              replace BB := Lib.hid (BB.out.trans (h2.mono BB.out.size))
              clear h2
              go_wp2_with fail
              have hq := has_ff (x := (j : Int)) RC.out HLC.out (hC.out)
              refine hq.mono ?_
              rintro e W111 ⟨rfl, h2⟩
              clear hq
              replace RA := Lib.hid (ReadsP.below RA.out h2)
              replace RB := Lib.hid (ReadsP.below RB.out h2)
              replace RC := Lib.hid (ReadsP.below RC.out h2)
              replace RO := Lib.hid (ReadsP.below RO.out h2)
              replace RD := Lib.hid (ReadsP.below RD.out h2)
              replace RT := Lib.hid (ReadsP.below RT.out h2)
              replace RS := Lib.hid (ReadsP.below RS.out h2)
              replace BB := Lib.hid (BB.out.trans (h2.mono BB.out.size))
              clear h2
              go_wp2_with fail
              have hq := has_tt (x := (j : Int)) RO.out HLO.out (show inS LO ((j : Int)) from (MO.out _).2 (by simp [AnyIn, HU.out, hA.out, hB.out, hC.out]))
              refine hq.mono ?_
              rintro e W112 ⟨rfl, h2⟩
              clear hq
              replace RA := Lib.hid (ReadsP.below RA.out h2)
              replace RB := Lib.hid (ReadsP.below RB.out h2)
              replace RC := Lib.hid (ReadsP.below RC.out h2)
              replace RO := Lib.hid (ReadsP.below RO.out h2)
              replace RD := Lib.hid (ReadsP.below RD.out h2)
              replace RT := Lib.hid (ReadsP.below RT.out h2)
              replace RS := Lib.hid (ReadsP.below RS.out h2)
              replace BB := Lib.hid (BB.out.trans (h2.mono BB.out.size))
              clear h2
              go_wp2_with fail
              have hq := has_ff (x := (j : Int)) RD.out HLD.out (show ¬ inS LD ((j : Int)) from fun h => by have := (MD.out _).1 h; simp [AnyIn, HU.out, hA.out, hB.out, hC.out] at this)
              refine hq.mono ?_
              rintro e W113 ⟨rfl, h2⟩
              clear hq
              replace RA := Lib.hid (ReadsP.below RA.out h2)
              replace RB := Lib.hid (ReadsP.below RB.out h2)
              replace RC := Lib.hid (ReadsP.below RC.out h2)
              replace RO := Lib.hid (ReadsP.below RO.out h2)
              replace RD := Lib.hid (ReadsP.below RD.out h2)
              replace RT := Lib.hid (ReadsP.below RT.out h2)
              replace RS := Lib.hid (ReadsP.below RS.out h2)
              replace BB := Lib.hid (BB.out.trans (h2.mono BB.out.size))
              clear h2
              go_wp2_with fail
              have hq := has_tt (x := (j : Int)) RT.out HLT.out (show inS LT ((j : Int)) from (MT.out _).2 (by simp [AnyIn, HU.out, hA.out, hB.out, hC.out]))
              refine hq.mono ?_
              rintro e W114 ⟨rfl, h2⟩
              clear hq
              replace RA := Lib.hid (ReadsP.below RA.out h2)
              replace RB := Lib.hid (ReadsP.below RB.out h2)
              replace RC := Lib.hid (ReadsP.below RC.out h2)
              replace RO := Lib.hid (ReadsP.below RO.out h2)
              replace RD := Lib.hid (ReadsP.below RD.out h2)
              replace RT := Lib.hid (ReadsP.below RT.out h2)
              replace RS := Lib.hid (ReadsP.below RS.out h2)
              replace BB := Lib.hid (BB.out.trans (h2.mono BB.out.size))
              clear h2
              go_wp2_with fail
              have hq := has_ff (x := (j : Int)) RS.out HLS.out (show ¬ inS LS ((j : Int)) from fun h => by have := (MS.out _).1 h; simp [AnyIn, HU.out, hA.out, hB.out, hC.out] at this)
              refine hq.mono ?_
              rintro e W115 ⟨rfl, h2⟩
              clear hq
              replace RA := Lib.hid (ReadsP.below RA.out h2)
              replace RB := Lib.hid (ReadsP.below RB.out h2)
              replace RC := Lib.hid (ReadsP.below RC.out h2)
              replace RO := Lib.hid (ReadsP.below RO.out h2)
              replace RD := Lib.hid (ReadsP.below RD.out h2)
              replace RT := Lib.hid (ReadsP.below RT.out h2)
              replace RS := Lib.hid (ReadsP.below RS.out h2)
              replace BB := Lib.hid (BB.out.trans (h2.mono BB.out.size))
              clear h2
              go_wp2_with fail
              exact ⟨⟨j + 1, by omega, by go_num, RA, RB, RC, RO, RD, RT, RS, BB⟩, by simp [intOf]; omega⟩
          · replace hB := Lib.hid hB
            by_cases hC : inS LC ((j : Int))
            · replace hC := Lib.hid hC
              go_wp2_with fail
              have hq := has_ff (x := (j : Int)) RA.out HLA.out (hA.out)
              refine hq.mono ?_
              rintro e W116 ⟨rfl, h2⟩
              clear hq
              replace RA := Lib.hid (ReadsP.below RA.out h2)
              replace RB := Lib.hid (ReadsP.below RB.out h2)
              replace RC := Lib.hid (ReadsP.below RC.out h2)
              replace RO := Lib.hid (ReadsP.below RO.out h2)
              replace RD := Lib.hid (ReadsP.below RD.out h2)
              replace RT := Lib.hid (ReadsP.below RT.out h2)
              replace RS := Lib.hid (ReadsP.below RS.out h2)
              replace BB := Lib.hid (BB.out.trans (h2.mono BB.out.size))
              clear h2
              go_wp2_with fail
              have hq := has_ff (x := (j : Int)) RB.out HLB.out (hB.out)
              refine hq.mono ?_
              rintro e W117 ⟨rfl, h2⟩
              clear hq
              replace RA := Lib.hid (ReadsP.below RA.out h2)
              replace RB := Lib.hid (ReadsP.below RB.out h2)
              replace RC := Lib.hid (ReadsP.below RC.out h2)
              replace RO := Lib.hid (ReadsP.below RO.out h2)
              replace RD := Lib.hid (ReadsP.below RD.out h2)
              replace RT := Lib.hid (ReadsP.below RT.out h2)
              replace RS := Lib.hid (ReadsP.below RS.out h2)
              replace BB := Lib.hid (BB.out.trans (h2.mono BB.out.size))
              clear h2
              go_wp2_with fail
              have hq := has_tt (x := (j : Int)) RC.out HLC.out (hC.out)
              refine hq.mono ?_
              rintro e W118 ⟨rfl, h2⟩
              clear hq
              replace RA := Lib.hid (ReadsP.below RA.out h2)
              replace RB := Lib.hid (ReadsP.below RB.out h2)
              replace RC := Lib.hid (ReadsP.below RC.out h2)
              replace RO := Lib.hid (ReadsP.below RO.out h2)
              replace RD := Lib.hid (ReadsP.below RD.out h2)
              replace RT := Lib.hid (ReadsP.below RT.out h2)
              replace RS := Lib.hid (ReadsP.below RS.out h2)
              replace BB := Lib.hid (BB.out.trans (h2.mono BB.out.size))
              clear h2
              go_wp2_with fail
              have hq := has_tt (x := (j : Int)) RO.out HLO.out (show inS LO ((j : Int)) from (MO.out _).2 (by simp [AnyIn, HU.out, hA.out, hB.out, hC.out]))
              refine hq.mono ?_
              rintro e W119 ⟨rfl, h2⟩
              clear hq
              replace RA := Lib.hid (ReadsP.below RA.out h2)
              replace RB := Lib.hid (ReadsP.below RB.out h2)
              replace RC := Lib.hid (ReadsP.below RC.out h2)
              replace RO := Lib.hid (ReadsP.below RO.out h2)
              replace RD := Lib.hid (ReadsP.below RD.out h2)
              replace RT := Lib.hid (ReadsP.below RT.out h2)
              replace RS := Lib.hid (ReadsP.below RS.out h2)
              replace BB := Lib.hid (BB.out.trans (h2.mono BB.out.size))
              clear h2
              go_wp2_with fail
              have hq := has_ff (x := (j : Int)) RD.out HLD.out (show ¬ inS LD ((j : Int)) from fun h => by have := (MD.out _).1 h; simp [AnyIn, HU.out, hA.out, hB.out, hC.out] at this)
              refine hq.mono ?_
              rintro e W120 ⟨rfl, h2⟩
              clear hq
              replace RA := Lib.hid (ReadsP.below RA.out h2)
              replace RB := Lib.hid (ReadsP.below RB.out h2)
              replace RC := Lib.hid (ReadsP.below RC.out h2)
              replace RO := Lib.hid (ReadsP.below RO.out h2)
              replace RD := Lib.hid (ReadsP.below RD.out h2)
              replace RT := Lib.hid (ReadsP.below RT.out h2)
              replace RS := Lib.hid (ReadsP.below RS.out h2)
              replace BB := Lib.hid (BB.out.trans (h2.mono BB.out.size))
              clear h2
              go_wp2_with fail
              have hq := has_tt (x := (j : Int)) RT.out HLT.out (show inS LT ((j : Int)) from (MT.out _).2 (by simp [AnyIn, HU.out, hA.out, hB.out, hC.out]))
              refine hq.mono ?_
              rintro e W121 ⟨rfl, h2⟩
              clear hq
              replace RA := Lib.hid (ReadsP.below RA.out h2)
              replace RB := Lib.hid (ReadsP.below RB.out h2)
              replace RC := Lib.hid (ReadsP.below RC.out h2)
              replace RO := Lib.hid (ReadsP.below RO.out h2)
              replace RD := Lib.hid (ReadsP.below RD.out h2)
              replace RT := Lib.hid (ReadsP.below RT.out h2)
              replace RS := Lib.hid (ReadsP.below RS.out h2)
              replace BB := Lib.hid (BB.out.trans (h2.mono BB.out.size))
              clear h2
              go_wp2_with fail
              have hq := has_ff (x := (j : Int)) RS.out HLS.out (show ¬ inS LS ((j : Int)) from fun h => by have := (MS.out _).1 h; simp [AnyIn, HU.out, hA.out, hB.out, hC.out] at this)
              refine hq.mono ?_
              rintro e W122 ⟨rfl, h2⟩
              clear hq
              replace RA := Lib.hid (ReadsP.below RA.out h2)
              replace RB := Lib.hid (ReadsP.below RB.out h2)
              replace RC := Lib.hid (ReadsP.below RC.out h2)
              replace RO := Lib.hid (ReadsP.below RO.out h2)
              replace RD := Lib.hid (ReadsP.below RD.out h2)
              replace RT := Lib.hid (ReadsP.below RT.out h2)
              replace RS := Lib.hid (ReadsP.below RS.out h2)
              replace BB := Lib.hid (BB.out.trans (h2.mono BB.out.size))
              clear h2
              go_wp2_with fail
              exact ⟨⟨j + 1, by omega, by go_num, RA, RB, RC, RO, RD, RT, RS, BB⟩, by simp [intOf]; omega⟩
            · replace hC := Lib.hid hC
              go_wp2_with fail
              have hq := has_ff (x := (j : Int)) RA.out HLA.out (hA.out)
              refine hq.mono ?_
              rintro e W123 ⟨rfl, h2⟩
              clear hq
              replace RA := Lib.hid (ReadsP.below RA.out h2)
              replace RB := Lib.hid (ReadsP.below RB.out h2)
              replace RC := Lib.hid (ReadsP.below RC.out h2)
              replace RO := Lib.hid (ReadsP.below RO.out h2)
              replace RD := Lib.hid (ReadsP.below RD.out h2)
              replace RT := Lib.hid (ReadsP.below RT.out h2)
              replace RS := Lib.hid (ReadsP.below RS.out h2)
              replace BB := Lib.hid (BB.out.trans (h2.mono BB.out.size))
              clear h2
              go_wp2_with fail
              have hq := has_ff (x := (j : Int)) RB.out HLB.out (hB.out)
              refine hq.mono ?_
              rintro e W124 ⟨rfl, h2⟩
              clear hq
              replace RA := Lib.hid (ReadsP.below RA.out h2)
              replace RB := Lib.hid (ReadsP.below RB.out h2)
              replace RC := Lib.hid (ReadsP.below RC.out h2)
              replace RO := Lib.hid (ReadsP.below RO.out h2)
              replace RD := Lib.hid (ReadsP.below RD.out h2)
              replace RT := Lib.hid (ReadsP.below RT.out h2)
              replace RS := Lib.hid (ReadsP.below RS.out h2)
              replace BB := Lib.hid (BB.out.trans (h2.mono BB.out.size))
              clear h2
              go_wp2_with fail
              have hq := has_ff (x := (j : Int)) RC.out HLC.out (hC.out)
              refine hq.mono ?_
              rintro e W125 ⟨rfl, h2⟩
              clear hq
              replace RA := Lib.hid (ReadsP.below RA.out h2)
              replace RB := Lib.hid (ReadsP.below RB.out h2)
              replace RC := Lib.hid (ReadsP.below RC.out h2)
              replace RO := Lib.hid (ReadsP.below RO.out h2)
              replace RD := Lib.hid (ReadsP.below RD.out h2)
              replace RT := Lib.hid (ReadsP.below RT.out h2)
              replace RS := Lib.hid (ReadsP.below RS.out h2)
              replace BB := Lib.hid (BB.out.trans (h2.mono BB.out.size))
              clear h2
              go_wp2_with fail
              have hq := has_ff (x := (j : Int)) RO.out HLO.out (show ¬ inS LO ((j : Int)) from fun h => by have := (MO.out _).1 h; simp [AnyIn, HU.out, hA.out, hB.out, hC.out] at this)
              refine hq.mono ?_
              rintro e W126 ⟨rfl, h2⟩
              clear hq
              replace RA := Lib.hid (ReadsP.below RA.out h2)
              replace RB := Lib.hid (ReadsP.below RB.out h2)
              replace RC := Lib.hid (ReadsP.below RC.out h2)
              replace RO := Lib.hid (ReadsP.below RO.out h2)
              replace RD := Lib.hid (ReadsP.below RD.out h2)
              replace RT := Lib.hid (ReadsP.below RT.out h2)
              replace RS := Lib.hid (ReadsP.below RS.out h2)
              replace BB := Lib.hid (BB.out.trans (h2.mono BB.out.size))
              clear h2
              go_wp2_with fail
              have hq := has_ff (x := (j : Int)) RD.out HLD.out (show ¬ inS LD ((j : Int)) from fun h => by have := (MD.out _).1 h; simp [AnyIn, HU.out, hA.out, hB.out, hC.out] at this)
              refine hq.mono ?_
              rintro e W127 ⟨rfl, h2⟩
              clear hq
              replace RA := Lib.hid (ReadsP.below RA.out h2)
              replace RB := Lib.hid (ReadsP.below RB.out h2)
              replace RC := Lib.hid (ReadsP.below RC.out h2)
              replace RO := Lib.hid (ReadsP.below RO.out h2)
              replace RD := Lib.hid (ReadsP.below RD.out h2)
              replace RT := Lib.hid (ReadsP.below RT.out h2)
              replace RS := Lib.hid (ReadsP.below RS.out h2)
              replace BB := Lib.hid (BB.out.trans (h2.mono BB.out.size))
              clear h2
              go_wp2_with fail
              have hq := has_tt (x := (j : Int)) RT.out HLT.out (show inS LT ((j : Int)) from (MT.out _).2 (by simp [AnyIn, HU.out, hA.out, hB.out, hC.out]))
              refine hq.mono ?_
              rintro e W128 ⟨rfl, h2⟩
              clear hq
              replace RA := Lib.hid (ReadsP.below RA.out h2)
              replace RB := Lib.hid (ReadsP.below RB.out h2)
              replace RC := Lib.hid (ReadsP.below RC.out h2)
              replace RO := Lib.hid (ReadsP.below RO.out h2)
              replace RD := Lib.hid (ReadsP.below RD.out h2)
              replace RT := Lib.hid (ReadsP.below RT.out h2)
              replace RS := Lib.hid (ReadsP.below RS.out h2)
              replace BB := Lib.hid (BB.out.trans (h2.mono BB.out.size))
              clear h2
              go_wp2_with fail
              have hq := has_ff (x := (j : Int)) RS.out HLS.out (show ¬ inS LS ((j : Int)) from fun h => by have := (MS.out _).1 h; simp [AnyIn, HU.out, hA.out, hB.out, hC.out] at this)
              refine hq.mono ?_
              rintro e W129 ⟨rfl, h2⟩
              clear hq
              replace RA := Lib.hid (ReadsP.below RA.out h2)
              replace RB := Lib.hid (ReadsP.below RB.out h2)
              replace RC := Lib.hid (ReadsP.below RC.out h2)
              replace RO := Lib.hid (ReadsP.below RO.out h2)
              replace RD := Lib.hid (ReadsP.below RD.out h2)
              replace RT := Lib.hid (ReadsP.below RT.out h2)
              replace RS := Lib.hid (ReadsP.below RS.out h2)
              replace BB := Lib.hid (BB.out.trans (h2.mono BB.out.size))
              clear h2
              go_wp2_with fail
              exact ⟨⟨j + 1, by omega, by go_num, RA, RB, RC, RO, RD, RT, RS, BB⟩, by simp [intOf]; omega⟩
    · go_wp2_with fail
      go_ret
      exact ⟨rfl, BB.out⟩

end Go.Proofs.Ytkbcepgnjoeneaa
