/- The law PartMore, walked. -/
import Derived.Test.YthbnhdocjnhhlaaPartO
namespace Go.Proofs.Ythbnhdocjnhhlaa
open Go Go.RowKit
set_option linter.unusedVariables false
set_option linter.unusedSimpArgs false

set_option maxRecDepth 100000 in
set_option maxHeartbeats 8000000 in
theorem partMore_walk (a0 : Option Addr) (len0 cap0 : Nat) (z0 : List Int) (a1 : Option Addr) (len1 cap1 : Nat) (z1 : List Int) (a2 : Int) (a3 : Int) (w : World) (w0 : IsRow .i64 w a0 len0 cap0 z0) (w1 : IsRow .i64 w a1 len1 cap1 z1) (w2 : (Lit.int .i64 a2).wf = true) (w3 : (Lit.int .i64 a3).wf = true) :
    Calls Try.prog 9 #[.slice a0 len0 cap0, .slice a1 len1 cap1, .int .i64 a2, .int .i64 a3] w fun e w' => e = .returned (.bool true) ∧ Below w.heap.size w w' := by
  have Q0 := Lib.hid w0; clear w0 w2 w3
  have Q1 := Lib.hid w1; clear w1
  go_enter Try.func9, Try.ntmps9
  go_wp2_with fail
  refine (known4_any w).mono ?_
  rintro e W1 ⟨rfl, h2⟩
  replace Q0 := Lib.hid (IsRow.below Q0.out h2)
  replace Q1 := Lib.hid (IsRow.below Q1.out h2)
  have BB := Lib.hid h2
  clear h2
  go_wp2_with fail
  refine (sets_x (mo := 8) Q0.out (by omega)).mono ?_
  rintro e W2 ⟨v, n, ss, rfl, hr, hn, h1, h2⟩
  replace Q1 := Lib.hid (IsRow.below Q1.out h2)
  have HR := Lib.hid hr
  have RS := Lib.hid h1.readsL
  have HL := Lib.hid h1.readsL.1
  have OS := Lib.hid h1
  obtain ⟨av, cv, rfl⟩ := h1.slice
  replace BB := Lib.hid (BB.out.trans (h2.mono BB.out.size))
  clear h1 h2 hr Q0
  obtain ⟨vals, ov, vo, hln⟩ := OS.out.vals
  have OV := Lib.hid ov; have VO := Lib.hid vo; have H1 := Lib.hid vo.one
  clear ov vo OS
  have HLN := Lib.hid hln; clear hln
  go_wp2_with (at_builtin; refine wpList_concatV rfl (.tmp 21) (.tmp 22) rfl W2.heap.size _ _ _ _ (by rfl) (OwnV.empty W2) _ n vals (by rfl) (OV.out.alloc _) H1.out (by omega) (by simp) ?_
               intro v4 w4 h1 h2 h3 _
               have OT : Hid (OwnV w4 W2.heap.size v4 n vals) := Lib.hid (by have := h1; rw [Nat.zero_add, List.nil_append] at this; exact this)
               have B4 := Lib.hid (((Below.refl _ W2).alloc (Nat.le_refl _) _).trans h2)
               clear h1 h2 h3)
  have hz4 := B4.out.size
  have Q14 := Lib.hid (IsRow.below Q1.out B4.out)
  have RMK : Hid (Rt (mkS z1 len1)) := Lib.hid (mkS_rt _ _)
  refine (make_any Q14.out).mono ?_
  rintro e w5 ⟨v5, rfl, h1, h2⟩
  generalize mkS z1 len1 = M at *
  obtain ⟨a5, c5, e5, -, -, -⟩ := h1.reads.form
  generalize hNN : M.length = N at h1 e5
  have HNN := Lib.hid hNN; clear hNN
  subst e5
  have OM := Lib.hid h1
  have OT5 := Lib.hid (OT.out.below_top h2)
  have B5 := Lib.hid (B4.out.trans (h2.mono hz4))
  have hz5 := B5.out.size
  clear h1 h2 Q14 Q1
  obtain ⟨at4, ct4, e4⟩ := OT.out.slice
  subst e4
  go_wp2_with (at_builtin; refine wpList_concatV rfl (.tmp 23) (.tmp 26) rfl W2.heap.size w5.heap.size _ _ _ (by rfl) (OT5.out.alloc _) _ 1 [.slice a5 N c5] (by rfl) (OwnV.one w5 _) (by simp [Value.oneCell']) (by omega) (by simp; omega) ?_
               intro v6 w6 h1 h2 h3 _
               have OT6 := Lib.hid h1
               have G6 := Lib.hid h3
               have B6 := Lib.hid ((B5.out.alloc hz5 _).trans h2)
               clear h1 h2 h3)
  have OM6 := Lib.hid ((OM.out.alloc (.cells #[.slice a5 N c5] 37)).kept G6.out (by
    cases hob : (Value.slice a5 N c5).ownBlock with
    | none => exact .inl rfl
    | some r =>
      right
      intro e
      have q1 := (OM.out.lt r hob).1
      have q2 := (World.ownsRow.lt OT.out r e.symm).2
      omega))
  have RS6 := Lib.hid (RS.out.below B6.out)
  have VO6 := Lib.hid ((VO.out.below B6.out).append (ValsOf.single (u := .slice a5 N c5) (l := M) (by rw [HNN.out]; exact OM6.out.reads)))
  have RT := Lib.hid (OT6.out.reads VO6.out)
  have HT : Hid (RtAll (ss ++ [M])) := Lib.hid (fun l hl => by
    rcases List.mem_append.1 hl with q | q
    · exact HR.out l q
    · obtain rfl : l = M := by simpa using q
      exact RMK.out)
  replace BB := Lib.hid (BB.out.trans (B6.out.mono BB.out.size))
  have HCM := Lib.hid (cuts_more HR.out RMK.out)
  have HKM := Lib.hid (kinds_more HR.out RMK.out)
  have HMO : Hid (∀ x y, keyL (ss ++ [M]) x = keyL (ss ++ [M]) y → keyL ss x = keyL ss y) := Lib.hid (fun x y h => keyL_more h)
  have hn9 : n + 1 ≤ 13 := by omega
  clear OT OT5 OT6 G6 OM OM6 VO VO6 H1 OV RS B4 B5 B6
  generalize ss ++ [M] = tt at *
  obtain ⟨a6, c6, e6, -, -, -⟩ := RT.out.form
  subst e6
  go_wp2_with fail
  refine (cuts_x RS6.out HR.out (by omega)).mono ?_
  rintro e W7 ⟨ma, aca, cca, ala, cla, rfl, hma, r1, r2, h3⟩
  have RCa := Lib.hid r1; have RLa := Lib.hid r2
  replace RT := Lib.hid (RT.out.below h3)
  replace BB := Lib.hid (BB.out.trans (h3.mono BB.out.size))
  clear r1 r2 h3
  go_wp2_with fail
  refine (cuts_x RT.out HT.out (by omega)).mono ?_
  rintro e W8 ⟨mb, acb, ccb, alb, clb, rfl, hmb, r1, r2, h3⟩
  have RCb := Lib.hid r1; have RLb := Lib.hid r2
  replace RCa := Lib.hid (RCa.out.below h3)
  replace RLa := Lib.hid (RLa.out.below h3)
  replace BB := Lib.hid (BB.out.trans (h3.mono BB.out.size))
  clear r1 r2 h3
  have hx1 := wth_inN a2 70 (by omega) (by omega)
  have hx2 := wth_inN a3 1114112 (by omega) (by omega)
  have hx3 := wth_inN a3 70 (by omega) (by omega)
  have hw3 := wth_bd a3 3 (by omega)
  go_wp2_with fail
  refine (within4_any _ _ (by omega) (by omega) _).mono ?_
  rintro e w' ⟨rfl, rfl⟩
  go_wp2_with fail
  refine (within4_any _ _ (by omega) (by omega) _).mono ?_
  rintro e w' ⟨rfl, rfl⟩
  go_wp2_with fail
  refine (within4_any _ _ (by omega) (by omega) _).mono ?_
  rintro e w' ⟨rfl, rfl⟩
  have HX := Lib.hid hx1; have HX2 := Lib.hid hx2; have HX3 := Lib.hid hx3
  clear hx1 hx2 hx3
  have HMA := Lib.hid (show ma ≤ mb by rw [← RCa.out.1, ← RCb.out.1]; exact HCM.out)
  have hmab := HMA.out
  generalize wth a2 70 = x at *
  generalize wth a3 1114112 = y1 at *
  generalize wth a3 3 = c3 at *
  by_cases hc : 0 < c3
  · go_wp2_with fail
    refine (within4_any _ _ (by omega) (by omega) _).mono ?_
    rintro e w' ⟨rfl, rfl⟩
    generalize wth a3 70 = y at *
    have HY := HX3
    clear HX2 HX3 hc hw3
    have HI1 := Lib.hid (letOf_inj HR.out x y HX.out.1 HX.out.2)
    have HI2 := Lib.hid (letOf_inj HT.out x y HX.out.1 HX.out.2)
    have HPQ : Hid (letOf tt x = letOf tt y → letOf ss x = letOf ss y) := Lib.hid (fun h => HI1.out.2 (HMO.out _ _ (HI2.out.1 h)))
    have P1 := Lib.hid (fun (W : World) (h1 : ReadsI W (.slice aca ma cca) ma (cutsL ss)) (h2 : ReadsI W (.slice ala ma cla) ma (letsL ss)) => plet_x HR.out h1 h2 (by omega) HX.out)
    have P2 := Lib.hid (fun (W : World) (h1 : ReadsI W (.slice aca ma cca) ma (cutsL ss)) (h2 : ReadsI W (.slice ala ma cla) ma (letsL ss)) => plet_x HR.out h1 h2 (by omega) HY.out)
    have P3 := Lib.hid (fun (W : World) (h1 : ReadsI W (.slice acb mb ccb) mb (cutsL tt)) (h2 : ReadsI W (.slice alb mb clb) mb (letsL tt)) => plet_x HT.out h1 h2 (by omega) HX.out)
    have P4 := Lib.hid (fun (W : World) (h1 : ReadsI W (.slice acb mb ccb) mb (cutsL tt)) (h2 : ReadsI W (.slice alb mb clb) mb (letsL tt)) => plet_x HT.out h1 h2 (by omega) HY.out)
    have C1 := Lib.hid (fun (W : World) (h2 : ReadsI W (.slice ala ma cla) ma (letsL ss)) => pcount_x h2 (by omega))
    have C2 := Lib.hid (fun (W : World) (h2 : ReadsI W (.slice alb mb clb) mb (letsL tt)) => pcount_x h2 (by omega))
    generalize letOf ss x = p1 at *
    generalize letOf ss y = p2 at *
    generalize letOf tt x = p3 at *
    generalize letOf tt y = p4 at *
    have hK := HKM.out
    generalize (kindsL ss).length = K1 at *
    generalize (kindsL tt).length = K2 at *
    clear HI1 HI2 HMO HKM
    go_wp2_with fail
    refine (P1.out _ RCa.out RLa.out).mono ?_
    rintro e W11 ⟨rfl, h3⟩
    replace RCa := Lib.hid (RCa.out.below h3)
    replace RLa := Lib.hid (RLa.out.below h3)
    replace RCb := Lib.hid (RCb.out.below h3)
    replace RLb := Lib.hid (RLb.out.below h3)
    replace BB := Lib.hid (BB.out.trans (h3.mono BB.out.size))
    clear h3
    go_wp2_with fail
    refine (P2.out _ RCa.out RLa.out).mono ?_
    rintro e W12 ⟨rfl, h3⟩
    replace RCa := Lib.hid (RCa.out.below h3)
    replace RLa := Lib.hid (RLa.out.below h3)
    replace RCb := Lib.hid (RCb.out.below h3)
    replace RLb := Lib.hid (RLb.out.below h3)
    replace BB := Lib.hid (BB.out.trans (h3.mono BB.out.size))
    clear h3
    by_cases hpq : p1 = p2
    · subst hpq
      have e1 : ((p1 : Int) == (p1 : Int)) = true := by simp
      go_wp2_with fail
      refine (C2.out _ RLb.out).mono ?_
      rintro e W13 ⟨rfl, h3⟩
      replace RLa := Lib.hid (RLa.out.below h3)
      replace BB := Lib.hid (BB.out.trans (h3.mono BB.out.size))
      clear h3
      go_wp2_with fail
      refine (C1.out _ RLa.out).mono ?_
      rintro e W14 ⟨rfl, h3⟩
      replace BB := Lib.hid (BB.out.trans (h3.mono BB.out.size))
      clear h3
      go_wp2_with fail
      go_ret
      exact ⟨rfl, BB.out⟩
    · have e1 : ((p1 : Int) == (p2 : Int)) = false := by simp; omega
      have n1 : ¬ (p1 : Int) = (p2 : Int) := by omega
      have hp34 : p3 ≠ p4 := fun h => hpq (HPQ.out h)
      have e2 : ((p3 : Int) == (p4 : Int)) = false := by simp; omega
      have e3 : ((p3 : Int) != (p4 : Int)) = true := by simp; omega
      have n2 : ¬ (p3 : Int) = (p4 : Int) := by omega
      go_wp2_with fail
      refine (P3.out _ RCb.out RLb.out).mono ?_
      rintro e W13 ⟨rfl, h3⟩
      replace RCb := Lib.hid (RCb.out.below h3)
      replace RLb := Lib.hid (RLb.out.below h3)
      replace RLa := Lib.hid (RLa.out.below h3)
      replace BB := Lib.hid (BB.out.trans (h3.mono BB.out.size))
      clear h3
      go_wp2_with fail
      refine (P4.out _ RCb.out RLb.out).mono ?_
      rintro e W14 ⟨rfl, h3⟩
      replace RLb := Lib.hid (RLb.out.below h3)
      replace RLa := Lib.hid (RLa.out.below h3)
      replace BB := Lib.hid (BB.out.trans (h3.mono BB.out.size))
      clear h3
      go_wp2_with fail
      refine (C2.out _ RLb.out).mono ?_
      rintro e W15 ⟨rfl, h3⟩
      replace RLa := Lib.hid (RLa.out.below h3)
      replace BB := Lib.hid (BB.out.trans (h3.mono BB.out.size))
      clear h3
      go_wp2_with fail
      refine (C1.out _ RLa.out).mono ?_
      rintro e W16 ⟨rfl, h3⟩
      replace BB := Lib.hid (BB.out.trans (h3.mono BB.out.size))
      clear h3
      go_wp2_with fail
      go_ret
      exact ⟨rfl, BB.out⟩
  · obtain ⟨y, hy⟩ : ∃ y, y = y1 := ⟨_, rfl⟩
    subst hy
    have HY := HX2
    clear HX2 HX3
    have HI1 := Lib.hid (letOf_inj HR.out x y HX.out.1 HX.out.2)
    have HI2 := Lib.hid (letOf_inj HT.out x y HX.out.1 HX.out.2)
    have HPQ : Hid (letOf tt x = letOf tt y → letOf ss x = letOf ss y) := Lib.hid (fun h => HI1.out.2 (HMO.out _ _ (HI2.out.1 h)))
    have P1 := Lib.hid (fun (W : World) (h1 : ReadsI W (.slice aca ma cca) ma (cutsL ss)) (h2 : ReadsI W (.slice ala ma cla) ma (letsL ss)) => plet_x HR.out h1 h2 (by omega) HX.out)
    have P2 := Lib.hid (fun (W : World) (h1 : ReadsI W (.slice aca ma cca) ma (cutsL ss)) (h2 : ReadsI W (.slice ala ma cla) ma (letsL ss)) => plet_x HR.out h1 h2 (by omega) HY.out)
    have P3 := Lib.hid (fun (W : World) (h1 : ReadsI W (.slice acb mb ccb) mb (cutsL tt)) (h2 : ReadsI W (.slice alb mb clb) mb (letsL tt)) => plet_x HT.out h1 h2 (by omega) HX.out)
    have P4 := Lib.hid (fun (W : World) (h1 : ReadsI W (.slice acb mb ccb) mb (cutsL tt)) (h2 : ReadsI W (.slice alb mb clb) mb (letsL tt)) => plet_x HT.out h1 h2 (by omega) HY.out)
    have C1 := Lib.hid (fun (W : World) (h2 : ReadsI W (.slice ala ma cla) ma (letsL ss)) => pcount_x h2 (by omega))
    have C2 := Lib.hid (fun (W : World) (h2 : ReadsI W (.slice alb mb clb) mb (letsL tt)) => pcount_x h2 (by omega))
    generalize letOf ss x = p1 at *
    generalize letOf ss y = p2 at *
    generalize letOf tt x = p3 at *
    generalize letOf tt y = p4 at *
    have hK := HKM.out
    generalize (kindsL ss).length = K1 at *
    generalize (kindsL tt).length = K2 at *
    clear HI1 HI2 HMO HKM
    go_wp2_with fail
    refine (P1.out _ RCa.out RLa.out).mono ?_
    rintro e W11 ⟨rfl, h3⟩
    replace RCa := Lib.hid (RCa.out.below h3)
    replace RLa := Lib.hid (RLa.out.below h3)
    replace RCb := Lib.hid (RCb.out.below h3)
    replace RLb := Lib.hid (RLb.out.below h3)
    replace BB := Lib.hid (BB.out.trans (h3.mono BB.out.size))
    clear h3
    go_wp2_with fail
    refine (P2.out _ RCa.out RLa.out).mono ?_
    rintro e W12 ⟨rfl, h3⟩
    replace RCa := Lib.hid (RCa.out.below h3)
    replace RLa := Lib.hid (RLa.out.below h3)
    replace RCb := Lib.hid (RCb.out.below h3)
    replace RLb := Lib.hid (RLb.out.below h3)
    replace BB := Lib.hid (BB.out.trans (h3.mono BB.out.size))
    clear h3
    by_cases hpq : p1 = p2
    · subst hpq
      have e1 : ((p1 : Int) == (p1 : Int)) = true := by simp
      go_wp2_with fail
      refine (C2.out _ RLb.out).mono ?_
      rintro e W13 ⟨rfl, h3⟩
      replace RLa := Lib.hid (RLa.out.below h3)
      replace BB := Lib.hid (BB.out.trans (h3.mono BB.out.size))
      clear h3
      go_wp2_with fail
      refine (C1.out _ RLa.out).mono ?_
      rintro e W14 ⟨rfl, h3⟩
      replace BB := Lib.hid (BB.out.trans (h3.mono BB.out.size))
      clear h3
      go_wp2_with fail
      go_ret
      exact ⟨rfl, BB.out⟩
    · have e1 : ((p1 : Int) == (p2 : Int)) = false := by simp; omega
      have n1 : ¬ (p1 : Int) = (p2 : Int) := by omega
      have hp34 : p3 ≠ p4 := fun h => hpq (HPQ.out h)
      have e2 : ((p3 : Int) == (p4 : Int)) = false := by simp; omega
      have e3 : ((p3 : Int) != (p4 : Int)) = true := by simp; omega
      have n2 : ¬ (p3 : Int) = (p4 : Int) := by omega
      go_wp2_with fail
      refine (P3.out _ RCb.out RLb.out).mono ?_
      rintro e W13 ⟨rfl, h3⟩
      replace RCb := Lib.hid (RCb.out.below h3)
      replace RLb := Lib.hid (RLb.out.below h3)
      replace RLa := Lib.hid (RLa.out.below h3)
      replace BB := Lib.hid (BB.out.trans (h3.mono BB.out.size))
      clear h3
      go_wp2_with fail
      refine (P4.out _ RCb.out RLb.out).mono ?_
      rintro e W14 ⟨rfl, h3⟩
      replace RLb := Lib.hid (RLb.out.below h3)
      replace RLa := Lib.hid (RLa.out.below h3)
      replace BB := Lib.hid (BB.out.trans (h3.mono BB.out.size))
      clear h3
      go_wp2_with fail
      refine (C2.out _ RLb.out).mono ?_
      rintro e W15 ⟨rfl, h3⟩
      replace RLa := Lib.hid (RLa.out.below h3)
      replace BB := Lib.hid (BB.out.trans (h3.mono BB.out.size))
      clear h3
      go_wp2_with fail
      refine (C1.out _ RLa.out).mono ?_
      rintro e W16 ⟨rfl, h3⟩
      replace BB := Lib.hid (BB.out.trans (h3.mono BB.out.size))
      clear h3
      go_wp2_with fail
      go_ret
      exact ⟨rfl, BB.out⟩

end Go.Proofs.Ythbnhdocjnhhlaa
