/- The law PartAll, walked. -/
import Derived.Test.YthbnhdocjnhhlaaPartS
namespace Go.Proofs.Ythbnhdocjnhhlaa
open Go Go.RowKit
set_option linter.unusedVariables false
set_option linter.unusedSimpArgs false

set_option maxRecDepth 100000 in
set_option maxHeartbeats 8000000 in
theorem partAll_walk (a0 : Option Addr) (len0 cap0 : Nat) (z0 : List Int) (a1 : Int) (w : World) (w0 : IsRow .i64 w a0 len0 cap0 z0) (w1 : (Lit.int .i64 a1).wf = true) :
    Calls Try.prog 3 #[.slice a0 len0 cap0, .int .i64 a1] w fun e w' => e = .returned (.bool true) ∧ Below w.heap.size w w' := by
  have Q0 := Lib.hid w0; clear w0 w1
  go_enter Try.func3, Try.ntmps3
  go_wp2_with fail
  refine (known4_any w).mono ?_
  rintro e W1 ⟨rfl, h2⟩
  replace Q0 := Lib.hid (IsRow.below Q0.out h2)
  have BB := Lib.hid h2
  clear h2
  go_wp2_with fail
  refine (sets_x (mo := 12) Q0.out (by omega)).mono ?_
  rintro e W2 ⟨v, n, ss, rfl, hr, hn, h1, h2⟩
  have HR := Lib.hid hr
  have RS := Lib.hid h1.readsL
  have HL := Lib.hid h1.readsL.1
  have OS := Lib.hid h1
  obtain ⟨av, cv, rfl⟩ := h1.slice
  replace BB := Lib.hid (BB.out.trans (h2.mono BB.out.size))
  clear h1 h2 hr Q0
  clear OS
  go_wp2_with fail
  refine (cuts_x RS.out HR.out (by omega)).mono ?_
  rintro e W3 ⟨ma, aca, cca, ala, cla, rfl, hma, r1, r2, h3⟩
  have RCa := Lib.hid r1; have RLa := Lib.hid r2
  replace RS := Lib.hid (RS.out.below h3)
  replace BB := Lib.hid (BB.out.trans (h3.mono BB.out.size))
  clear r1 r2 h3
  go_wp2_with fail
  refine (rcuts_x RS.out HR.out (by omega)).mono ?_
  rintro e W4 ⟨mb, acb, ccb, alb, clb, rfl, hmb, r1, r2, h3⟩
  have RCb := Lib.hid r1; have RLb := Lib.hid r2
  replace RS := Lib.hid (RS.out.below h3)
  replace RCa := Lib.hid (RCa.out.below h3)
  replace RLa := Lib.hid (RLa.out.below h3)
  replace BB := Lib.hid (BB.out.trans (h3.mono BB.out.size))
  clear r1 r2 h3
  obtain rfl : ma = mb := by rw [← RCa.out.1, ← RCb.out.1]
  go_wp2_with fail
  refine (ints_any RCa.out.reads RCb.out.reads (by omega)).mono ?_
  rintro e W5 ⟨rfl, h3⟩
  replace RS := Lib.hid (RS.out.below h3)
  replace RCa := Lib.hid (RCa.out.below h3)
  replace RLa := Lib.hid (RLa.out.below h3)
  replace RCb := Lib.hid (RCb.out.below h3)
  replace RLb := Lib.hid (RLb.out.below h3)
  replace BB := Lib.hid (BB.out.trans (h3.mono BB.out.size))
  clear h3
  go_wp2_with fail
  refine (ints_any RLa.out.reads RLb.out.reads (by omega)).mono ?_
  rintro e W6 ⟨rfl, h3⟩
  replace RS := Lib.hid (RS.out.below h3)
  replace RCa := Lib.hid (RCa.out.below h3)
  replace RLa := Lib.hid (RLa.out.below h3)
  replace RCb := Lib.hid (RCb.out.below h3)
  replace RLb := Lib.hid (RLb.out.below h3)
  replace BB := Lib.hid (BB.out.trans (h3.mono BB.out.size))
  clear h3
  go_wp2_with fail
  refine (pcount_x RLa.out (by omega)).mono ?_
  rintro e W7 ⟨rfl, h3⟩
  replace RS := Lib.hid (RS.out.below h3)
  replace RCa := Lib.hid (RCa.out.below h3)
  replace RLa := Lib.hid (RLa.out.below h3)
  replace RCb := Lib.hid (RCb.out.below h3)
  replace RLb := Lib.hid (RLb.out.below h3)
  replace BB := Lib.hid (BB.out.trans (h3.mono BB.out.size))
  clear h3
  have HKL := Lib.hid (kinds_le RCa.out.1)
  have HIL : Hid (∀ i, (inRow ss i).length = (kindsL ss).length) := Lib.hid (inRow_len ss)
  have hkl := HKL.out
  go_wp2_with fail
  refine (rcount_x RLb.out (by omega)).mono ?_
  rintro e w' ⟨rfl, rfl⟩
  generalize (kindsL ss).length = K at *
  go_wp2_with fail
  refine (in_x RS.out HR.out RCa.out RLa.out (by omega) (by omega)).mono ?_
  rintro e W8 ⟨ia, ic, rfl, h1, h3⟩
  have IA := Lib.hid h1
  replace RS := Lib.hid (RS.out.below h3)
  replace RCa := Lib.hid (RCa.out.below h3)
  replace RLa := Lib.hid (RLa.out.below h3)
  replace RCb := Lib.hid (RCb.out.below h3)
  replace RLb := Lib.hid (RLb.out.below h3)
  replace BB := Lib.hid (BB.out.trans (h3.mono BB.out.size))
  clear h1 h3
  go_wp2_with fail
  refine (rin_x RS.out RCb.out RLb.out (by omega) (by omega)).mono ?_
  rintro e W9 ⟨ja, jc, rfl, h1, h3⟩
  have IB := Lib.hid h1
  replace IA := Lib.hid (IA.out.below h3)
  replace RCa := Lib.hid (RCa.out.below h3)
  replace RLa := Lib.hid (RLa.out.below h3)
  replace RCb := Lib.hid (RCb.out.below h3)
  replace RLb := Lib.hid (RLb.out.below h3)
  replace BB := Lib.hid (BB.out.trans (h3.mono BB.out.size))
  clear h1 h3
  have HIN : Hid (∀ i, i < n → (inRows ss n).getD i [] = inRow ss i) := Lib.hid (fun i hi => inRows_at ss n i hi)
  go_wp2_with fail
  obtain ⟨W, hW⟩ : ∃ W, W = W9 := ⟨_, rfl⟩
  rw [← hW] at IA IB RCa RLa RCb RLb BB ⊢
  clear hW
  go_loopw [12] (fun i wr => ∃ (k d : Nat), k ≤ n ∧ i = .int .i64 k ∧ wr = W.drewN d) (fun i _ => n - (intOf i).toNat)
  case atStart => exact ⟨0, 0, Nat.zero_le _, rfl, rfl⟩
  case round =>
    obtain ⟨k, d, hk, rfl, rfl⟩ := hrel
    have i0 : (0 : Int) ≤ (k : Int) := Int.natCast_nonneg _
    by_cases hlt : k < n
    · have i1 : (k : Int) < (n : Int) := by omega
      have t1 : decide (k < n) = true := by simpa using hlt
      obtain ⟨b, off, a', c', rfl, c1, r1⟩ := IA.out.at k hlt
      obtain ⟨b2, off2, a2, c2', rfl, c2, r2⟩ := IB.out.at k hlt
      have hlen : ((inRows ss n).getD k []).length = K := by rw [HIN.out k hlt, HIL.out k]
      generalize (inRows ss n).getD k [] = R at *
      rw [hlen] at c1 c2 r1 r2
      have HLEN := Lib.hid hlen; clear hlen
      have R1 := Lib.hid r1; have R2 := Lib.hid r2; clear r1 r2
      go_wp2_with fail
      go_quiet (fail)
      go_wp2_with fail
      go_loopw [13] (fun i wr => ∃ (j e : Nat), j ≤ K ∧ i = .int .i64 j ∧ wr = W.drewN e) (fun i _ => K - (intOf i).toNat)
      case atStart => exact ⟨0, d + nq, Nat.zero_le _, rfl, by first | rfl | exact World.drewN_drewN _ _ _⟩
      case round =>
        obtain ⟨j, e, hj, rfl, rfl⟩ := hrel
        have j0 : (0 : Int) ≤ (j : Int) := Int.natCast_nonneg _
        by_cases hlt2 : j < K
        · have j1 : (j : Int) < (K : Int) := by omega
          have t2 : decide (j < K) = true := by simpa using hlt2
          obtain ⟨b3, off3, rfl, d1⟩ := R1.out.at j (by rw [HLEN.out]; exact hlt2)
          obtain ⟨b4, off4, rfl, d2⟩ := R2.out.at j (by rw [HLEN.out]; exact hlt2)
          generalize R.getD j false = z at *
          have zz : (z != z) = false := by simp
          go_wp2_with fail
          go_quiet (fail)
          go_wp2_with fail
          exact ⟨⟨j + 1, _, by omega, by go_num, rfl⟩, by simp [intOf]; omega⟩
        · go_wp2_with fail
          exact ⟨⟨k + 1, _, by omega, by go_num, rfl⟩, by simp [intOf]; omega⟩
    · have HXN := Lib.hid (wth_inN a1 1114112 (by omega) (by omega))
      go_wp2_with fail
      refine (within4_any _ _ (by omega) (by omega) _).mono ?_
      rintro e w' ⟨rfl, rfl⟩
      generalize wth a1 1114112 = x at *
      have BB2 := Lib.hid (Below.drewN' BB.out d)
      go_wp2_with fail
      refine (plet_x HR.out (RCa.out.drewN d) (RLa.out.drewN d) (by omega) HXN.out).mono ?_
      rintro e W11 ⟨rfl, h3⟩
      have RCb2 := Lib.hid ((RCb.out.drewN d).below h3)
      have RLb2 := Lib.hid ((RLb.out.drewN d).below h3)
      have BB3 := Lib.hid (BB2.out.trans (h3.mono BB2.out.size))
      clear h3
      go_wp2_with fail
      refine (rlet_x HR.out RCb2.out RLb2.out (by omega) HXN.out).mono ?_
      rintro e w' ⟨rfl, rfl⟩
      generalize letOf ss x = p at *
      go_wp2_with fail
      go_ret
      exact ⟨rfl, BB3.out⟩

end Go.Proofs.Ythbnhdocjnhhlaa
