/- The law PartSets, walked. -/
import Derived.Test.YthbnhdocjnhhlaaPartS
namespace Go.Proofs.Ythbnhdocjnhhlaa
open Go Go.RowKit
set_option linter.unusedVariables false
set_option linter.unusedSimpArgs false

set_option maxRecDepth 100000 in
set_option maxHeartbeats 8000000 in
theorem partSets_walk (a0 : Option Addr) (len0 cap0 : Nat) (z0 : List Int) (a1 : Int) (w : World) (w0 : IsRow .i64 w a0 len0 cap0 z0) (w1 : (Lit.int .i64 a1).wf = true) :
    Calls Try.prog 5 #[.slice a0 len0 cap0, .int .i64 a1] w fun e w' => e = .returned (.bool true) ∧ Below w.heap.size w w' := by
  have Q0 := Lib.hid w0; clear w0 w1
  go_enter Try.func5, Try.ntmps5
  go_wp2_with fail
  refine (known4_any w).mono ?_
  rintro e W1 ⟨rfl, h2⟩
  replace Q0 := Lib.hid (IsRow.below Q0.out h2)
  have BB := Lib.hid h2
  clear h2
  go_wp2_with fail
  refine (sets_x (mo := 12) Q0.out (by omega)).mono ?_
  rintro e W2 ⟨v, n, ss, rfl, hr, hn, h1, h2⟩
  have HR := Lib.hid hr
  have RS := Lib.hid h1.readsL
  have HL := Lib.hid h1.readsL.1
  have OS := Lib.hid h1
  obtain ⟨av, cv, rfl⟩ := h1.slice
  replace BB := Lib.hid (BB.out.trans (h2.mono BB.out.size))
  clear h1 h2 hr Q0
  clear OS
  go_wp2_with fail
  refine (cuts_x RS.out HR.out (by omega)).mono ?_
  rintro e W3 ⟨ma, aca, cca, ala, cla, rfl, hma, r1, r2, h3⟩
  have RCa := Lib.hid r1; have RLa := Lib.hid r2
  replace RS := Lib.hid (RS.out.below h3)
  replace BB := Lib.hid (BB.out.trans (h3.mono BB.out.size))
  clear r1 r2 h3
  go_wp2_with fail
  refine (in_x RS.out HR.out RCa.out RLa.out (by omega) (by omega)).mono ?_
  rintro e W4 ⟨ia, ic, rfl, h1, h3⟩
  have IA := Lib.hid h1
  replace RS := Lib.hid (RS.out.below h3)
  replace RCa := Lib.hid (RCa.out.below h3)
  replace RLa := Lib.hid (RLa.out.below h3)
  replace BB := Lib.hid (BB.out.trans (h3.mono BB.out.size))
  clear h1 h3
  have HIN : Hid (∀ i, i < n → (inRows ss n).getD i [] = inRow ss i) := Lib.hid (fun i hi => inRows_at ss n i hi)
  have HIL : Hid (∀ i, (inRow ss i).length = (kindsL ss).length) := Lib.hid (inRow_len ss)
  have HLT : Hid (∀ x, InN x → letOf ss x < (kindsL ss).length) := Lib.hid (fun x hx => letOf_lt HR.out x hx.1 hx.2)
  have HKL := kinds_le RCa.out.1
  have HAT : Hid (∀ x, InN x → ∀ i, i < n → (inRow ss i).getD (letOf ss x) false = hasB (ss.getD i []) x) := Lib.hid (fun x hx i hi => inRow_at HR.out x hx.1 hx.2 i (by rw [HL.out]; exact hi))
  generalize (kindsL ss).length = K at *
  go_wp2_with fail
  obtain ⟨W, hW⟩ : ∃ W, W = W4 := ⟨_, rfl⟩
  rw [← hW] at IA RCa RLa RS BB ⊢
  clear hW
  go_loopw [9] (fun i wr => ∃ (j : Nat), j ≤ 70 ∧ i = .int .i64 j ∧ Hid (Below W.heap.size W wr)) (fun i _ => 70 - (intOf i).toNat)
  case atStart => exact ⟨0, Nat.zero_le _, rfl, Lib.hid (Below.refl _ _)⟩
  case round =>
    obtain ⟨j, hj, rfl, HB⟩ := hrel
    have j0 : (0 : Int) ≤ (j : Int) := Int.natCast_nonneg _
    have RC := Lib.hid (RCa.out.below HB.out)
    have RL := Lib.hid (RLa.out.below HB.out)
    by_cases hlt : j < 70
    · have j1 : (j : Int) < 70 := by omega
      by_cases h66 : 66 < j
      · have j2 : (66 : Int) < (j : Int) := by omega
        go_wp2_with fail
        refine (within4_any _ _ (by omega) (by omega) _).mono ?_
        rintro e w' ⟨rfl, rfl⟩
        have HX := Lib.hid (wth_inN (wrap64 (a1 + (j : Int))) 1114112 (by omega) (by omega))
        generalize wth (wrap64 (a1 + (j : Int))) 1114112 = x at *
        go_wp2_with fail
        refine (plet_x HR.out RC.out RL.out (by omega) HX.out).mono ?_
        rintro e W6 ⟨rfl, h3⟩
        have HB6 := Lib.hid (HB.out.trans (h3.mono HB.out.size))
        clear h3
        have IA6 := Lib.hid (IA.out.below HB6.out)
        have RS6 := Lib.hid (RS.out.below HB6.out)
        have HP := HLT.out x HX.out
        have HA := Lib.hid (HAT.out x HX.out)
        generalize letOf ss x = p at *
        have p0 : (0 : Int) ≤ (p : Int) := Int.natCast_nonneg _
        have p1 : (p : Int) < (K : Int) := by omega
        have p2 : ¬ (p : Int) < 0 := by omega
        have p3 : decide (p < K) = true := by simpa using HP
        go_wp2_with fail
        go_loopw [12] (fun i wr => ∃ (k d : Nat), k ≤ n ∧ i = .int .i64 k ∧ wr = W6.drewN d) (fun i _ => n - (intOf i).toNat)
        case atStart => exact ⟨0, 0, Nat.zero_le _, rfl, rfl⟩
        case round =>
          obtain ⟨k, d, hk, rfl, rfl⟩ := hrel
          have i0 : (0 : Int) ≤ (k : Int) := Int.natCast_nonneg _
          by_cases hlt2 : k < n
          · have i1 : (k : Int) < (n : Int) := by omega
            have t1 : decide (k < n) = true := by simpa using hlt2
            obtain ⟨b, off, a', c', rfl, c1, r1⟩ := IA6.out.at k hlt2
            obtain ⟨b2, off2, u, rfl, c2, hu⟩ := RS6.out.at k hlt2
            have hlen : ((inRows ss n).getD k []).length = K := by rw [HIN.out k hlt2, HIL.out k]
            have hval : ((inRows ss n).getD k []).getD p false = hasB (ss.getD k []) x := by rw [HIN.out k hlt2]; exact HA.out k hlt2
            generalize (inRows ss n).getD k [] = R at *
            generalize ss.getD k [] = l at *
            rw [hlen] at c1 r1
            obtain ⟨b3, off3, rfl, c3⟩ := ReadsB.at r1 p (by rw [hlen]; exact HP)
            rw [hval] at c3
            clear hval r1
            have HLEN := Lib.hid hlen; clear hlen
            obtain ⟨a6, c6, e6, -, -, -⟩ := hu.form
            subst e6
            have HU := Lib.hid hu; clear hu
            have zz : (hasB l x != hasB l x) = false := by simp
            go_wp2_with fail
            go_quiet ((exact rhas_quiet HU.out))
            go_wp2_with fail
            exact ⟨⟨k + 1, _, by omega, by go_num, rfl⟩, by simp [intOf]; omega⟩
          · go_wp2_with fail
            exact ⟨⟨j + 1, by omega, by go_num, Lib.hid (Below.drewN' HB6.out d)⟩, by simp [intOf]; omega⟩
      · have j2 : ¬ (66 : Int) < (j : Int) := by omega
        have HX : Hid (InN (j : Int)) := Lib.hid (show 0 ≤ (j : Int) ∧ (j : Int) ≤ 1114111 by omega)
        obtain ⟨x, hx⟩ : ∃ x : Int, x = (j : Int) := ⟨_, rfl⟩
        go_wp2_with fail
        refine (plet_x HR.out RC.out RL.out (by omega) HX.out).mono ?_
        rintro e W6 ⟨rfl, h3⟩
        have HB6 := Lib.hid (HB.out.trans (h3.mono HB.out.size))
        clear h3
        have IA6 := Lib.hid (IA.out.below HB6.out)
        have RS6 := Lib.hid (RS.out.below HB6.out)
        have HP := HLT.out (j : Int) HX.out
        have HA := Lib.hid (HAT.out (j : Int) HX.out)
        generalize letOf ss (j : Int) = p at *
        have p0 : (0 : Int) ≤ (p : Int) := Int.natCast_nonneg _
        have p1 : (p : Int) < (K : Int) := by omega
        have p2 : ¬ (p : Int) < 0 := by omega
        have p3 : decide (p < K) = true := by simpa using HP
        go_wp2_with fail
        go_loopw [12] (fun i wr => ∃ (k d : Nat), k ≤ n ∧ i = .int .i64 k ∧ wr = W6.drewN d) (fun i _ => n - (intOf i).toNat)
        case atStart => exact ⟨0, 0, Nat.zero_le _, rfl, rfl⟩
        case round =>
          obtain ⟨k, d, hk, rfl, rfl⟩ := hrel
          have i0 : (0 : Int) ≤ (k : Int) := Int.natCast_nonneg _
          by_cases hlt2 : k < n
          · have i1 : (k : Int) < (n : Int) := by omega
            have t1 : decide (k < n) = true := by simpa using hlt2
            obtain ⟨b, off, a', c', rfl, c1, r1⟩ := IA6.out.at k hlt2
            obtain ⟨b2, off2, u, rfl, c2, hu⟩ := RS6.out.at k hlt2
            have hlen : ((inRows ss n).getD k []).length = K := by rw [HIN.out k hlt2, HIL.out k]
            have hval : ((inRows ss n).getD k []).getD p false = hasB (ss.getD k []) (j : Int) := by rw [HIN.out k hlt2]; exact HA.out k hlt2
            generalize (inRows ss n).getD k [] = R at *
            generalize ss.getD k [] = l at *
            rw [hlen] at c1 r1
            obtain ⟨b3, off3, rfl, c3⟩ := ReadsB.at r1 p (by rw [hlen]; exact HP)
            rw [hval] at c3
            clear hval r1
            have HLEN := Lib.hid hlen; clear hlen
            obtain ⟨a6, c6, e6, -, -, -⟩ := hu.form
            subst e6
            have HU := Lib.hid hu; clear hu
            have zz : (hasB l (j : Int) != hasB l (j : Int)) = false := by simp
            go_wp2_with fail
            go_quiet ((exact rhas_quiet HU.out))
            go_wp2_with fail
            exact ⟨⟨k + 1, _, by omega, by go_num, rfl⟩, by simp [intOf]; omega⟩
          · go_wp2_with fail
            exact ⟨⟨j + 1, by omega, by go_num, Lib.hid (Below.drewN' HB6.out d)⟩, by simp [intOf]; omega⟩
    · go_wp2_with fail
      go_ret
      exact ⟨rfl, BB.out.trans (HB.out.mono BB.out.size)⟩

end Go.Proofs.Ythbnhdocjnhhlaa
