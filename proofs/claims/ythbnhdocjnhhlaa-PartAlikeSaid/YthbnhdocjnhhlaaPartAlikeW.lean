/- The law PartAlike, walked. -/
import Derived.Test.YthbnhdocjnhhlaaPartM
namespace Go.Proofs.Ythbnhdocjnhhlaa
open Go Go.RowKit
set_option linter.unusedVariables false
set_option linter.unusedSimpArgs false

set_option maxRecDepth 100000 in
set_option maxHeartbeats 8000000 in
theorem partAlike_walk (a0 : Option Addr) (len0 cap0 : Nat) (z0 : List Int) (a1 : Int) (a2 : Int) (w : World) (w0 : IsRow .i64 w a0 len0 cap0 z0) (w1 : (Lit.int .i64 a1).wf = true) (w2 : (Lit.int .i64 a2).wf = true) :
    Calls Try.prog 4 #[.slice a0 len0 cap0, .int .i64 a1, .int .i64 a2] w fun e w' => e = .returned (.bool true) ∧ Below w.heap.size w w' := by
  have Q0 := Lib.hid w0; clear w0
  clear w1 w2
  go_enter Try.func4, Try.ntmps4
  go_wp2_with fail
  refine (known4_any w).mono ?_
  rintro e W1 ⟨rfl, h2⟩
  replace Q0 := Lib.hid (IsRow.below Q0.out h2)
  have BB := Lib.hid h2
  clear h2
  go_wp2_with fail
  refine (sets_x (mo := 12) Q0.out (by omega)).mono ?_
  rintro e W2 ⟨v, n, ss, rfl, hr, hn, h1, h2⟩
  have HR := Lib.hid hr
  have RS := Lib.hid h1.readsL
  have HL := Lib.hid h1.readsL.1
  obtain ⟨av, cv, rfl⟩ := h1.slice
  replace BB := Lib.hid (BB.out.trans (h2.mono BB.out.size))
  clear h1 h2 hr Q0
  go_wp2_with fail
  refine (cuts_x RS.out HR.out (by omega)).mono ?_
  rintro e W3 ⟨m, ac, cc, al, cl, rfl, hm, r1, r2, h3⟩
  have RC := Lib.hid r1; have RL := Lib.hid r2
  replace RS := Lib.hid (RS.out.below h3)
  replace BB := Lib.hid (BB.out.trans (h3.mono BB.out.size))
  clear r1 r2 h3
  have hx1 := wth_inN a1 75 (by omega) (by omega)
  have hx2 := wth_inN a2 75 (by omega) (by omega)
  have hx3 := wth_inN a1 1114112 (by omega) (by omega)
  go_wp2_with fail
  refine (within4_any _ _ (by omega) (by omega) _).mono ?_
  rintro e w' ⟨rfl, rfl⟩
  go_wp2_with fail
  refine (within4_any _ _ (by omega) (by omega) _).mono ?_
  rintro e w' ⟨rfl, rfl⟩
  go_wp2_with fail
  refine (within4_any _ _ (by omega) (by omega) _).mono ?_
  rintro e w' ⟨rfl, rfl⟩
  have HX1 := Lib.hid hx1; have HX2 := Lib.hid hx2; have HX3 := Lib.hid hx3
  clear hx1 hx2 hx3
  generalize wth a1 75 = x1 at *
  generalize wth a2 75 = y at *
  generalize wth a1 5 = c5 at *
  by_cases hc : c5 = 0
  · go_wp2_with fail
    refine (within4_any _ _ (by omega) (by omega) _).mono ?_
    rintro e w' ⟨rfl, rfl⟩
    generalize wth a1 1114112 = x at *
    clear HX1 hc
    have HX := HX3
    clear HX3
    go_wp2_with fail
    have HSA := Lib.hid (sameB_all ss x y n (by rw [HL.out]; exact Nat.le_refl _))
    have HSS : Hid (∀ k, k < n → sameB ss x y (k + 1) = (sameB ss x y k && (hasB (ss.getD k []) x == hasB (ss.getD k []) y))) := Lib.hid (fun k hk => sameB_succ ss x y k (by rw [HL.out]; exact hk))
    have HS0 : Hid (sameB ss x y 0 = true) := Lib.hid rfl
    have HLX := Lib.hid (letOf_inj HR.out x y HX.out.1 HX.out.2)
    generalize hsb : sameB ss x y = SB at *
    clear hsb
    obtain ⟨W, hW⟩ : ∃ W, W = W3 := ⟨_, rfl⟩
    rw [← hW] at RS RC RL BB ⊢
    clear hW
    go_loopw [12, 13] (fun s i wr => ∃ (k d : Nat), k ≤ n ∧ i = .int .i64 k ∧ s = .bool (SB k) ∧ wr = W.drewN d) (fun _ i _ => n - (intOf i).toNat)
    case atStart => exact ⟨0, 0, Nat.zero_le _, rfl, by rw [HS0.out], rfl⟩
    case round =>
      obtain ⟨k, d, hk, rfl, rfl, rfl⟩ := hrel
      have i0 : (0 : Int) ≤ (k : Int) := Int.natCast_nonneg _
      by_cases hlt : k < n
      · have i1 : (k : Int) < (n : Int) := by omega
        have t1 : decide (k < n) = true := by simpa using hlt
        obtain ⟨b, off, u, rfl, c1, hu⟩ := RS.out.at k hlt
        have SN := Lib.hid (HSS.out k hlt)
        generalize ss.getD k [] = l at *
        obtain ⟨a3, c3, rfl, -, -, -⟩ := hu.form
        have HU := Lib.hid hu; clear hu
        generalize hk0 : SB k = sb at *
        clear hk0
        cases sb
        · go_wp2_with fail
          go_quiet (fail)
          go_wp2_with fail
          exact ⟨⟨k + 1, _, by omega, by go_num, by rw [SN.out]; rfl, rfl⟩, by simp [intOf]; omega⟩
        · go_wp2_with fail
          go_quiet ((exact rhas_quiet HU.out))
          go_wp2_with fail
          exact ⟨⟨k + 1, _, by omega, by go_num, by rw [SN.out]; rfl, rfl⟩, by simp [intOf]; omega⟩
      · have hkn : k = n := by omega
        have HE : Hid (SB k = decide (letOf ss x = letOf ss y)) := Lib.hid (by rw [hkn, HSA.out, decide_eq_decide, HLX.out])
        clear hkn
        generalize hk0 : SB k = sb at *
        clear hk0
        have HP := Lib.hid (fun (W : World) (h1 : ReadsI W (.slice ac m cc) m (cutsL ss)) (h2 : ReadsI W (.slice al m cl) m (letsL ss)) => plet_x HR.out h1 h2 (by omega) HX.out)
        have HQ := Lib.hid (fun (W : World) (h1 : ReadsI W (.slice ac m cc) m (cutsL ss)) (h2 : ReadsI W (.slice al m cl) m (letsL ss)) => plet_x HR.out h1 h2 (by omega) HX2.out)
        generalize letOf ss x = p at *
        generalize letOf ss y = q at *
        go_wp2_with fail
        refine (HP.out _ (RC.out.drewN d) (RL.out.drewN d)).mono ?_
        rintro e W5 ⟨rfl, h2⟩
        have RC5 := Lib.hid ((RC.out.drewN d).below h2)
        have RL5 := Lib.hid ((RL.out.drewN d).below h2)
        have BB5 := Lib.hid ((Below.drewN' BB.out d).trans (h2.mono BB.out.size))
        clear h2
        go_wp2_with fail
        refine (HQ.out _ RC5.out RL5.out).mono ?_
        rintro e W6 ⟨rfl, h2⟩
        have BB6 := Lib.hid (BB5.out.trans (h2.mono BB5.out.size))
        clear h2
        by_cases hpq : p = q
        · have hsb : sb = true := by rw [HE.out]; simpa using hpq
          subst hpq; subst hsb
          go_wp2_with fail
          go_ret
          exact ⟨rfl, BB6.out⟩
        · have hsb : sb = false := by rw [HE.out]; simpa using hpq
          subst hsb
          have e1 : ((p : Int) == (q : Int)) = false := by simp; omega
          go_wp2_with fail
          go_ret
          exact ⟨rfl, BB6.out⟩
  · go_wp2_with fail
    obtain ⟨x, hx⟩ : ∃ x, x = x1 := ⟨_, rfl⟩
    subst hx
    have HX := HX1
    clear HX1 HX3
    go_wp2_with fail
    have HSA := Lib.hid (sameB_all ss x y n (by rw [HL.out]; exact Nat.le_refl _))
    have HSS : Hid (∀ k, k < n → sameB ss x y (k + 1) = (sameB ss x y k && (hasB (ss.getD k []) x == hasB (ss.getD k []) y))) := Lib.hid (fun k hk => sameB_succ ss x y k (by rw [HL.out]; exact hk))
    have HS0 : Hid (sameB ss x y 0 = true) := Lib.hid rfl
    have HLX := Lib.hid (letOf_inj HR.out x y HX.out.1 HX.out.2)
    generalize hsb : sameB ss x y = SB at *
    clear hsb
    obtain ⟨W, hW⟩ : ∃ W, W = W3 := ⟨_, rfl⟩
    rw [← hW] at RS RC RL BB ⊢
    clear hW
    go_loopw [12, 13] (fun s i wr => ∃ (k d : Nat), k ≤ n ∧ i = .int .i64 k ∧ s = .bool (SB k) ∧ wr = W.drewN d) (fun _ i _ => n - (intOf i).toNat)
    case atStart => exact ⟨0, 0, Nat.zero_le _, rfl, by rw [HS0.out], rfl⟩
    case round =>
      obtain ⟨k, d, hk, rfl, rfl, rfl⟩ := hrel
      have i0 : (0 : Int) ≤ (k : Int) := Int.natCast_nonneg _
      by_cases hlt : k < n
      · have i1 : (k : Int) < (n : Int) := by omega
        have t1 : decide (k < n) = true := by simpa using hlt
        obtain ⟨b, off, u, rfl, c1, hu⟩ := RS.out.at k hlt
        have SN := Lib.hid (HSS.out k hlt)
        generalize ss.getD k [] = l at *
        obtain ⟨a3, c3, rfl, -, -, -⟩ := hu.form
        have HU := Lib.hid hu; clear hu
        generalize hk0 : SB k = sb at *
        clear hk0
        cases sb
        · go_wp2_with fail
          go_quiet (fail)
          go_wp2_with fail
          exact ⟨⟨k + 1, _, by omega, by go_num, by rw [SN.out]; rfl, rfl⟩, by simp [intOf]; omega⟩
        · go_wp2_with fail
          go_quiet ((exact rhas_quiet HU.out))
          go_wp2_with fail
          exact ⟨⟨k + 1, _, by omega, by go_num, by rw [SN.out]; rfl, rfl⟩, by simp [intOf]; omega⟩
      · have hkn : k = n := by omega
        have HE : Hid (SB k = decide (letOf ss x = letOf ss y)) := Lib.hid (by rw [hkn, HSA.out, decide_eq_decide, HLX.out])
        clear hkn
        generalize hk0 : SB k = sb at *
        clear hk0
        have HP := Lib.hid (fun (W : World) (h1 : ReadsI W (.slice ac m cc) m (cutsL ss)) (h2 : ReadsI W (.slice al m cl) m (letsL ss)) => plet_x HR.out h1 h2 (by omega) HX.out)
        have HQ := Lib.hid (fun (W : World) (h1 : ReadsI W (.slice ac m cc) m (cutsL ss)) (h2 : ReadsI W (.slice al m cl) m (letsL ss)) => plet_x HR.out h1 h2 (by omega) HX2.out)
        generalize letOf ss x = p at *
        generalize letOf ss y = q at *
        go_wp2_with fail
        refine (HP.out _ (RC.out.drewN d) (RL.out.drewN d)).mono ?_
        rintro e W5 ⟨rfl, h2⟩
        have RC5 := Lib.hid ((RC.out.drewN d).below h2)
        have RL5 := Lib.hid ((RL.out.drewN d).below h2)
        have BB5 := Lib.hid ((Below.drewN' BB.out d).trans (h2.mono BB.out.size))
        clear h2
        go_wp2_with fail
        refine (HQ.out _ RC5.out RL5.out).mono ?_
        rintro e W6 ⟨rfl, h2⟩
        have BB6 := Lib.hid (BB5.out.trans (h2.mono BB5.out.size))
        clear h2
        by_cases hpq : p = q
        · have hsb : sb = true := by rw [HE.out]; simpa using hpq
          subst hpq; subst hsb
          go_wp2_with fail
          go_ret
          exact ⟨rfl, BB6.out⟩
        · have hsb : sb = false := by rw [HE.out]; simpa using hpq
          subst hsb
          have e1 : ((p : Int) == (q : Int)) = false := by simp; omega
          go_wp2_with fail
          go_ret
          exact ⟨rfl, BB6.out⟩

end Go.Proofs.Ythbnhdocjnhhlaa
