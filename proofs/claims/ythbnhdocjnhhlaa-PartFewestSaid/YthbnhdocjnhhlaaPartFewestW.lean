/- The law PartFewest, walked. -/
import Derived.Test.YthbnhdocjnhhlaaPartS
namespace Go.Proofs.Ythbnhdocjnhhlaa
open Go Go.RowKit
set_option linter.unusedVariables false
set_option linter.unusedSimpArgs false

/-- The first sets have both letters, or neither. -/
def sameAB (ss : List (List (Int × Int))) (a b k : Nat) : Bool := decide (∀ t, t < k → (inRow ss t).getD a false = (inRow ss t).getD b false)
theorem sameAB_succ (ss : List (List (Int × Int))) (a b k : Nat) : sameAB ss a b (k + 1) = (sameAB ss a b k && ((inRow ss k).getD a false == (inRow ss k).getD b false)) := by
  unfold sameAB
  rw [Bool.eq_iff_iff]
  simp only [decide_eq_true_eq, Bool.and_eq_true, beq_iff_eq]
  constructor
  · intro h; exact ⟨fun t ht => h t (by omega), h k (by omega)⟩
  · rintro ⟨h1, h2⟩ t ht
    rcases Nat.lt_or_ge t k with g | g
    · exact h1 t g
    · obtain rfl : t = k := by omega
      exact h2
theorem sameAB_no {ss : List (List (Int × Int))} (a b : Nat) (ha : a < (kindsL ss).length) (hb : b < a) : sameAB ss a b ss.length = false := by
  obtain ⟨i, hi, hne⟩ := letters_apart a b ha hb
  unfold sameAB
  simp only [decide_eq_false_iff_not]
  exact fun h => hne (h i hi)
theorem bool_eq_comm (x y : Bool) : (x == y) = (x == y) := rfl

set_option maxRecDepth 100000 in
set_option maxHeartbeats 8000000 in
theorem partFewest_walk (a0 : Option Addr) (len0 cap0 : Nat) (z0 : List Int) (w : World) (w0 : IsRow .i64 w a0 len0 cap0 z0) :
    Calls Try.prog 6 #[.slice a0 len0 cap0] w fun e w' => e = .returned (.bool true) ∧ Below w.heap.size w w' := by
  have Q0 := Lib.hid w0; clear w0
  go_enter Try.func6, Try.ntmps6
  go_wp2_with fail
  refine (known4_any w).mono ?_
  rintro e W1 ⟨rfl, h2⟩
  replace Q0 := Lib.hid (IsRow.below Q0.out h2)
  have BB := Lib.hid h2
  clear h2
  go_wp2_with fail
  refine (sets_x (mo := 12) Q0.out (by omega)).mono ?_
  rintro e W2 ⟨v, n, ss, rfl, hr, hn, h1, h2⟩
  have HR := Lib.hid hr
  have RS := Lib.hid h1.readsL
  have HL := Lib.hid h1.readsL.1
  have OS := Lib.hid h1
  obtain ⟨av, cv, rfl⟩ := h1.slice
  replace BB := Lib.hid (BB.out.trans (h2.mono BB.out.size))
  clear h1 h2 hr Q0
  clear OS
  go_wp2_with fail
  refine (cuts_x RS.out HR.out (by omega)).mono ?_
  rintro e W3 ⟨ma, aca, cca, ala, cla, rfl, hma, r1, r2, h3⟩
  have RCa := Lib.hid r1; have RLa := Lib.hid r2
  replace RS := Lib.hid (RS.out.below h3)
  replace BB := Lib.hid (BB.out.trans (h3.mono BB.out.size))
  clear r1 r2 h3
  go_wp2_with fail
  refine (in_x RS.out HR.out RCa.out RLa.out (by omega) (by omega)).mono ?_
  rintro e W4 ⟨ia, ic, rfl, h1, h3⟩
  have IA := Lib.hid h1
  replace RS := Lib.hid (RS.out.below h3)
  replace RCa := Lib.hid (RCa.out.below h3)
  replace RLa := Lib.hid (RLa.out.below h3)
  replace BB := Lib.hid (BB.out.trans (h3.mono BB.out.size))
  clear h1 h3
  go_wp2_with fail
  refine (pcount_x RLa.out (by omega)).mono ?_
  rintro e W5 ⟨rfl, h3⟩
  replace RCa := Lib.hid (RCa.out.below h3)
  replace RLa := Lib.hid (RLa.out.below h3)
  replace IA := Lib.hid (IA.out.below h3)
  replace BB := Lib.hid (BB.out.trans (h3.mono BB.out.size))
  clear h3
  have HIN : Hid (∀ i, i < n → (inRows ss n).getD i [] = inRow ss i) := Lib.hid (fun i hi => inRows_at ss n i hi)
  have HIL : Hid (∀ i, (inRow ss i).length = (kindsL ss).length) := Lib.hid (inRow_len ss)
  have HKL := kinds_le RCa.out.1
  have HNO : Hid (∀ a b, a < (kindsL ss).length → b < a → sameAB ss a b n = false) := Lib.hid (fun a b ha hb => by rw [← HL.out]; exact sameAB_no a b ha hb)
  have HKM : Hid ((keysL ss).length = ma) := Lib.hid (by rw [← RCa.out.1]; simp [keysL])
  have HCA : Hid (∀ k, ma ≤ k → cnt (keysL ss) k = (kindsL ss).length) := Lib.hid (fun k hk => cnt_all _ _ (by rw [HKM.out]; exact hk))
  have HCS : Hid (∀ k, k < ma → ∃ y : Nat, (letsL ss).getD k 0 = (y : Int) ∧ ((y = cnt (keysL ss) k ∧ cnt (keysL ss) (k + 1) = cnt (keysL ss) k + 1) ∨ (y < cnt (keysL ss) k ∧ cnt (keysL ss) (k + 1) = cnt (keysL ss) k))) := Lib.hid (fun k hk => by
    have hk' : k < (keysL ss).length := by rw [HKM.out]; exact hk
    exact ⟨_, letsL_nat ss k hk', cnt_step _ k hk'⟩)
  have HRI : Hid (∀ k, k + 1 < ma → (cutsL ss).getD k 0 < (cutsL ss).getD (k + 1) 0 ∧ (letsL ss).getD (k + 1) 0 ≠ (letsL ss).getD k 0) := Lib.hid (fun k hk => ⟨rising_lt (cutsL_is HR.out).1 (by omega) (by rw [RCa.out.1]; exact hk), lets_next HR.out k (by rw [RCa.out.1]; exact hk)⟩)
  have HCL : Hid (∀ k, cnt (keysL ss) k ≤ (kindsL ss).length) := Lib.hid (fun k => cnt_le _ _)
  generalize (kindsL ss).length = K at *
  generalize hcnt : cnt (keysL ss) = CN at *
  have HC0 : Hid (CN 0 = 0) := Lib.hid (by rw [← hcnt]; exact cnt_zero _)
  clear hcnt
  go_wp2_with fail
  obtain ⟨W, hW⟩ : ∃ W, W = W5 := ⟨_, rfl⟩
  rw [← hW] at IA RCa RLa BB ⊢
  clear hW
  go_loopw [8] (fun i wr => ∃ (a d : Nat), a ≤ K ∧ i = .int .i64 a ∧ wr = W.drewN d) (fun i _ => K - (intOf i).toNat)
  case atStart => exact ⟨0, 0, Nat.zero_le _, rfl, rfl⟩
  case round =>
    obtain ⟨a, d, ha, rfl, rfl⟩ := hrel
    have x0 : (0 : Int) ≤ (a : Int) := Int.natCast_nonneg _
    by_cases hlt : a < K
    · have x1 : (a : Int) < (K : Int) := by omega
      have t1 : decide (a < K) = true := by simpa using hlt
      go_wp2_with fail
      go_loopw [9] (fun i wr => ∃ (b d : Nat), b ≤ a ∧ i = .int .i64 b ∧ wr = W.drewN d) (fun i _ => a - (intOf i).toNat)
      case atStart => exact ⟨0, d, Nat.zero_le _, rfl, rfl⟩
      case round =>
        obtain ⟨b, d, hb, rfl, rfl⟩ := hrel
        have y0 : (0 : Int) ≤ (b : Int) := Int.natCast_nonneg _
        by_cases hltb : b < a
        · have y1 : (b : Int) < (a : Int) := by omega
          have y2 : (b : Int) < (K : Int) := by omega
          have t2 : decide (b < a) = true := by simpa using hltb
          have t3 : decide (b < K) = true := by simp; omega
          have HNN := Lib.hid (HNO.out a b hlt hltb)
          have HSS : Hid (∀ k, sameAB ss a b (k + 1) = (sameAB ss a b k && ((inRow ss k).getD a false == (inRow ss k).getD b false))) := Lib.hid (fun k => sameAB_succ ss a b k)
          have HS0 : Hid (sameAB ss a b 0 = true) := Lib.hid (by unfold sameAB; simp)
          generalize hsb : sameAB ss a b = SB at *
          clear hsb
          go_wp2_with fail
          go_loopw [10, 11] (fun s i wr => ∃ (k d : Nat), k ≤ n ∧ i = .int .i64 k ∧ s = .bool (SB k) ∧ wr = W.drewN d) (fun _ i _ => n - (intOf i).toNat)
          case atStart => exact ⟨0, d, Nat.zero_le _, rfl, by rw [HS0.out], rfl⟩
          case round =>
            obtain ⟨k, d, hk, rfl, rfl, rfl⟩ := hrel
            have i0 : (0 : Int) ≤ (k : Int) := Int.natCast_nonneg _
            by_cases hltk : k < n
            · have i1 : (k : Int) < (n : Int) := by omega
              have t4 : decide (k < n) = true := by simpa using hltk
              obtain ⟨b1, off, a', c', rfl, c1, r1⟩ := IA.out.at k hltk
              have SN := Lib.hid (HSS.out k)
              have hlen : ((inRows ss n).getD k []).length = K := by rw [HIN.out k hltk, HIL.out k]
              rw [← HIN.out k hltk] at SN
              generalize (inRows ss n).getD k [] = R at *
              rw [hlen] at c1 r1
              obtain ⟨b3, off3, e3, d1⟩ := ReadsB.at r1 a (by rw [hlen]; exact hlt)
              obtain ⟨b4, off4, e4, d2⟩ := ReadsB.at r1 b (by rw [hlen]; omega)
              subst e3
              simp only [Option.some.injEq, Addr.mk.injEq, and_true] at e4
              obtain ⟨rfl, rfl⟩ := e4
              have HLEN := Lib.hid hlen; clear hlen r1
              generalize R.getD a false = za at *
              generalize R.getD b false = zb at *
              generalize hk0 : SB k = sb at *
              clear hk0
              cases sb
              · go_wp2_with fail
                go_quiet (fail)
                go_wp2_with fail
                exact ⟨⟨k + 1, _, by omega, by go_num, by rw [SN.out]; rfl, rfl⟩, by simp [intOf]; omega⟩
              · go_wp2_with fail
                go_quiet (fail)
                go_wp2_with fail
                exact ⟨⟨k + 1, _, by omega, by go_num, by rw [SN.out]; rfl, rfl⟩, by simp [intOf]; omega⟩
            · have hkn : k = n := by omega
              have HE : Hid (SB k = false) := Lib.hid (by rw [hkn]; exact HNN.out)
              clear hkn
              have he := HE.out
              generalize hk0 : SB k = sb at *
              clear hk0 HE
              subst he
              go_wp2_with fail
              exact ⟨⟨b + 1, d, by omega, by go_num, rfl⟩, by simp [intOf]; omega⟩
        · go_wp2_with fail
          exact ⟨⟨a + 1, d, by omega, by go_num, rfl⟩, by simp [intOf]; omega⟩
    · go_wp2_with fail
      go_loopw [12, 13] (fun s i wr => ∃ (k nx d : Nat), k ≤ ma ∧ i = .int .i64 k ∧ s = .int .i64 nx ∧ Hid (nx = CN k) ∧ wr = W.drewN d) (fun _ i _ => ma - (intOf i).toNat)
      case atStart => exact ⟨0, 0, d, Nat.zero_le _, rfl, rfl, Lib.hid HC0.out.symm, rfl⟩
      case round =>
        obtain ⟨k, nx, d, hk, rfl, rfl, HN, rfl⟩ := hrel
        have i0 : (0 : Int) ≤ (k : Int) := Int.natCast_nonneg _
        have nx1 : nx ≤ K := by rw [HN.out]; exact HCL.out k
        have nx0 : (0 : Int) ≤ (nx : Int) := Int.natCast_nonneg _
        by_cases hltk : k < ma
        · have i1 : (k : Int) < (ma : Int) := by omega
          have t4 : decide (k < ma) = true := by simpa using hltk
          obtain ⟨y, ey, hy⟩ := HCS.out k hltk
          rw [← HN.out] at hy
          obtain ⟨b1, off1, rfl, -, c1⟩ := RCa.out.at k hltk
          obtain ⟨b2, off2, rfl, -, c2⟩ := RLa.out.at k hltk
          have hRI : 0 < k → (cutsL ss).getD (k - 1) 0 < (cutsL ss).getD k 0 ∧ (letsL ss).getD k 0 ≠ (letsL ss).getD (k - 1) 0 := fun h => by
            have := HRI.out (k - 1) (by omega)
            rw [show k - 1 + 1 = k by omega] at this
            exact this
          generalize (letsL ss).getD k 0 = Y at *
          generalize (cutsL ss).getD k 0 = cc0 at *
          have yz : ¬ Y < 0 := by omega
          have yn : ¬ (nx : Int) < Y := by omega
          have ynb : decide ((nx : Int) < Y) = false := by simpa using yn
          have yzb : decide (Y < 0) = false := by simpa using yz
          have hstep : k + 1 ≤ ma := by omega
          rcases Nat.eq_zero_or_pos k with hk0 | hk0
          · have z0 : ¬ (0 : Int) < (k : Int) := by omega
            have z1 : decide (0 < k) = false := by simp; omega
            have z2 : ¬ 0 < k := by omega
            clear hRI
            rcases hy with ⟨q1, q2⟩ | ⟨q1, q2⟩
            · have HQ := Lib.hid q2
              have u0 : Y = (nx : Int) := by omega
              have u1 : (Y == (nx : Int)) = true := by simpa using u0
              have HKZ := Lib.hid hk0; clear hk0 ey q1 q2 u0
              go_wp2_with fail
              go_big_quiet (fail)
              go_wp2_with fail
              exact ⟨⟨k + 1, nx + 1, _, hstep, by go_num, by go_num, Lib.hid HQ.out.symm, rfl⟩, by simp [intOf]; omega⟩
            · have HQ := Lib.hid q2
              have u0 : ¬ Y = (nx : Int) := by omega
              have u1 : (Y == (nx : Int)) = false := by simpa using u0
              have HKZ := Lib.hid hk0; clear hk0 ey q1 q2
              go_wp2_with fail
              go_big_quiet (fail)
              go_wp2_with fail
              exact ⟨⟨k + 1, nx, _, hstep, by go_num, rfl, Lib.hid HQ.out.symm, rfl⟩, by simp [intOf]; omega⟩
          · have z0 : (0 : Int) < (k : Int) := by omega
            have z1 : decide (0 < k) = true := by simp; omega
            obtain ⟨v1, v2⟩ := hRI hk0
            obtain ⟨b3, off3, e3, -, c3⟩ := RCa.out.at (k - 1) (by omega)
            obtain ⟨b4, off4, e4, -, c4⟩ := RLa.out.at (k - 1) (by omega)
            simp only [Option.some.injEq, Addr.mk.injEq, and_true] at e3 e4
            obtain ⟨rfl, rfl⟩ := e3
            obtain ⟨rfl, rfl⟩ := e4
            generalize (cutsL ss).getD (k - 1) 0 = cc1 at *
            generalize (letsL ss).getD (k - 1) 0 = ll1 at *
            have m2 : (k : Int) - 1 < (ma : Int) := by omega
            have m3 : 0 ≤ (k : Int) - 1 := by omega
            have m5 : (1 : Int) ≤ (k : Int) := by omega
            have m4 : ((k : Int) - 1).toNat = k - 1 := by omega
            have mb1 : -9223372036854775808 ≤ (k : Int) - 1 ∧ (k : Int) - 1 ≤ 9223372036854775807 := by omega
            have v3 : ¬ cc0 ≤ cc1 := by omega
            have v3b : decide (cc0 ≤ cc1) = false := by simpa using v3
            have v4 : (Y == ll1) = false := by simpa using v2
            have v5 : ¬ Y = ll1 := v2
            clear v2 hRI
            rcases hy with ⟨q1, q2⟩ | ⟨q1, q2⟩
            · have HQ := Lib.hid q2
              have u0 : Y = (nx : Int) := by omega
              have u1 : (Y == (nx : Int)) = true := by simpa using u0
              have m1 : IntKind.i64.wrap ((k : Int) - 1) = (k : Int) - 1 := IntWalk.i64_in _ mb1
              clear mb1 ey q1 q2 u0
              go_wp2_with fail
              go_big_quiet (fail)
              clear m1 m2 m3 m4
              go_wp2_with fail
              exact ⟨⟨k + 1, nx + 1, _, hstep, by go_num, by go_num, Lib.hid HQ.out.symm, rfl⟩, by simp [intOf]; omega⟩
            · have HQ := Lib.hid q2
              have u0 : ¬ Y = (nx : Int) := by omega
              have u1 : (Y == (nx : Int)) = false := by simpa using u0
              have m1 : IntKind.i64.wrap ((k : Int) - 1) = (k : Int) - 1 := IntWalk.i64_in _ mb1
              clear mb1 ey q1 q2
              go_wp2_with fail
              go_big_quiet (fail)
              clear m1 m2 m3 m4
              go_wp2_with fail
              exact ⟨⟨k + 1, nx, _, hstep, by go_num, rfl, Lib.hid HQ.out.symm, rfl⟩, by simp [intOf]; omega⟩
        · have hnk : nx = K := by rw [HN.out]; exact HCA.out k (by omega)
          clear nx1
          subst hnk
          go_wp2_with fail
          go_ret
          exact ⟨rfl, Below.drewN' BB.out d⟩

end Go.Proofs.Ythbnhdocjnhhlaa
