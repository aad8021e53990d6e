/- The law SynMany, walked. -/
import Derived.Test.YtalgnnidhnhciaaGreatDoorUSynKa
set_option linter.unusedVariables false
set_option linter.unusedSimpArgs false
namespace Go.Proofs.YtalgnnidhnhciaaGreatDoor
open Go Go.RowKit Go.Proofs
set_option linter.unusedVariables false

set_option maxRecDepth 100000 in
set_option maxHeartbeats 8000000 in
theorem synMany_walk (a0 a1 : Int) (w : World) (w0 : (Lit.int .i64 a0).wf = true) (w1 : (Lit.int .i64 a1).wf = true) (hE : ErrV w) (hT : TabD w) :
    Calls Tryz.prog 5 #[.int .i64 a0, .int .i64 a1] w fun e w' => e = .returned (.bool true) ∧ Below w.heap.size w w' := by
  obtain ⟨k, hk, hkc⟩ := within5_nat a0 15 (by omega) (by omega) w
  obtain ⟨j, hj, hjc⟩ := within5_nat a1 24 (by omega) (by omega) w
  have HKC := Lib.hid hkc; have HJC := Lib.hid hjc; have HKN := Lib.hid (known5_ok w hE hT); have HE := Lib.hid hE
  clear hkc hjc hE hT w0 w1
  have k0 : (0 : Int) ≤ (k : Int) := Int.natCast_nonneg _
  have j0 : (0 : Int) ≤ (j : Int) := Int.natCast_nonneg _
  go_enter Tryz.func5, Tryz.ntmps5
  go_wp2_with fail
  refine HKN.out.mono ?_
  rintro e W ⟨rfl, hb⟩
  have hE := HE.out.below hb
  have HB := Lib.hid hb; clear hb HE HKN
  have HE := Lib.hid hE; clear hE
  go_wp2_with fail
  refine (HKC.out _).mono ?_
  rintro e W' ⟨rfl, rfl⟩
  go_wp2_with fail
  refine (HJC.out _).mono ?_
  rintro e W' ⟨rfl, rfl⟩
  clear HKC HJC
  go_wp2_with fail
  go_loopg [7, 8, 9] k (fun gk vs va vi wr => ∃ (i at_ : Nat) (s : ByteArray), vi = .int .i64 i ∧ va = .int .i64 at_ ∧ vs = .string s ∧ gk = k - i ∧ i ≤ k ∧ Hid (s.data.toList = mC i) ∧ Hid (at_ = mAtC i) ∧ at_ ≤ 1000 ∧ W = wr)
  case atStart => exact ⟨0, 0, _, rfl, rfl, rfl, rfl, Nat.zero_le _, Lib.hid rfl, Lib.hid rfl, by omega, rfl⟩
  case round =>
    obtain ⟨i, at_, s, rfl, rfl, rfl, hgk, hi, HS, HA, ha, rfl⟩ := hrel
    have HGK := Lib.hid hgk; clear hgk
    have i0 : (0 : Int) ≤ (i : Int) := Int.natCast_nonneg _
    have hsz : s.size = 15 * i := by rw [← mC_len i, ← HS.out]; rfl
    by_cases hlt : i < k
    · have i1 : (i : Int) < (k : Int) := by omega
      have hlet := letters i (by omega)
      have hmc : ∀ x y z u : ByteArray, x.data.toList = mC i → y.data.toList = [99, 108, 97, 115, 115, 32, 113] → z.data.toList = [UInt8.ofNat (97 + i)] → u.data.toList = [32, 61, 32, 39, 97, 39, 59] → (x ++ y ++ z ++ u).data.toList = mC (i + 1) := fun x y z u h1 h2 h3 h4 => by
        simp only [ByteArray.data_append, Array.toList_append, h1, h2, h3, h4]
        show _ = mC i ++ mClass i
        simp [mClass]
      have HMC := Lib.hid hmc; have HLET := Lib.hid hlet
      clear hmc hlet
      have hi14 : i = 0 ∨ i = 1 ∨ i = 2 ∨ i = 3 ∨ i = 4 ∨ i = 5 ∨ i = 6 ∨ i = 7 ∨ i = 8 ∨ i = 9 ∨ i = 10 ∨ i = 11 ∨ i = 12 ∨ i = 13 := by omega
      rcases hi14 with rfl | rfl | rfl | rfl | rfl | rfl | rfl | rfl | rfl | rfl | rfl | rfl | rfl | rfl
      · have hz : s.size = 0 := hsz
        clear hsz
        go_wp2_with fail
        go_roundg (k - 1)
        case measure => have := HGK.out; omega
        case rel => exact ⟨1, at_, _, by go_num, rfl, rfl, rfl, hlt, Lib.hid (HMC.out _ _ _ _ HS.out rfl HLET.out rfl), Lib.hid (by rw [HA.out]; rfl), by omega, rfl⟩
      · have hz : s.size = 15 := hsz
        clear hsz
        go_wp2_with fail
        go_roundg (k - 2)
        case measure => have := HGK.out; omega
        case rel => exact ⟨2, at_, _, by go_num, rfl, rfl, rfl, hlt, Lib.hid (HMC.out _ _ _ _ HS.out rfl HLET.out rfl), Lib.hid (by rw [HA.out]; rfl), by omega, rfl⟩
      · have hz : s.size = 30 := hsz
        clear hsz
        go_wp2_with fail
        go_roundg (k - 3)
        case measure => have := HGK.out; omega
        case rel => exact ⟨3, at_, _, by go_num, rfl, rfl, rfl, hlt, Lib.hid (HMC.out _ _ _ _ HS.out rfl HLET.out rfl), Lib.hid (by rw [HA.out]; rfl), by omega, rfl⟩
      · have hz : s.size = 45 := hsz
        clear hsz
        go_wp2_with fail
        go_roundg (k - 4)
        case measure => have := HGK.out; omega
        case rel => exact ⟨4, at_, _, by go_num, rfl, rfl, rfl, hlt, Lib.hid (HMC.out _ _ _ _ HS.out rfl HLET.out rfl), Lib.hid (by rw [HA.out]; rfl), by omega, rfl⟩
      · have hz : s.size = 60 := hsz
        clear hsz
        go_wp2_with fail
        go_roundg (k - 5)
        case measure => have := HGK.out; omega
        case rel => exact ⟨5, at_, _, by go_num, rfl, rfl, rfl, hlt, Lib.hid (HMC.out _ _ _ _ HS.out rfl HLET.out rfl), Lib.hid (by rw [HA.out]; rfl), by omega, rfl⟩
      · have hz : s.size = 75 := hsz
        clear hsz
        go_wp2_with fail
        go_roundg (k - 6)
        case measure => have := HGK.out; omega
        case rel => exact ⟨6, at_, _, by go_num, rfl, rfl, rfl, hlt, Lib.hid (HMC.out _ _ _ _ HS.out rfl HLET.out rfl), Lib.hid (by rw [HA.out]; rfl), by omega, rfl⟩
      · have hz : s.size = 90 := hsz
        clear hsz
        go_wp2_with fail
        go_roundg (k - 7)
        case measure => have := HGK.out; omega
        case rel => exact ⟨7, at_, _, by go_num, rfl, rfl, rfl, hlt, Lib.hid (HMC.out _ _ _ _ HS.out rfl HLET.out rfl), Lib.hid (by rw [HA.out]; rfl), by omega, rfl⟩
      · have hz : s.size = 105 := hsz
        clear hsz
        go_wp2_with fail
        go_roundg (k - 8)
        case measure => have := HGK.out; omega
        case rel => exact ⟨8, at_, _, by go_num, rfl, rfl, rfl, hlt, Lib.hid (HMC.out _ _ _ _ HS.out rfl HLET.out rfl), Lib.hid (by rw [HA.out]; rfl), by omega, rfl⟩
      · have hz : s.size = 120 := hsz
        clear hsz
        go_wp2_with fail
        go_roundg (k - 9)
        case measure => have := HGK.out; omega
        case rel => exact ⟨9, at_, _, by go_num, rfl, rfl, rfl, hlt, Lib.hid (HMC.out _ _ _ _ HS.out rfl HLET.out rfl), Lib.hid (by rw [HA.out]; rfl), by omega, rfl⟩
      · have hz : s.size = 135 := hsz
        clear hsz
        go_wp2_with fail
        go_roundg (k - 10)
        case measure => have := HGK.out; omega
        case rel => exact ⟨10, at_, _, by go_num, rfl, rfl, rfl, hlt, Lib.hid (HMC.out _ _ _ _ HS.out rfl HLET.out rfl), Lib.hid (by rw [HA.out]; rfl), by omega, rfl⟩
      · have hz : s.size = 150 := hsz
        clear hsz
        go_wp2_with fail
        go_roundg (k - 11)
        case measure => have := HGK.out; omega
        case rel => exact ⟨11, at_, _, by go_num, rfl, rfl, rfl, hlt, Lib.hid (HMC.out _ _ _ _ HS.out rfl HLET.out rfl), Lib.hid (by rw [HA.out]; rfl), by omega, rfl⟩
      · have hz : s.size = 165 := hsz
        clear hsz
        go_wp2_with fail
        go_roundg (k - 12)
        case measure => have := HGK.out; omega
        case rel => exact ⟨12, at_, _, by go_num, rfl, rfl, rfl, hlt, Lib.hid (HMC.out _ _ _ _ HS.out rfl HLET.out rfl), Lib.hid (by rw [HA.out]; rfl), by omega, rfl⟩
      · have hz : s.size = 180 := hsz
        clear hsz
        go_wp2_with fail
        go_roundg (k - 13)
        case measure => have := HGK.out; omega
        case rel => exact ⟨13, 180, _, by go_num, rfl, rfl, rfl, hlt, Lib.hid (HMC.out _ _ _ _ HS.out rfl HLET.out rfl), Lib.hid (by decide), by omega, rfl⟩
      · have hz : s.size = 195 := hsz
        clear hsz
        go_wp2_with fail
        go_roundg (k - 14)
        case measure => have := HGK.out; omega
        case rel => exact ⟨14, at_, _, by go_num, rfl, rfl, rfl, hlt, Lib.hid (HMC.out _ _ _ _ HS.out rfl HLET.out rfl), Lib.hid (by rw [HA.out]; rfl), by omega, rfl⟩
    · have hik : i = k := by omega
      subst hik
      clear HGK hsz hlt hi
      go_wp2_with fail
      go_loopg [7, 8, 10] j (fun gk vs va vi wr => ∃ (i2 at_ : Nat) (s : ByteArray), vi = .int .i64 i2 ∧ va = .int .i64 at_ ∧ vs = .string s ∧ gk = j - i2 ∧ i2 ≤ j ∧ Hid (s.data.toList = mL i i2) ∧ Hid (at_ = mAt i i2) ∧ at_ ≤ 10000 ∧ W = wr)
      case atStart => exact ⟨0, at_, s, rfl, rfl, rfl, rfl, Nat.zero_le _, HS, Lib.hid (by rw [HA.out]; unfold mAt; rw [if_neg (by omega)]), by omega, rfl⟩
      case round =>
        clear HS HA ha
        obtain ⟨i2, at2, s2, rfl, rfl, rfl, hgk, hi2, HS, HA, ha2, rfl⟩ := hrel
        have HGK := Lib.hid hgk; clear hgk
        have i20 : (0 : Int) ≤ (i2 : Int) := Int.natCast_nonneg _
        have hsz : s2.size = 15 * i + 11 * i2 := by rw [← mL_len i i2, ← HS.out]; rfl
        by_cases hlt : i2 < j
        · have i21 : (i2 : Int) < (j : Int) := by omega
          have hmc : ∀ x y : ByteArray, x.data.toList = mL i i2 → y.data.toList = mLine → (x ++ y).data.toList = mL i (i2 + 1) := fun x y h1 h2 => by
            simp only [ByteArray.data_append, Array.toList_append, h1, h2]; rfl
          have HMC := Lib.hid hmc; clear hmc
          by_cases h20 : i2 = 20
          · subst h20
            by_cases hk12 : i ≤ 12
            · have r12 : (i : Int) ≤ 12 := by omega
              have hat : 15 * i + 220 = mAt i 21 := by unfold mAt; rw [if_pos ⟨by omega, hk12⟩, mL_len]
              have HAT := Lib.hid hat; clear hat HA
              go_wp2_with fail
              go_roundg (j - 21)
              case measure => have := HGK.out; omega
              case rel => exact ⟨21, 15 * i + 220, _, by go_num, rfl, rfl, rfl, hlt, Lib.hid (HMC.out _ _ HS.out rfl), HAT, by omega, rfl⟩
            · have r12 : ¬ (i : Int) ≤ 12 := by omega
              have hat : at2 = mAt i 21 := by rw [HA.out]; unfold mAt; rw [if_neg (by omega), if_neg (by omega)]
              have HAT := Lib.hid hat; clear hat HA
              go_wp2_with fail
              go_roundg (j - 21)
              case measure => have := HGK.out; omega
              case rel => exact ⟨21, at2, _, by go_num, rfl, rfl, rfl, hlt, Lib.hid (HMC.out _ _ HS.out rfl), HAT, ha2, rfl⟩
          · have q20 : ((i2 : Int) == 20) = false := by simp; omega
            have hat : at2 = mAt i (i2 + 1) := by
              rw [HA.out]; unfold mAt
              by_cases h : 20 < i2 ∧ i ≤ 12
              · rw [if_pos h, if_pos ⟨by omega, h.2⟩]
              · rw [if_neg h, if_neg (by omega)]
            have HAT := Lib.hid hat; clear hat HA
            go_wp2_with fail
            go_roundg (j - (i2 + 1))
            case measure => have := HGK.out; omega
            case rel => exact ⟨i2 + 1, at2, _, by go_num, rfl, rfl, rfl, hlt, Lib.hid (HMC.out _ _ HS.out rfl), HAT, ha2, rfl⟩
        · have hik : i2 = j := by omega
          subst hik
          have hp := parse_any W s2 HE.out
          have HP := Lib.hid hp; clear hp HGK hsz hlt hi2
          go_wp2_with fail
          refine HP.out.mono ?_
          rintro e w2 ⟨ds, rs, ⟨⟨P1, P2⟩, P3, P4⟩, rfl, hP, hd, hr, hb2⟩
          have hm := mOk_all (k := i) (j := i2) (by omega) (by omega)
          unfold mOk at hm
          rw [← HS.out, hP] at hm
          obtain ⟨Ad, cd, rfl, hd1, hd2, -⟩ := hd.form
          obtain ⟨Ar, cr, rfl, hr1, hr2, -⟩ := hr.form
          unfold maxLen at hd2 hr2
          have HB2 := Lib.hid (HB.out.trans (hb2.mono HB.out.size))
          dsimp only at hd1 hr1 hm ⊢
          obtain ⟨n1, hn1⟩ : ∃ n, P1.length = n := ⟨_, rfl⟩
          obtain ⟨n2, hn2⟩ : ∃ n, P2.length = n := ⟨_, rfl⟩
          rw [hn1] at hd1 hm ⊢
          rw [hn2] at hr1 hm ⊢
          clear hd hr hP hn1 hn2 hb2 HS HP HB HE
          have hA := HA.out
          clear HA
          rw [← hA] at hm
          clear hA
          by_cases h12 : 12 < i
          · have r12 : (12 : Int) < (i : Int) := by omega
            have hb : (Nat.blt 12 i || Nat.blt 20 i2) = true := by simp [Nat.blt_eq, h12]
            rw [hb, if_pos rfl] at hm
            simp only [Bool.and_eq_true, beq_iff_eq] at hm
            obtain ⟨rfl, rfl, rfl⟩ := hm
            clear hb
            go_wp2_with fail
            go_ret
            exact ⟨rfl, HB2.out.alloc HB2.out.size _⟩
          · have r12 : ¬ (12 : Int) < (i : Int) := by omega
            by_cases h20 : 20 < i2
            · have r20 : (20 : Int) < (i2 : Int) := by omega
              have hb : (Nat.blt 12 i || Nat.blt 20 i2) = true := by simp [Nat.blt_eq, h20]
              rw [hb, if_pos rfl] at hm
              simp only [Bool.and_eq_true, beq_iff_eq] at hm
              obtain ⟨rfl, rfl, rfl⟩ := hm
              clear hb
              go_wp2_with fail
              go_ret
              exact ⟨rfl, HB2.out.alloc HB2.out.size _⟩
            · have r20 : ¬ (20 : Int) < (i2 : Int) := by omega
              have hb : (Nat.blt 12 i || Nat.blt 20 i2) = false := by
                have h1 : Nat.blt 12 i = false := by cases hq : Nat.blt 12 i with | false => rfl | true => (rw [Nat.blt_eq] at hq; omega)
                have h2 : Nat.blt 20 i2 = false := by cases hq : Nat.blt 20 i2 with | false => rfl | true => (rw [Nat.blt_eq] at hq; omega)
                rw [h1, h2]; rfl
              rw [hb, if_neg (by simp)] at hm
              simp only [Bool.and_eq_true, beq_iff_eq] at hm
              obtain ⟨rfl, rfl, rfl, rfl⟩ := hm
              clear hb
              go_wp2_with fail
              go_ret
              exact ⟨rfl, HB2.out.alloc HB2.out.size _⟩
end Go.Proofs.YtalgnnidhnhciaaGreatDoor
