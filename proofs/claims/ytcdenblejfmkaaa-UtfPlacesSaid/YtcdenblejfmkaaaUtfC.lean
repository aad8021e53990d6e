/- Contract of utf's front: how many bytes a row begins with that are a front of a scalar. -/
import Derived.Test.YtcdenblejfmkaaaUtfB
import Derived.RegionTactic
import Derived.ChangeAlike
namespace Go.Proofs.Ytcdenblejfmkaaa
open Go.RowKit

theorem lsOf_le (c : Int) : 1 ≤ lsOf c ∧ lsOf c ≤ 4 := by unfold lsOf; (repeat' split) <;> omega
theorem fr_cases (l : List UInt8) (x0 x1 x2 x3 : Int) (h0 : bt l 0 = x0) (h1 : bt l 1 = x1) (h2 : bt l 2 = x2) (h3 : bt l 3 = x3) :
    (lsOf x0 ≤ 1 ∧ fr l = 1) ∨ (2 ≤ lsOf x0 ∧ l.length ≤ 1 ∧ fr l = 1) ∨ (2 ≤ lsOf x0 ∧ 1 < l.length ∧ inB (spLo x0) (spHi x0) x1 = false ∧ fr l = 1) ∨
    (lsOf x0 ≤ 2 ∧ 2 ≤ lsOf x0 ∧ 1 < l.length ∧ inB (spLo x0) (spHi x0) x1 = true ∧ fr l = 2) ∨
    (3 ≤ lsOf x0 ∧ 1 < l.length ∧ l.length ≤ 2 ∧ inB (spLo x0) (spHi x0) x1 = true ∧ fr l = 2) ∨
    (3 ≤ lsOf x0 ∧ 2 < l.length ∧ inB (spLo x0) (spHi x0) x1 = true ∧ inB 128 191 x2 = false ∧ fr l = 2) ∨
    (3 ≤ lsOf x0 ∧ lsOf x0 ≤ 3 ∧ 2 < l.length ∧ inB (spLo x0) (spHi x0) x1 = true ∧ inB 128 191 x2 = true ∧ fr l = 3) ∨
    (4 ≤ lsOf x0 ∧ lsOf x0 ≤ 4 ∧ 2 < l.length ∧ l.length ≤ 3 ∧ inB (spLo x0) (spHi x0) x1 = true ∧ inB 128 191 x2 = true ∧ fr l = 3) ∨
    (4 ≤ lsOf x0 ∧ lsOf x0 ≤ 4 ∧ 3 < l.length ∧ inB (spLo x0) (spHi x0) x1 = true ∧ inB 128 191 x2 = true ∧ inB 128 191 x3 = false ∧ fr l = 3) ∨
    (4 ≤ lsOf x0 ∧ lsOf x0 ≤ 4 ∧ 3 < l.length ∧ inB (spLo x0) (spHi x0) x1 = true ∧ inB 128 191 x2 = true ∧ inB 128 191 x3 = true ∧ fr l = 4) := by
  have hb := lsOf_le x0
  unfold fr
  rw [h0, h1, h2, h3]
  generalize inB (spLo x0) (spHi x0) x1 = B1; generalize inB 128 191 x2 = B2; generalize inB 128 191 x3 = B3; generalize lsOf x0 = n at *
  by_cases n1 : n ≤ 1
  · left; simp; (repeat' split) <;> omega
  by_cases c1 : 1 < l.length
  · cases B1
    · right; right; left; simp; (repeat' split) <;> omega
    · by_cases n2 : n ≤ 2
      · right; right; right; left; simp [c1]; (repeat' split) <;> omega
      · by_cases c2 : 2 < l.length
        · cases B2
          · right; right; right; right; right; left; simp [c1]; (repeat' split) <;> omega
          · by_cases n3 : n ≤ 3
            · right; right; right; right; right; right; left; simp [c1, c2]; (repeat' split) <;> omega
            · by_cases c3 : 3 < l.length
              · cases B3
                · right; right; right; right; right; right; right; right; left; simp [c1, c2]; (repeat' split) <;> omega
                · right; right; right; right; right; right; right; right; right; simp [c1, c2, c3]; (repeat' split) <;> omega
              · right; right; right; right; right; right; right; left; simp [c1, c2]; (repeat' split) <;> omega
        · right; right; right; right; left; simp [c1]; (repeat' split) <;> omega
  · right; left; simp; (repeat' split) <;> omega

theorem bt_get (s : ByteArray) (i : Nat) (h : i < s.size) : ((s[i]'h).toNat : Int) = bt s.data.toList i := by
  have e := get_bt s 0 i
  rw [List.drop_zero, Nat.zero_add] at e
  rw [← e]
  congr 2
  cases s with
  | mk d => exact (getElem!_pos d i h).symm

theorem below_step {w a b : World} (h : Below w.heap.size w a) (k : Below a.heap.size a b) : Below w.heap.size w b := h.trans (k.mono h.size)
theorem below_drewN {B : Nat} {a w : World} (h : Below B a w) (n : Nat) : Below B a (w.drewN n) := ⟨h.os, h.tape, h.output, h.size, h.block⟩

set_option maxHeartbeats 1000000 in
theorem front_any (s : ByteArray) (w : World) (hs : 0 < s.size) (hm : s.size ≤ 9223372036854775807) :
    Calls Try.prog 22 #[.string s] w fun e w' => e = .returned (.int .i64 (fr s.data.toList)) ∧ Below w.heap.size w w' := by
  obtain ⟨x0, q0⟩ : ∃ x, bt s.data.toList 0 = x := ⟨_, rfl⟩
  obtain ⟨x1, q1⟩ : ∃ x, bt s.data.toList 1 = x := ⟨_, rfl⟩
  obtain ⟨x2, q2⟩ : ∃ x, bt s.data.toList 2 = x := ⟨_, rfl⟩
  obtain ⟨x3, q3⟩ : ∃ x, bt s.data.toList 3 = x := ⟨_, rfl⟩
  have y0 : ((s[0]'hs).toNat : Int) = x0 := by rw [bt_get s 0 hs, q0]
  have r0 := bt_lt s.data.toList 0; rw [q0] at r0
  have hl : s.data.toList.length = s.size := rfl
  have hc := fr_cases s.data.toList _ _ _ _ q0 q1 q2 q3
  rw [hl] at hc
  have hb := lsOf_le x0
  clear hl
  have Y0 := Lib.hid y0; have Q1 := Lib.hid q1; have Q2 := Lib.hid q2; have Q3 := Lib.hid q3; clear y0 q0 q1 q2 q3
  generalize fr s.data.toList = F at *
  rcases hc with ⟨a1, hf⟩ | ⟨a1, a2, hf⟩ | ⟨a1, a2, b1, hf⟩ | ⟨a1, a2, a3, b1, hf⟩ | ⟨a1, a2, a3, b1, hf⟩ | ⟨a1, a2, b1, b2, hf⟩ | ⟨a1, a2, a3, b1, b2, hf⟩ | ⟨a1, a2, a3, a4, b1, b2, hf⟩ | ⟨a1, a2, a3, b1, b2, b3, hf⟩ | ⟨a1, a2, a3, b1, b2, b3, hf⟩ <;> have HF := Lib.hid hf <;> clear hf
  · go_enter Try.func22, Try.ntmps22
    go_wp2_with fail
    rw [Y0.out]
    refine (lead_any _ _ (by omega) (by omega)).mono ?_
    rintro e w1 ⟨rfl, hb1⟩
    go_wp2_with fail
    go_quiet (fail)
    go_wp2_with fail
    refine wp_loop_rounds 4 ?_; rw [rounds_succ]
    go_wp2_with fail
    go_ret
    exact ⟨ret_int (by rw [HF.out]; rfl), (below_drewN ((hb1).alloc hb1.size _) _)⟩
  · go_enter Try.func22, Try.ntmps22
    go_wp2_with fail
    rw [Y0.out]
    refine (lead_any _ _ (by omega) (by omega)).mono ?_
    rintro e w1 ⟨rfl, hb1⟩
    go_wp2_with fail
    go_quiet (fail)
    go_wp2_with fail
    refine wp_loop_rounds 4 ?_; rw [rounds_succ]
    go_wp2_with fail
    go_ret
    exact ⟨ret_int (by rw [HF.out]; rfl), (below_drewN ((hb1).alloc hb1.size _) _)⟩
  · rcases Int.lt_or_le (s.size : Int) (lsOf x0) with hms | hms
    all_goals
      have y1 : ((s[1]'(by omega)).toNat : Int) = x1 := by rw [bt_get s 1 (by omega), Q1.out]
      have Y1 := Lib.hid y1; clear y1
      go_enter Try.func22, Try.ntmps22
      go_wp2_with fail
      rw [Y0.out]
      refine (lead_any _ _ (by omega) (by omega)).mono ?_
      rintro e w1 ⟨rfl, hb1⟩
      go_wp2_with fail
      go_quiet (fail)
      go_wp2_with fail
      refine wp_loop_rounds 4 ?_; rw [rounds_succ]
      go_wp2_with fail
      rw [Y1.out]
      refine (has_any _ _ _ _).mono ?_
      rintro e w2 ⟨rfl, hb2⟩
      rw [b1]
      have hB2 : Below w.heap.size w w2 := below_step (below_drewN ((hb1).alloc hb1.size _) _) hb2
      clear hb2
      go_wp2_with fail
      go_ret
      exact ⟨ret_int (by rw [HF.out]; rfl), hB2⟩
  · have y1 : ((s[1]'(by omega)).toNat : Int) = x1 := by rw [bt_get s 1 (by omega), Q1.out]
    have Y1 := Lib.hid y1; clear y1
    go_enter Try.func22, Try.ntmps22
    go_wp2_with fail
    rw [Y0.out]
    refine (lead_any _ _ (by omega) (by omega)).mono ?_
    rintro e w1 ⟨rfl, hb1⟩
    go_wp2_with fail
    go_quiet (fail)
    go_wp2_with fail
    refine wp_loop_rounds 4 ?_; rw [rounds_succ]
    go_wp2_with fail
    rw [Y1.out]
    refine (has_any _ _ _ _).mono ?_
    rintro e w2 ⟨rfl, hb2⟩
    rw [b1]
    have hB2 : Below w.heap.size w w2 := below_step (below_drewN ((hb1).alloc hb1.size _) _) hb2
    clear hb2
    go_wp2_with fail
    refine (behind_any _).mono ?_
    rintro e w3 ⟨rfl, hb3⟩
    have hB3 : Below w.heap.size w w3 := below_step hB2 hb3
    clear hb3
    go_wp2_with fail
    rw [rounds_succ]
    go_wp2_with fail
    go_ret
    exact ⟨ret_int (by rw [HF.out]; rfl), hB3⟩
  · have y1 : ((s[1]'(by omega)).toNat : Int) = x1 := by rw [bt_get s 1 (by omega), Q1.out]
    have Y1 := Lib.hid y1; clear y1
    go_enter Try.func22, Try.ntmps22
    go_wp2_with fail
    rw [Y0.out]
    refine (lead_any _ _ (by omega) (by omega)).mono ?_
    rintro e w1 ⟨rfl, hb1⟩
    go_wp2_with fail
    go_quiet (fail)
    go_wp2_with fail
    refine wp_loop_rounds 4 ?_; rw [rounds_succ]
    go_wp2_with fail
    rw [Y1.out]
    refine (has_any _ _ _ _).mono ?_
    rintro e w2 ⟨rfl, hb2⟩
    rw [b1]
    have hB2 : Below w.heap.size w w2 := below_step (below_drewN ((hb1).alloc hb1.size _) _) hb2
    clear hb2
    go_wp2_with fail
    refine (behind_any _).mono ?_
    rintro e w3 ⟨rfl, hb3⟩
    have hB3 : Below w.heap.size w w3 := below_step hB2 hb3
    clear hb3
    go_wp2_with fail
    rw [rounds_succ]
    go_wp2_with fail
    go_ret
    exact ⟨ret_int (by rw [HF.out]; rfl), hB3⟩
  · rcases Int.lt_or_le (s.size : Int) (lsOf x0) with hms | hms
    all_goals
      have y1 : ((s[1]'(by omega)).toNat : Int) = x1 := by rw [bt_get s 1 (by omega), Q1.out]
      have Y1 := Lib.hid y1; clear y1
      have y2 : ((s[2]'(by omega)).toNat : Int) = x2 := by rw [bt_get s 2 (by omega), Q2.out]
      have Y2 := Lib.hid y2; clear y2
      go_enter Try.func22, Try.ntmps22
      go_wp2_with fail
      rw [Y0.out]
      refine (lead_any _ _ (by omega) (by omega)).mono ?_
      rintro e w1 ⟨rfl, hb1⟩
      go_wp2_with fail
      go_quiet (fail)
      go_wp2_with fail
      refine wp_loop_rounds 4 ?_; rw [rounds_succ]
      go_wp2_with fail
      rw [Y1.out]
      refine (has_any _ _ _ _).mono ?_
      rintro e w2 ⟨rfl, hb2⟩
      rw [b1]
      have hB2 : Below w.heap.size w w2 := below_step (below_drewN ((hb1).alloc hb1.size _) _) hb2
      clear hb2
      go_wp2_with fail
      refine (behind_any _).mono ?_
      rintro e w3 ⟨rfl, hb3⟩
      have hB3 : Below w.heap.size w w3 := below_step hB2 hb3
      clear hb3
      go_wp2_with fail
      rw [rounds_succ]
      go_wp2_with fail
      rw [Y2.out]
      refine (has_any _ _ _ _).mono ?_
      rintro e w4 ⟨rfl, hb4⟩
      rw [b2]
      have hB4 : Below w.heap.size w w4 := below_step hB3 hb4
      clear hb4
      go_wp2_with fail
      go_ret
      exact ⟨ret_int (by rw [HF.out]; rfl), hB4⟩
  · have y1 : ((s[1]'(by omega)).toNat : Int) = x1 := by rw [bt_get s 1 (by omega), Q1.out]
    have Y1 := Lib.hid y1; clear y1
    have y2 : ((s[2]'(by omega)).toNat : Int) = x2 := by rw [bt_get s 2 (by omega), Q2.out]
    have Y2 := Lib.hid y2; clear y2
    go_enter Try.func22, Try.ntmps22
    go_wp2_with fail
    rw [Y0.out]
    refine (lead_any _ _ (by omega) (by omega)).mono ?_
    rintro e w1 ⟨rfl, hb1⟩
    go_wp2_with fail
    go_quiet (fail)
    go_wp2_with fail
    refine wp_loop_rounds 4 ?_; rw [rounds_succ]
    go_wp2_with fail
    rw [Y1.out]
    refine (has_any _ _ _ _).mono ?_
    rintro e w2 ⟨rfl, hb2⟩
    rw [b1]
    have hB2 : Below w.heap.size w w2 := below_step (below_drewN ((hb1).alloc hb1.size _) _) hb2
    clear hb2
    go_wp2_with fail
    refine (behind_any _).mono ?_
    rintro e w3 ⟨rfl, hb3⟩
    have hB3 : Below w.heap.size w w3 := below_step hB2 hb3
    clear hb3
    go_wp2_with fail
    rw [rounds_succ]
    go_wp2_with fail
    rw [Y2.out]
    refine (has_any _ _ _ _).mono ?_
    rintro e w4 ⟨rfl, hb4⟩
    rw [b2]
    have hB4 : Below w.heap.size w w4 := below_step hB3 hb4
    clear hb4
    go_wp2_with fail
    refine (behind_any _).mono ?_
    rintro e w5 ⟨rfl, hb5⟩
    have hB5 : Below w.heap.size w w5 := below_step hB4 hb5
    clear hb5
    go_wp2_with fail
    rw [rounds_succ]
    go_wp2_with fail
    go_ret
    exact ⟨ret_int (by rw [HF.out]; rfl), hB5⟩
  · have y1 : ((s[1]'(by omega)).toNat : Int) = x1 := by rw [bt_get s 1 (by omega), Q1.out]
    have Y1 := Lib.hid y1; clear y1
    have y2 : ((s[2]'(by omega)).toNat : Int) = x2 := by rw [bt_get s 2 (by omega), Q2.out]
    have Y2 := Lib.hid y2; clear y2
    go_enter Try.func22, Try.ntmps22
    go_wp2_with fail
    rw [Y0.out]
    refine (lead_any _ _ (by omega) (by omega)).mono ?_
    rintro e w1 ⟨rfl, hb1⟩
    go_wp2_with fail
    go_quiet (fail)
    go_wp2_with fail
    refine wp_loop_rounds 4 ?_; rw [rounds_succ]
    go_wp2_with fail
    rw [Y1.out]
    refine (has_any _ _ _ _).mono ?_
    rintro e w2 ⟨rfl, hb2⟩
    rw [b1]
    have hB2 : Below w.heap.size w w2 := below_step (below_drewN ((hb1).alloc hb1.size _) _) hb2
    clear hb2
    go_wp2_with fail
    refine (behind_any _).mono ?_
    rintro e w3 ⟨rfl, hb3⟩
    have hB3 : Below w.heap.size w w3 := below_step hB2 hb3
    clear hb3
    go_wp2_with fail
    rw [rounds_succ]
    go_wp2_with fail
    rw [Y2.out]
    refine (has_any _ _ _ _).mono ?_
    rintro e w4 ⟨rfl, hb4⟩
    rw [b2]
    have hB4 : Below w.heap.size w w4 := below_step hB3 hb4
    clear hb4
    go_wp2_with fail
    refine (behind_any _).mono ?_
    rintro e w5 ⟨rfl, hb5⟩
    have hB5 : Below w.heap.size w w5 := below_step hB4 hb5
    clear hb5
    go_wp2_with fail
    rw [rounds_succ]
    go_wp2_with fail
    go_ret
    exact ⟨ret_int (by rw [HF.out]; rfl), hB5⟩
  · have y1 : ((s[1]'(by omega)).toNat : Int) = x1 := by rw [bt_get s 1 (by omega), Q1.out]
    have Y1 := Lib.hid y1; clear y1
    have y2 : ((s[2]'(by omega)).toNat : Int) = x2 := by rw [bt_get s 2 (by omega), Q2.out]
    have Y2 := Lib.hid y2; clear y2
    have y3 : ((s[3]'(by omega)).toNat : Int) = x3 := by rw [bt_get s 3 (by omega), Q3.out]
    have Y3 := Lib.hid y3; clear y3
    go_enter Try.func22, Try.ntmps22
    go_wp2_with fail
    rw [Y0.out]
    refine (lead_any _ _ (by omega) (by omega)).mono ?_
    rintro e w1 ⟨rfl, hb1⟩
    go_wp2_with fail
    go_quiet (fail)
    go_wp2_with fail
    refine wp_loop_rounds 4 ?_; rw [rounds_succ]
    go_wp2_with fail
    rw [Y1.out]
    refine (has_any _ _ _ _).mono ?_
    rintro e w2 ⟨rfl, hb2⟩
    rw [b1]
    have hB2 : Below w.heap.size w w2 := below_step (below_drewN ((hb1).alloc hb1.size _) _) hb2
    clear hb2
    go_wp2_with fail
    refine (behind_any _).mono ?_
    rintro e w3 ⟨rfl, hb3⟩
    have hB3 : Below w.heap.size w w3 := below_step hB2 hb3
    clear hb3
    go_wp2_with fail
    rw [rounds_succ]
    go_wp2_with fail
    rw [Y2.out]
    refine (has_any _ _ _ _).mono ?_
    rintro e w4 ⟨rfl, hb4⟩
    rw [b2]
    have hB4 : Below w.heap.size w w4 := below_step hB3 hb4
    clear hb4
    go_wp2_with fail
    refine (behind_any _).mono ?_
    rintro e w5 ⟨rfl, hb5⟩
    have hB5 : Below w.heap.size w w5 := below_step hB4 hb5
    clear hb5
    go_wp2_with fail
    rw [rounds_succ]
    go_wp2_with fail
    rw [Y3.out]
    refine (has_any _ _ _ _).mono ?_
    rintro e w6 ⟨rfl, hb6⟩
    rw [b3]
    have hB6 : Below w.heap.size w w6 := below_step hB5 hb6
    clear hb6
    go_wp2_with fail
    go_ret
    exact ⟨ret_int (by rw [HF.out]; rfl), hB6⟩
  · have y1 : ((s[1]'(by omega)).toNat : Int) = x1 := by rw [bt_get s 1 (by omega), Q1.out]
    have Y1 := Lib.hid y1; clear y1
    have y2 : ((s[2]'(by omega)).toNat : Int) = x2 := by rw [bt_get s 2 (by omega), Q2.out]
    have Y2 := Lib.hid y2; clear y2
    have y3 : ((s[3]'(by omega)).toNat : Int) = x3 := by rw [bt_get s 3 (by omega), Q3.out]
    have Y3 := Lib.hid y3; clear y3
    go_enter Try.func22, Try.ntmps22
    go_wp2_with fail
    rw [Y0.out]
    refine (lead_any _ _ (by omega) (by omega)).mono ?_
    rintro e w1 ⟨rfl, hb1⟩
    go_wp2_with fail
    go_quiet (fail)
    go_wp2_with fail
    refine wp_loop_rounds 4 ?_; rw [rounds_succ]
    go_wp2_with fail
    rw [Y1.out]
    refine (has_any _ _ _ _).mono ?_
    rintro e w2 ⟨rfl, hb2⟩
    rw [b1]
    have hB2 : Below w.heap.size w w2 := below_step (below_drewN ((hb1).alloc hb1.size _) _) hb2
    clear hb2
    go_wp2_with fail
    refine (behind_any _).mono ?_
    rintro e w3 ⟨rfl, hb3⟩
    have hB3 : Below w.heap.size w w3 := below_step hB2 hb3
    clear hb3
    go_wp2_with fail
    rw [rounds_succ]
    go_wp2_with fail
    rw [Y2.out]
    refine (has_any _ _ _ _).mono ?_
    rintro e w4 ⟨rfl, hb4⟩
    rw [b2]
    have hB4 : Below w.heap.size w w4 := below_step hB3 hb4
    clear hb4
    go_wp2_with fail
    refine (behind_any _).mono ?_
    rintro e w5 ⟨rfl, hb5⟩
    have hB5 : Below w.heap.size w w5 := below_step hB4 hb5
    clear hb5
    go_wp2_with fail
    rw [rounds_succ]
    go_wp2_with fail
    rw [Y3.out]
    refine (has_any _ _ _ _).mono ?_
    rintro e w6 ⟨rfl, hb6⟩
    rw [b3]
    have hB6 : Below w.heap.size w w6 := below_step hB5 hb6
    clear hb6
    go_wp2_with fail
    refine (behind_any _).mono ?_
    rintro e w7 ⟨rfl, hb7⟩
    have hB7 : Below w.heap.size w w7 := below_step hB6 hb7
    clear hb7
    go_wp2_with fail
    rw [rounds_succ]
    go_wp2_with fail
    go_ret
    exact ⟨ret_int (by rw [HF.out]; rfl), hB7⟩

end Go.Proofs.Ytcdenblejfmkaaa
