/- Contracts of the document's own Right. -/
import Derived.Test.YtkbcepgnjoeneaaSetG
import Derived.Test.YtkbcepgnjoeneaaSetH
import Derived.Test.YtkbcepgnjoeneaaSetE
namespace Go.Proofs.Ytkbcepgnjoeneaa
open Go Go.RowKit

set_option maxRecDepth 100000 in
set_option maxHeartbeats 8000000 in
theorem rright_any {w : World} {v : Value} {n : Nat} {l : List (Int × Int)} (h : ReadsP w v n l) :
    Calls Try.prog 29 #[v] w (Says w (rightB 0 l)) := by
  have h0 := h
  obtain ⟨a, cap, rfl, hc, hm, hl⟩ := h.form
  have H0 := Lib.hid h0; clear h h0
  have HL := Lib.hid hl; clear hl
  go_enter Try.func29, Try.ntmps29
  go_wp2_with fail
  go_loopw [3] (fun i wr => ∃ (k d : Nat) (lo : Int), k ≤ n ∧ i = .int .i64 k ∧ Hid (rightB 0 l = rightB lo (l.drop k)) ∧ Hid (k = 0 → lo = 0) ∧ Hid (0 < k → lo = (l.getD (k - 1) (0, 0)).2 + 2 ∧ 0 ≤ (l.getD (k - 1) (0, 0)).2 ∧ (l.getD (k - 1) (0, 0)).2 ≤ 1114111) ∧ wr = w.drewN d) (fun i _ => n - (intOf i).toNat)
  case atStart => exact ⟨0, 0, 0, Nat.zero_le _, rfl, Lib.hid rfl, Lib.hid (fun _ => rfl), Lib.hid (fun h => absurd h (Nat.lt_irrefl 0)), rfl⟩
  case round =>
    obtain ⟨k, d, lo, hk, rfl, HG, HZ, HP, rfl⟩ := hrel
    by_cases hlt : k < n
    · obtain ⟨b, off, rfl, hbl, c1, c2⟩ := H0.out.at k hlt
      have HD := Lib.hid (drop_at l k (by rw [HL.out]; exact hlt))
      have i0 : (0 : Int) ≤ (k : Int) := Int.natCast_nonneg _
      have i1 : (k : Int) < (n : Int) := by omega
      have HX : Hid (l.getD k (0, 0) = ((l.getD k (0, 0)).1, (l.getD k (0, 0)).2)) := Lib.hid rfl
      generalize (l.getD k (0, 0)).1 = x at *
      generalize (l.getD k (0, 0)).2 = y at *
      have HS := Lib.hid (rightB_cons lo x y (l.drop (k + 1)))
      have HT : Hid (rightB 0 l = if x < lo ∨ x > y ∨ y > 1114111 then false else rightB (y + 2) (l.drop (k + 1))) := Lib.hid (by rw [HG.out, HD.out, HX.out, HS.out])
      have HY : Hid (0 < k + 1 → y + 2 = (l.getD (k + 1 - 1) (0, 0)).2 + 2 ∧ (0 ≤ y → 0 ≤ (l.getD (k + 1 - 1) (0, 0)).2) ∧ (y ≤ 1114111 → (l.getD (k + 1 - 1) (0, 0)).2 ≤ 1114111)) := Lib.hid (fun _ => by rw [Nat.add_sub_cancel, HX.out]; exact ⟨rfl, id, id⟩)
      clear HG HD HS
      by_cases hx0 : x < 0
      · have t1 : decide (x < 0) = true := by simpa using hx0
        have hlo : 0 ≤ lo := by
          rcases Nat.eq_zero_or_pos k with hz | hz
          · have := HZ.out hz; omega
          · have := HP.out hz; omega
        have E := Lib.hid (show rightB 0 l = false by rw [HT.out, if_pos (.inl (by omega))])
        go_wp2_with fail
        go_quiet (fail)
        go_wp2_with fail
        go_ret
        exact ⟨by rw [E.out]; rfl, by first | exact (Below.refl _ _).drewN' _ | exact ((Below.refl _ _).drewN' _).drewN' _⟩
      have t1 : decide (x < 0) = false := by simpa using hx0
      by_cases hxy : y < x
      · have t2 : decide (y < x) = true := by simpa using hxy
        have E := Lib.hid (show rightB 0 l = false by rw [HT.out, if_pos (.inr (.inl (by omega)))])
        go_wp2_with fail
        go_quiet (fail)
        go_wp2_with fail
        go_ret
        exact ⟨by rw [E.out]; rfl, by first | exact (Below.refl _ _).drewN' _ | exact ((Below.refl _ _).drewN' _).drewN' _⟩
      have t2 : decide (y < x) = false := by simpa using hxy
      by_cases hyl : 1114111 < y
      · have t3 : decide (1114111 < y) = true := by simpa using hyl
        have E := Lib.hid (show rightB 0 l = false by rw [HT.out, if_pos (.inr (.inr (by omega)))])
        go_wp2_with fail
        go_quiet (fail)
        go_wp2_with fail
        go_ret
        exact ⟨by rw [E.out]; rfl, by first | exact (Below.refl _ _).drewN' _ | exact ((Below.refl _ _).drewN' _).drewN' _⟩
      have t3 : decide (1114111 < y) = false := by simpa using hyl
      by_cases hk0 : 0 < k
      · obtain ⟨q1, q2, q3⟩ := HP.out hk0
        obtain ⟨b', off', e, _, _, d2⟩ := H0.out.at (k - 1) (by omega)
        simp only [Option.some.injEq, Addr.mk.injEq] at e
        obtain ⟨rfl, rfl, _⟩ := e
        have j2 : (k : Int) - 1 < (n : Int) := by omega
        have j3 : 0 ≤ (k : Int) - 1 := by omega
        have j5 : (0 : Int) < (k : Int) := by omega
        have t5 : decide (0 < k) = true := by simpa using hk0
        have j4 : ((k : Int) - 1).toNat = k - 1 := by omega
        have j1 : IntKind.i64.wrap ((k : Int) - 1) = (k : Int) - 1 := IntWalk.i64_in _ (by omega)
        generalize (l.getD (k - 1) (0, 0)).2 = z at *
        have j6 : IntKind.i64.wrap (z + 2) = z + 2 := IntWalk.i64_in _ (by omega)
        have Q1 := Lib.hid q1; clear q1
        clear HZ HP
        by_cases hxz : x < z + 2
        · have t4 : decide (x < z + 2) = true := by simpa using hxz
          have E := Lib.hid (show rightB 0 l = false by rw [HT.out, if_pos (.inl (by have := Q1.out; omega))])
          go_wp2_with fail
          go_quiet (fail)
          go_wp2_with fail
          go_ret
          exact ⟨by rw [E.out]; rfl, by first | exact (Below.refl _ _).drewN' _ | exact ((Below.refl _ _).drewN' _).drewN' _⟩
        · have t4 : decide (x < z + 2) = false := by simpa using hxz
          have E := Lib.hid (show rightB 0 l = rightB (y + 2) (l.drop (k + 1)) by rw [HT.out, if_neg (by have := Q1.out; omega)])
          have hy0 : 0 ≤ y := by omega
          have hy1 : y ≤ 1114111 := by omega
          go_wp2_with fail
          go_quiet (fail)
          go_wp2_with fail
          exact ⟨⟨k + 1, _, y + 2, by omega, by go_num, E, Lib.hid (fun h => by omega), Lib.hid (fun h => ⟨(HY.out h).1, (HY.out h).2.1 hy0, (HY.out h).2.2 hy1⟩), rfl⟩, by simp [intOf]; omega⟩
      · have hk00 : k = 0 := by omega
        have Q1 := Lib.hid (HZ.out hk00)
        have t5 : decide (0 < k) = false := by simpa using hk0
        have j5 : ¬ (0 : Int) < (k : Int) := by omega
        have E := Lib.hid (show rightB 0 l = rightB (y + 2) (l.drop (k + 1)) by rw [HT.out, if_neg (by have := Q1.out; omega)])
        have hy0 : 0 ≤ y := by omega
        have hy1 : y ≤ 1114111 := by omega
        clear hk00 HZ HP
        go_wp2_with fail
        go_quiet (fail)
        go_wp2_with fail
        exact ⟨⟨k + 1, _, y + 2, by omega, by go_num, E, Lib.hid (fun h => by omega), Lib.hid (fun h => ⟨(HY.out h).1, (HY.out h).2.1 hy0, (HY.out h).2.2 hy1⟩), rfl⟩, by simp [intOf]; omega⟩
    · go_wp2_with fail
      go_ret
      exact ⟨by rw [HG.out, List.drop_of_length_le (by have := HL.out; omega)]; rfl, by first | exact (Below.refl _ _).drewN' _ | exact ((Below.refl _ _).drewN' _).drewN' _⟩

end Go.Proofs.Ytkbcepgnjoeneaa
