/- Contracts of trop.Min and of the document's own Least, at any slice of numbers. -/
import Derived.Test.YtcdenblejfmkaaaDoorTropA
namespace Go.Proofs.YtcdenblejfmkaaaDoor
open Go.RowKit

/-- The least of numbers, Inf of none. -/
def least (l : List Int) : Int := l.foldl (fun m n => if n < m then n else m) 1152921504606846976

theorem least_nil : least [] = 1152921504606846976 := rfl
theorem least_snoc (l : List Int) (n : Int) : least (l ++ [n]) = if n < least l then n else least l := by
  unfold least; rw [List.foldl_append]; rfl
theorem take_snoc (l : List Int) (k : Nat) (h : k < l.length) : l.take (k + 1) = l.take k ++ [l.getD k 0] := by
  rw [List.take_succ_eq_append_getElem h]; simp [h]

set_option maxHeartbeats 400000 in
theorem min_any (l : List Int) (len cap : Nat) (b off : Nat) (w : World) (hl : l.length = len) (hm : len ≤ 9223372036854775806)
    (hc : ∀ i, i < len → w.cell? ⟨b, off + i, none⟩ = some (.int .i64 (l.getD i 0))) :
    Calls Tryd.prog 9 #[.slice (some ⟨b, off, none⟩) len cap] w fun e w' => e = .returned (.int .i64 (least l)) ∧ w = w' := by
  have HL := Lib.hid hl; clear hl
  have HC := Lib.hid hc; clear hc
  go_enter Tryd.func9, Tryd.ntmps9
  go_wp2_with fail
  go_loop [3, 8] (fun m i => ∃ k : Nat, k ≤ len ∧ i = .int .i64 k ∧ m = .int .i64 (least (l.take k))) (fun _ i => len - (intOf i).toNat)
  case atStart => exact ⟨0, Nat.zero_le _, rfl, rfl⟩
  case round =>
    obtain ⟨k, hk, rfl, rfl⟩ := hrel
    by_cases hlt : k < len
    · have hcell := HC.out k hlt
      have hs := least_snoc (l.take k) (l.getD k 0)
      rw [← take_snoc l k (by rw [HL.out]; exact hlt)] at hs
      have HS := Lib.hid hs; clear hs
      generalize hm : least (l.take k) = m at *
      generalize hx : l.getD k 0 = x at *
      have HM := Lib.hid hm; clear hm
      have HX := Lib.hid hx; clear hx
      by_cases hxm : x < m
      · go_wp2
        go_round
        case rel => exact ⟨k + 1, by omega, by go_num, by rw [HS.out, if_pos hxm]⟩
        case measure => simp [intOf]; omega
      · go_wp2
        go_round
        case rel => exact ⟨k + 1, by omega, by go_num, by rw [HS.out, if_neg hxm]⟩
        case measure => simp [intOf]; omega
    · go_wp2
      go_ret
      exact ⟨ret_int (by rw [List.take_of_length_le (by rw [HL.out]; omega)]), rfl⟩

theorem min_nil (w : World) :
    Calls Tryd.prog 9 #[.slice none 0 0] w fun e w' => e = .returned (.int .i64 1152921504606846976) ∧ w = w' := by
  go_enter Tryd.func9, Tryd.ntmps9
  go_wp2_with fail
  refine wp_loop_rounds 1 ?_; rw [rounds_succ]
  go_wp2
  go_ret
  exact ⟨rfl, rfl⟩

end Go.Proofs.YtcdenblejfmkaaaDoor
