/- Contract of part.owners. -/
import Derived.Test.YthbnhdocjnhhlaaPartA
import Derived.Test.YthbnhdocjnhhlaaBits
import Derived.Laws.ShiftsVar
import Derived.Laws.ShiftsVarLaws
namespace Go.Proofs.Ythbnhdocjnhhlaa
open Go Go.RowKit
set_option linter.unusedVariables false

theorem keyL_snoc (ss : List (List (Int × Int))) (n : Int) (k : Nat) (hk : k < ss.length) : keyL (ss.take (k + 1)) n = keyL (ss.take k) n ++ [hasB (ss.getD k []) n] := by
  unfold keyL hasB
  have e : ss.getD k [] = ss[k] := by simp [List.getD, List.getElem?_eq_getElem hk]
  rw [List.take_succ_eq_append_getElem hk, List.map_append, e]
  simp
theorem pow_le (k : Nat) (hk : k ≤ 13) : 1 ≤ 2 ^ k ∧ 2 ^ k ≤ 8192 := ⟨Nat.one_le_two_pow, by have := Nat.pow_le_pow_right (show 0 < 2 by omega) hk; simpa using this⟩

/-- A bit more, above all that are there. -/
theorem or_pow (B k : Nat) (hB : B < 2 ^ k) (hk : k ≤ 13) : bits .or .i64 (B : Int) (wrap64 (2 ^ k)) = ((B + 2 ^ k : Nat) : Int) := by
  obtain ⟨h1, h2⟩ := pow_le k hk
  have e : wrap64 (2 ^ k) = ((2 ^ k : Nat) : Int) := by
    have e1 : ((2 : Int) ^ k) = ((2 ^ k : Nat) : Int) := by simp
    rw [e1]; unfold wrap64; omega
  rw [e, (bits_nat .i64 63 (by decide) wraps_i64 B (2 ^ k) (by omega) (by omega)).2]
  have := Nat.two_pow_add_eq_or_of_lt hB 1
  rw [Nat.mul_one] at this
  rw [Nat.or_comm, ← this, Nat.add_comm]
set_option maxHeartbeats 2000000 in
theorem owners_any {w : World} {v : Value} {k0 : Nat} {ss : List (List (Int × Int))} {n : Int} (h : ReadsL w v k0 ss) (hr : RtAll ss) (hk0 : k0 ≤ 13) :
    Calls Try.prog 28 #[v, .int .i64 n] w fun e w' => e = .returned (.int .i64 (bitsN (keyL ss n) : Nat)) ∧ Below w.heap.size w w' := by
  obtain ⟨a, cap, rfl, hc, hm, hl⟩ := h.form
  have H := Lib.hid h; have HR := Lib.hid hr; have HL := Lib.hid hl; clear h hr hl
  go_enter Try.func28, Try.ntmps28
  go_wp2_with fail
  go_loopw [5, 10] (fun s i wr => ∃ (k B : Nat), k ≤ k0 ∧ i = .int .i64 k ∧ s = .int .i64 B ∧ Hid (B = bitsN (keyL (ss.take k) n)) ∧ Hid (Below w.heap.size w wr)) (fun _ i _ => k0 - (intOf i).toNat)
  case atStart => exact ⟨0, 0, Nat.zero_le _, rfl, rfl, Lib.hid rfl, Lib.hid (Below.refl _ _)⟩
  case round =>
    obtain ⟨k, B, hk, rfl, rfl, HS, HB⟩ := hrel
    have hz := HB.out.size
    have i0 : (0 : Int) ≤ (k : Int) := Int.natCast_nonneg _
    by_cases hlt : k < k0
    · have i1 : (k : Int) < (k0 : Int) := by omega
      have t1 : decide (k < k0) = true := by simpa using hlt
      obtain ⟨b, off, u, rfl, c1, hu⟩ := H.out.at k hlt
      have hbl := World.block_lt_of_cell? w _ c1
      have c1 := (HB.out.cell (p := ⟨b, off + k, none⟩) hbl).trans c1
      have HRk := Lib.hid (HR.out.at k (by rw [HL.out]; exact hlt))
      have SN := Lib.hid (keyL_snoc ss n k (by rw [HL.out]; exact hlt))
      have hlk : (keyL (ss.take k) n).length = k := by rw [keyL_len, List.length_take, HL.out]; omega
      have hB := bitsN_lt (keyL (ss.take k) n)
      rw [← HS.out, hlk] at hB
      have hp := pow_le k (by omega)
      have SB := Lib.hid (bitsN_snoc (keyL (ss.take k) n) (hasB (ss.getD k []) n))
      rw [hlk, ← HS.out] at SB
      generalize ss.getD k [] = l at *
      have HU := Lib.hid (ReadsP.below hu HB.out); clear hu
      have hH := has_any (x := n) HU.out HRk.out
      generalize hasB l n = bb at *
      have HH := Lib.hid hH; clear hH hlk
      go_wp2_with fail
      refine HH.out.mono ?_
      rintro e w2 ⟨rfl, h2⟩
      have HB2 := Lib.hid (HB.out.trans (h2.mono hz)); clear h2
      cases bb
      · go_wp2_with fail
        exact ⟨⟨k + 1, B, by omega, by go_num, rfl, Lib.hid (by rw [SN.out, SB.out]; simp), HB2⟩, by simp [intOf]; omega⟩
      · go_wp2_with fail
        exact ⟨⟨k + 1, B + 2 ^ k, by omega, by go_num, by rw [or_pow B k hB (by omega)], Lib.hid (by rw [SN.out, SB.out]; simp), HB2⟩, by simp [intOf]; omega⟩
    · have e : ss.take k = ss := List.take_of_length_le (by rw [HL.out]; omega)
      have HE := Lib.hid e; clear e
      go_wp2_with fail
      go_ret
      exact ⟨by rw [HS.out, HE.out]; rfl, HB.out⟩

end Go.Proofs.Ythbnhdocjnhhlaa
