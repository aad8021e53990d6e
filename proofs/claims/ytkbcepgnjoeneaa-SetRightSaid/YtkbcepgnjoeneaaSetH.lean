/- Contracts of the document's own Same, at two slices that read alike, and Right. -/
import Derived.Test.YtkbcepgnjoeneaaSetA
namespace Go.Proofs.Ytkbcepgnjoeneaa
open Go Go.RowKit

set_option maxHeartbeats 1000000 in
theorem same_any {w : World} {v u : Value} {n : Nat} {l : List (Int × Int)} (h : ReadsP w v n l) (h' : ReadsP w u n l) :
    Calls Try.prog 15 #[v, u] w fun e w' => e = .returned (.bool true) ∧ Below w.heap.size w w' := by
  have h0 := h; have h0' := h'
  obtain ⟨a, cap, rfl, hc, hm, hl⟩ := h.form
  obtain ⟨a', cap', rfl, hc', hm', _⟩ := h'.form
  have H0 := Lib.hid h0; have H0' := Lib.hid h0'; clear h h0 h' h0' hl
  go_enter Try.func15, Try.ntmps15
  go_wp2_with fail
  go_loopw [5] (fun i wr => ∃ (k m : Nat), k ≤ n ∧ i = .int .i64 k ∧ wr = w.drewN m) (fun i _ => n - (intOf i).toNat)
  case atStart => exact ⟨0, 0, Nat.zero_le _, rfl, rfl⟩
  case round =>
    obtain ⟨k, m, hk, rfl, rfl⟩ := hrel
    by_cases hlt : k < n
    · obtain ⟨b, off, rfl, hbl, c1, c2⟩ := H0.out.at k hlt
      obtain ⟨b', off', rfl, hbl', c1', c2'⟩ := H0'.out.at k hlt
      have i0 : (0 : Int) ≤ (k : Int) := Int.natCast_nonneg _
      have i1 : (k : Int) < (n : Int) := by omega
      generalize (l.getD k (0, 0)).1 = x at *
      generalize (l.getD k (0, 0)).2 = y at *
      go_wp2_with fail
      go_quiet (fail)
      go_wp2_with fail
      all_goals exact ⟨⟨k + 1, _, by omega, by go_num, rfl⟩, by simp [intOf]; omega⟩
    · go_wp2
      go_ret
      exact ⟨rfl, ⟨rfl, rfl, rfl, Nat.le_refl _, fun _ _ => rfl⟩⟩

end Go.Proofs.Ytkbcepgnjoeneaa
