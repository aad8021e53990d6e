/- Contract of the law texts' Ints at two slices that read alike. -/
import Derived.Test.YthbnhdocjnhhlaaOwn
import Derived.LoopTactic
import Derived.Deep.QuietTactic
import Derived.BigQuiet
namespace Go.Proofs.Ythbnhdocjnhhlaa
open Go Go.RowKit

/-- v reads as the n numbers l: nil and none, or cells in a row. -/
def Reads (w : World) (v : Value) (n : Nat) (l : List Int) : Prop :=
  l.length = n ∧ ∃ a cap, v = .slice a n cap ∧ (a = none → cap = 0) ∧ ∀ i, i < n → ∃ b off, a = some ⟨b, off, none⟩ ∧ ∀ j, j < n → w.cell? ⟨b, off + j, none⟩ = some (.int .i64 (l.getD j 0))
theorem Own.reads {w : World} {B n : Nat} {v : Value} {l : List Int} (h : Own w B v n l) : Reads w v n l := by
  refine ⟨h.len, ?_⟩
  rcases h.form with ⟨rfl, rfl, _⟩ | ⟨g, cap, rfl, _, _, _, hc⟩
  · exact ⟨none, 0, rfl, fun _ => rfl, fun i hi => absurd hi (by omega)⟩
  · exact ⟨_, cap, rfl, fun e => (by cases e), fun i hi => ⟨g, 0, rfl, hc⟩⟩
theorem Reads.same {w w' : World} {v : Value} {n : Nat} {l : List Int} (h : Reads w v n l) (hk : ∀ b o x, w.cell? ⟨b, o, none⟩ = some x → w'.cell? ⟨b, o, none⟩ = some x) : Reads w' v n l := by
  obtain ⟨h1, a, cap, h2, h3, h4⟩ := h
  refine ⟨h1, a, cap, h2, h3, fun i hi => ?_⟩
  obtain ⟨b, off, e, hc⟩ := h4 i hi
  exact ⟨b, off, e, fun j hj => hk _ _ _ (hc j hj)⟩
theorem Reads.below {w w' : World} {v : Value} {n : Nat} {l : List Int} (h : Reads w v n l) (hb : Below w.heap.size w w') : Reads w' v n l :=
  h.same fun b o x hx => by rw [hb.cell (p := ⟨b, o, none⟩) (World.block_lt_of_cell? w _ hx)]; exact hx

set_option maxHeartbeats 400000 in
theorem ints_any {w : World} {v u : Value} {n : Nat} {l : List Int} (h : Reads w v n l) (h' : Reads w u n l) (hn : n ≤ 1000000000) :
    Calls Try.prog 15 #[v, u] w fun e w' => e = .returned (.bool true) ∧ Below w.heap.size w w' := by
  obtain ⟨h1, a, cap, rfl, h2, h3⟩ := h
  obtain ⟨_, a', cap', rfl, h2', h3'⟩ := h'
  have H3 := Lib.hid h3; have H3' := Lib.hid h3'; clear h1 h2 h2' h3 h3'
  go_enter Try.func15, Try.ntmps15
  go_wp2_with fail
  go_loopw [5] (fun i wr => ∃ (k m : Nat), k ≤ n ∧ i = .int .i64 k ∧ wr = w.drewN m) (fun i _ => n - (intOf i).toNat)
  case atStart => exact ⟨0, 0, Nat.zero_le _, rfl, rfl⟩
  case round =>
    obtain ⟨k, m, hk, rfl, rfl⟩ := hrel
    by_cases hlt : k < n
    · obtain ⟨b, off, rfl, hc⟩ := H3.out k hlt
      obtain ⟨b', off', rfl, hc'⟩ := H3'.out k hlt
      have c1 : w.cell? ⟨b, off + k, none⟩ = some (.int .i64 (l.getD k 0)) := hc k hlt
      have c2 : w.cell? ⟨b', off' + k, none⟩ = some (.int .i64 (l.getD k 0)) := hc' k hlt
      clear hc hc'
      have i0 : (0 : Int) ≤ (k : Int) := Int.natCast_nonneg _
      have i1 : (k : Int) < (n : Int) := by omega
      generalize l.getD k 0 = x at *
      go_wp2_with fail
      go_quiet (fail)
      go_wp2_with fail
      exact ⟨⟨k + 1, _, by omega, by go_num, rfl⟩, by simp [intOf]; omega⟩
    · go_wp2
      go_ret
      exact ⟨rfl, ⟨rfl, rfl, rfl, Nat.le_refl _, fun _ _ => rfl⟩⟩

end Go.Proofs.Ythbnhdocjnhhlaa
