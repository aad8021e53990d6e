/- The law's own comparison of two rows of numbers. -/
import Derived.Test.YtjkcglgkdclidaaVTableTa
import Derived.Deep.QuietTactic
set_option linter.unusedVariables false
set_option linter.unusedSimpArgs false
set_option maxRecDepth 100000
set_option maxHeartbeats 4000000
namespace Go.Proofs.Ytjkcglgkdclidaa
open Go Go.RowKit Go.Proofs
theorem tints_any {w : World} {v u : Value} {n m : Nat} {l l' : List Int} (h : ReadsI w v n l) (h' : ReadsI w u m l') :
  Calls Try.prog 47 #[v, u] w fun e w' => ∃ r, e = .returned (.bool r) /\ (r = true ↔ l = l') /\ Below w.heap.size w w' := by
  obtain ⟨h1, a, cap, rfl, q1, q2, h2, h3⟩ := h
  obtain ⟨h1', a', cap', rfl, q1', q2', h2', h3'⟩ := h'
  unfold maxLen at q2 q2'
  have H3 := Lib.hid h3; have H3' := Lib.hid h3'; have HL := Lib.hid h1; have HL' := Lib.hid h1'
  clear h2 h2' h3 h3' h1 h1'
  go_enter Try.func47, Try.ntmps47
  by_cases hnm : n = m
  ·subst hnm
   go_wp2_with fail
   go_loopw [5] (fun i wr => ∃ (k q : Nat), k <= n /\ i = .int .i64 k /\ wr = w.drewN q /\ Hid (∀ j, j < k -> l.getD j 0 = l'.getD j 0)) (fun i _ => n - (intOf i).toNat)
   case atStart => exact ⟨0, 0, Nat.zero_le _, rfl, rfl, Lib.hid (fun j hj => absurd hj (Nat.not_lt_zero j))⟩
   case round =>
    obtain ⟨k, q, hk, rfl, rfl, HJ⟩ := hrel
    have hbw : Below w.heap.size w (w.drewN q) := ⟨rfl, rfl, rfl, Nat.le_refl _, fun _ _ => rfl⟩
    by_cases hlt : k < n
    ·obtain ⟨b, off, rfl, hc⟩ := H3.out k hlt
     obtain ⟨b', off', rfl, hc'⟩ := H3'.out k hlt
     have c1 : w.cell? ⟨b, off + k, none⟩ = some (.int .i64 (l.getD k 0)) := hc k hlt
     have c2 : w.cell? ⟨b', off' + k, none⟩ = some (.int .i64 (l'.getD k 0)) := hc' k hlt
     clear hc hc'
     have i0 : (0 : Int) <= (k : Int) := Int.natCast_nonneg _
     have i1 : (k : Int) < (n : Int) := by omega
     obtain ⟨x, hx⟩ : ∃ x, l.getD k 0 = x := ⟨_, rfl⟩
     obtain ⟨y, hy⟩ : ∃ y, l'.getD k 0 = y := ⟨_, rfl⟩
     rw [hx] at c1
     rw [hy] at c2
     have HX := Lib.hid hx; have HY := Lib.hid hy
     clear hx hy
     by_cases hxy : x = y
     ·subst hxy
      go_wp2_with fail
      go_quiet (fail)
      go_wp2_with fail
      exact ⟨⟨k + 1, _, by omega, by go_num, rfl, Lib.hid (fun j hj => by
       rcases Nat.lt_or_ge j k with r | r
       ·exact HJ.out j r
       ·obtain rfl : j = k := by omega
        rw [HX.out, HY.out])⟩, by simp [intOf]; omega⟩
     ·have e1 : (x == y) = false := by simpa using hxy
      have HN : Hid (l ≠ l') := Lib.hid (fun e => hxy (by rw [<- HX.out, <- HY.out, e]))
      go_wp2_with fail
      go_quiet (fail)
      go_wp2_with fail
      go_ret
      exact ⟨false, rfl, ⟨(fun e => by cases e), fun e => absurd e HN.out⟩, ⟨rfl, rfl, rfl, Nat.le_refl _, fun _ _ => rfl⟩⟩
    ·obtain rfl : k = n := by omega
     have HEQ : Hid (l = l') := Lib.hid (by
      apply List.ext_getElem
      ·rw [HL.out, HL'.out]
      ·intro i h1 h2
       have := HJ.out i (by rw [<- HL.out]; exact h1)
       rw [List.getD_eq_getElem?_getD, List.getD_eq_getElem?_getD, List.getElem?_eq_getElem h1, List.getElem?_eq_getElem h2] at this
       exact this)
     go_wp2_with fail
     go_ret
     exact ⟨true, rfl, ⟨fun _ => HEQ.out, fun _ => rfl⟩, hbw⟩
  ·have hn2 : ¬ (n : Int) = (m : Int) := by omega
   have e1 : ((n : Int) == (m : Int)) = false := by simpa using hn2
   have HN : Hid (l ≠ l') := Lib.hid (fun e => hnm (by rw [<- HL.out, <- HL'.out, e]))
   go_wp2_with fail
   go_ret
   exact ⟨false, rfl, ⟨(fun e => by cases e), fun e => absurd e HN.out⟩, Below.refl _ _⟩
end Go.Proofs.Ytjkcglgkdclidaa
