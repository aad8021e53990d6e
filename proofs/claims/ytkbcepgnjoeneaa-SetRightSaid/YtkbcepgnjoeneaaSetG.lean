/- Contracts of set.Right at right rows and at any, and of set.Has. -/
import Derived.Test.YtkbcepgnjoeneaaSetD
namespace Go.Proofs.Ytkbcepgnjoeneaa
open Go Go.RowKit

/-- Right, as a Bool, from a least beginning on. -/
def rightB : Int → List (Int × Int) → Bool
  | _, [] => true
  | lo, r :: l => if r.1 < lo ∨ r.1 > r.2 ∨ r.2 > 1114111 then false else rightB (r.2 + 2) l
theorem rightB_iff (l : List (Int × Int)) : ∀ lo, rightB lo l = true ↔ RtFrom lo l := by
  induction l with
  | nil => intro lo; simp [rightB, RtFrom]
  | cons r l ih =>
    intro lo
    unfold rightB
    split
    · rename_i h
      simp only [Bool.false_eq_true, RtFrom, false_iff]
      omega
    · rename_i h
      rw [ih]
      simp only [RtFrom]
      constructor
      · intro g; exact ⟨by omega, by omega, by omega, g⟩
      · intro g; exact g.2.2.2
theorem rightB_cons (lo x y : Int) (l : List (Int × Int)) : rightB lo ((x, y) :: l) = if x < lo ∨ x > y ∨ y > 1114111 then false else rightB (y + 2) l := rfl
/-- It returns this; nothing that was there has turned. -/
def Says (w : World) (b : Bool) (e : Ending) (w' : World) : Prop := e = .returned (.bool b) ∧ Below w.heap.size w w'

set_option maxHeartbeats 4000000 in
theorem right_any {w : World} {v : Value} {n : Nat} {l : List (Int × Int)} (h : ReadsP w v n l) :
    Calls Try.prog 17 #[v] w (Says w (rightB 0 l)) := by
  have h0 := h
  obtain ⟨a, cap, rfl, hc, hm, hl⟩ := h.form
  have H0 := Lib.hid h0; clear h h0
  have HL := Lib.hid hl; clear hl
  go_enter Try.func17, Try.ntmps17
  go_wp2_with fail
  go_loopw [3, 8] (fun f i wr => ∃ (k : Nat) (lo : Int), k ≤ n ∧ i = .int .i64 k ∧ f = .int .i64 lo ∧ 0 ≤ lo ∧ lo ≤ 1114113 ∧ Hid (rightB 0 l = rightB lo (l.drop k)) ∧ Hid (Below w.heap.size w wr)) (fun _ i _ => n - (intOf i).toNat)
  case atStart => exact ⟨0, 0, Nat.zero_le _, rfl, rfl, by omega, by omega, Lib.hid rfl, Lib.hid (Below.refl _ _)⟩
  case round =>
    obtain ⟨k, lo, hk, rfl, rfl, hf0, hf1, HG, HB⟩ := hrel
    have hz := HB.out.size
    by_cases hlt : k < n
    · have hrd := H0.out.below HB.out
      obtain ⟨b, off, rfl, hbl, c1, c2⟩ := hrd.at k hlt
      have HD := Lib.hid (drop_at l k (by rw [HL.out]; exact hlt))
      clear hrd
      have i0 : (0 : Int) ≤ (k : Int) := Int.natCast_nonneg _
      have i1 : (k : Int) < (n : Int) := by omega
      generalize l.getD k (0, 0) = r at *
      obtain ⟨x, y⟩ := r
      simp only at c1 c2
      have HS := Lib.hid (rightB_cons lo x y (l.drop (k + 1)))
      by_cases hc1 : x < lo
      · go_wp2_with fail
        go_ret
        exact ⟨by rw [HG.out, HD.out, HS.out, if_pos (.inl hc1)]; rfl, HB.out.alloc hz _⟩
      · have t1 : decide (x < lo) = false := by simpa using hc1
        by_cases hc2 : y < x
        · go_wp2_with fail
          go_ret
          exact ⟨by rw [HG.out, HD.out, HS.out, if_pos (.inr (.inl hc2))]; rfl, HB.out.alloc hz _⟩
        · have t2 : decide (y < x) = false := by simpa using hc2
          by_cases hc3 : 1114111 < y
          · go_wp2_with fail
            go_ret
            exact ⟨by rw [HG.out, HD.out, HS.out, if_pos (.inr (.inr hc3))]; rfl, HB.out.alloc hz _⟩
          · have t3 : decide (1114111 < y) = false := by simpa using hc3
            have hy : 0 ≤ y := by omega
            have hy2 : y ≤ 1114111 := by omega
            have hq : ¬ (x < lo ∨ x > y ∨ y > 1114111) := by omega
            have HQ := Lib.hid hq; clear hq
            go_wp2_with fail
            refine ⟨⟨k + 1, y + 2, by omega, by go_num, rfl, by omega, by omega, Lib.hid ?_, Lib.hid (HB.out.alloc hz _)⟩, by simp [intOf]; omega⟩
            rw [HG.out, HD.out, HS.out, if_neg HQ.out]
    · go_wp2
      go_ret
      exact ⟨by rw [HG.out, List.drop_of_length_le (by have := HL.out; omega)]; rfl, HB.out⟩

end Go.Proofs.Ytkbcepgnjoeneaa
