/- The chapter's own example, as the law texts ask it: known() returns true. -/
import Derived.Test.YtcdenblejfmkaaaDoorTropG
namespace Go.Proofs.YtcdenblejfmkaaaDoor
open Go.RowKit

theorem isCost_of {x : Int} (h1 : 0 ≤ x) (h2 : x ≤ 1152921504606846976) : IsCost x := ⟨h1, h2⟩

theorem known_vtext : vtext 1152921504606846976 1152921504606846976 1152921504606846976 = [45, 32, 45, 32, 45] := by
  rw [vtext_eq]; unfold wtext; simp

set_option maxHeartbeats 800000 in
theorem known_any (w : World) (ht : Tab w) :
    Calls Tryd.prog 4 #[] w fun e w' => e = .returned (.bool true) ∧ Below w.heap.size w w' := by
  have HT := Lib.hid ht; clear ht
  have p1 : plus 1 2 = 3 := by unfold plus; omega
  have p2 : plus 1152921504606846976 2 = 1152921504606846976 := by unfold plus; omega
  have p3 : plus 3 2 = 5 := by unfold plus; omega
  go_enter Tryd.func4, Tryd.ntmps4
  go_wp2_with fail
  refine (plus_x 1 1152921504606846976 3 2 _ (isCost_of (by omega) (by omega)) (isCost_of (by omega) (by omega)) (isCost_of (by omega) (by omega)) (isCost_of (by omega) (by omega))).mono ?_
  rintro e w1 ⟨rfl, hb1⟩
  rw [p1, p2, p3]
  clear p1 p2 p3
  have hB1 : Below w.heap.size w (w1.alloc (.cells #[.int .i64 3, .int .i64 1152921504606846976, .int .i64 5] 25)) := hb1.alloc hb1.size _
  have v1 : VecAt (w1.alloc (.cells #[.int .i64 3, .int .i64 1152921504606846976, .int .i64 5] 25)) w1.heap.size 3 1152921504606846976 5 :=
    ⟨by simp [go_sem], by simp [go_sem], by simp [go_sem], fun o => by simp [go_sem], by simp⟩
  have HB1 := Lib.hid hB1; have HV1 := Lib.hid v1; clear hb1 hB1 v1
  go_wp2_with fail
  refine (none_any _).mono ?_
  rintro e w2 ⟨rfl, hb2⟩
  have HB2 := Lib.hid (HB1.out.trans (hb2.mono HB1.out.size)); have HV2 := Lib.hid (HV1.out.below hb2); clear hb2 HB1 HV1
  go_wp2_with fail
  refine (text_any 1152921504606846976 1152921504606846976 1152921504606846976 _ (isCost_of (by omega) (by omega)) (isCost_of (by omega) (by omega)) (isCost_of (by omega) (by omega)) (HT.out.below HB2.out)).mono ?_
  rintro e w3 ⟨rfl, hb3⟩
  have HB3 := Lib.hid (HB2.out.trans (hb3.mono HB2.out.size)); have HV3 := Lib.hid (HV2.out.below hb3); clear hb3 HB2 HV2
  rw [known_vtext]
  go_wp2_with fail
  refine (add_any 2 3 _ (isCost_of (by omega) (by omega)) (isCost_of (by omega) (by omega))).mono ?_
  rintro e w' ⟨rfl, rfl⟩
  rw [show plus 2 3 = 5 by unfold plus; omega]
  go_wp2_with fail
  refine (min2_any 4 2 _ _ (by simp [go_sem]) (by simp [go_sem])).mono ?_
  rintro e w' ⟨rfl, rfl⟩
  rw [show lesser 4 2 = 2 by rw [lesser_eq _ _ (isCost_of (by omega) (by omega))]; rfl]
  have HB4 := Lib.hid (HB3.out.alloc HB3.out.size (.cells #[.int .i64 4, .int .i64 2] 3)); have HV4 := Lib.hid (HV3.out.below ((Below.refl _ _).alloc (Nat.le_refl _) (.cells #[.int .i64 4, .int .i64 2] 3))); clear HB3 HV3
  go_wp2_with fail
  refine (min_nil _).mono ?_
  rintro e w' ⟨rfl, rfl⟩
  obtain ⟨c0, c1, c2, f, z⟩ := HV4.out
  have he := fun w => eq_vec' 3 1152921504606846976 5 3 1152921504606846976 5 w
  have hv := eqv_refl 3 1152921504606846976 5
  generalize w3.alloc (.cells #[.int .i64 4, .int .i64 2] 3) = w4 at *
  go_wp2_with fail
  refine (both_x 3 1152921504606846976 5 9 1 1 _).mono ?_
  rintro e w5 ⟨rfl, hb5⟩
  rw [show lesser 3 9 = 3 by rw [lesser_eq _ _ (isCost_of (by omega) (by omega))]; rfl, show lesser 1152921504606846976 1 = 1 by rw [lesser_eq _ _ (isCost_of (by omega) (by omega))]; rfl, show lesser 5 1 = 1 by rw [lesser_eq _ _ (isCost_of (by omega) (by omega))]; rfl]
  have HB5 := Lib.hid (HB4.out.trans (hb5.mono HB4.out.size)); clear hb5 HB4 HV4
  clear he hv
  have he := fun w => eq_vec' 3 1 1 3 1 1 w
  have hv := eqv_refl 3 1 1
  go_wp2_with fail
  go_ret
  exact ⟨rfl, HB5.out⟩

end Go.Proofs.YtcdenblejfmkaaaDoor
