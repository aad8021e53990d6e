/- The law TropKnown returns true, whatever its number. -/
import Derived.Test.YtemofnmfaimliaaDoorTropH
namespace Go.Proofs.YtemofnmfaimliaaDoor
open Go.RowKit

theorem plus_num (x y z : Int) (h1 : 0 ≤ x) (h2 : x ≤ 1152921504606846976) (h3 : 0 ≤ y) (h4 : y ≤ 1152921504606846976) (h : plus x y = z) (w : World) :
    Calls Tryd.prog 12 #[.int .i64 x, .int .i64 y] w fun e w' => e = .returned (.int .i64 z) ∧ w = w' := by
  subst h; exact add_any x y w ⟨h1, h2⟩ ⟨h3, h4⟩
theorem min_num (x y z : Int) (b : Nat) (w : World) (h : lesser x y = z) (h0 : w.cell? ⟨b, 0, none⟩ = some (.int .i64 x)) (h1 : w.cell? ⟨b, 1, none⟩ = some (.int .i64 y)) :
    Calls Tryd.prog 14 #[.slice (some ⟨b, 0, none⟩) 2 2] w fun e w' => e = .returned (.int .i64 z) ∧ w = w' := by
  subst h; exact min2_any x y b w h0 h1


set_option maxHeartbeats 1000000 in
theorem known_walk0 (n : Int) (w : World) (wn : (Lit.int .i64 n).wf = true) (hn : n % 8 = 0) (ht : Tab w) :
    Calls Tryd.prog 7 #[.int .i64 n] w fun e w' => e = .returned (.bool true) ∧ Below w.heap.size w w' := by
  have HT := Lib.hid ht; have WN := Lib.hid wn; have HN := Lib.hid hn; clear ht wn hn
  have HP := Lib.hid (show plus 0 0 = 0 by unfold plus; omega)
  have HM := Lib.hid (show lesser 0 0 = 0 by rw [lesser_eq _ _ (isCost_of (by omega) (by omega))]; rfl)
  go_enter Tryd.func7, Tryd.ntmps7
  go_wp2_with fail
  refine (known_any _ HT.out).mono ?_
  rintro e w1 ⟨rfl, hb1⟩
  have HB1 := Lib.hid hb1; clear hb1
  go_wp2_with fail
  refine (within_any n 8 _ WN.out (by omega) (by omega)).mono ?_; rintro e w' ⟨rfl, rfl⟩
  rw [HN.out]
  go_wp2_with fail
  go_region_held3 (fun w' => w'.cell? ⟨w1.heap.size, 0, none⟩ = some (.int .i64 0) ∧ w'.cell? ⟨w1.heap.size + 1, 0, none⟩ = some (.int .i64 0) ∧ w'.cell? ⟨w1.heap.size + 1 + 1, 0, none⟩ = some (.int .i64 0)) (simp [go_sem, World.cell?_alloc_past, *])
    (first
      | (go_at_call 12; refine (plus_num 0 0 0 (by omega) (by omega) (by omega) (by omega) HP.out _).mono ?_; rintro e w2 ⟨rfl, rfl⟩)
      | (go_at_call 14; refine (min_num 0 0 0 _ _ HM.out (by simp [go_sem]) (by simp [go_sem])).mono ?_; rintro e w2 ⟨rfl, rfl⟩))
  all_goals
    go_wp2_with fail
    all_goals
      go_ret
      refine ⟨rfl, ?_⟩
      repeat (first | (with_reducible exact HB1.out) | (with_reducible refine Below.drew ?_) | (with_reducible refine Below.alloc ?_ (by have := HB1.out.size; simp; try omega) _))

set_option maxHeartbeats 1000000 in
theorem known_walk1 (n : Int) (w : World) (wn : (Lit.int .i64 n).wf = true) (hn : n % 8 = 1) (ht : Tab w) :
    Calls Tryd.prog 7 #[.int .i64 n] w fun e w' => e = .returned (.bool true) ∧ Below w.heap.size w w' := by
  have HT := Lib.hid ht; have WN := Lib.hid wn; have HN := Lib.hid hn; clear ht wn hn
  have HP := Lib.hid (show plus 1 2 = 3 by unfold plus; omega)
  have HM := Lib.hid (show lesser 1 2 = 1 by rw [lesser_eq _ _ (isCost_of (by omega) (by omega))]; rfl)
  go_enter Tryd.func7, Tryd.ntmps7
  go_wp2_with fail
  refine (known_any _ HT.out).mono ?_
  rintro e w1 ⟨rfl, hb1⟩
  have HB1 := Lib.hid hb1; clear hb1
  go_wp2_with fail
  refine (within_any n 8 _ WN.out (by omega) (by omega)).mono ?_; rintro e w' ⟨rfl, rfl⟩
  rw [HN.out]
  go_wp2_with fail
  go_region_held3 (fun w' => w'.cell? ⟨w1.heap.size, 1, none⟩ = some (.int .i64 1) ∧ w'.cell? ⟨w1.heap.size + 1, 1, none⟩ = some (.int .i64 2) ∧ w'.cell? ⟨w1.heap.size + 1 + 1, 1, none⟩ = some (.int .i64 3)) (simp [go_sem, World.cell?_alloc_past, *])
    (first
      | (go_at_call 12; refine (plus_num 1 2 3 (by omega) (by omega) (by omega) (by omega) HP.out _).mono ?_; rintro e w2 ⟨rfl, rfl⟩)
      | (go_at_call 14; refine (min_num 1 2 1 _ _ HM.out (by simp [go_sem]) (by simp [go_sem])).mono ?_; rintro e w2 ⟨rfl, rfl⟩))
  all_goals
    go_wp2_with fail
    all_goals
      go_ret
      refine ⟨rfl, ?_⟩
      repeat (first | (with_reducible exact HB1.out) | (with_reducible refine Below.drew ?_) | (with_reducible refine Below.alloc ?_ (by have := HB1.out.size; simp; try omega) _))

set_option maxHeartbeats 1000000 in
theorem known_walk2 (n : Int) (w : World) (wn : (Lit.int .i64 n).wf = true) (hn : n % 8 = 2) (ht : Tab w) :
    Calls Tryd.prog 7 #[.int .i64 n] w fun e w' => e = .returned (.bool true) ∧ Below w.heap.size w w' := by
  have HT := Lib.hid ht; have WN := Lib.hid wn; have HN := Lib.hid hn; clear ht wn hn
  have HP := Lib.hid (show plus 1152921504606846976 0 = 1152921504606846976 by unfold plus; omega)
  have HM := Lib.hid (show lesser 1152921504606846976 0 = 0 by rw [lesser_eq _ _ (isCost_of (by omega) (by omega))]; rfl)
  go_enter Tryd.func7, Tryd.ntmps7
  go_wp2_with fail
  refine (known_any _ HT.out).mono ?_
  rintro e w1 ⟨rfl, hb1⟩
  have HB1 := Lib.hid hb1; clear hb1
  go_wp2_with fail
  refine (within_any n 8 _ WN.out (by omega) (by omega)).mono ?_; rintro e w' ⟨rfl, rfl⟩
  rw [HN.out]
  go_wp2_with fail
  go_region_held3 (fun w' => w'.cell? ⟨w1.heap.size, 2, none⟩ = some (.int .i64 1152921504606846976) ∧ w'.cell? ⟨w1.heap.size + 1, 2, none⟩ = some (.int .i64 0) ∧ w'.cell? ⟨w1.heap.size + 1 + 1, 2, none⟩ = some (.int .i64 1152921504606846976)) (simp [go_sem, World.cell?_alloc_past, *])
    (first
      | (go_at_call 12; refine (plus_num 1152921504606846976 0 1152921504606846976 (by omega) (by omega) (by omega) (by omega) HP.out _).mono ?_; rintro e w2 ⟨rfl, rfl⟩)
      | (go_at_call 14; refine (min_num 1152921504606846976 0 0 _ _ HM.out (by simp [go_sem]) (by simp [go_sem])).mono ?_; rintro e w2 ⟨rfl, rfl⟩))
  all_goals
    go_wp2_with fail
    all_goals
      go_ret
      refine ⟨rfl, ?_⟩
      repeat (first | (with_reducible exact HB1.out) | (with_reducible refine Below.drew ?_) | (with_reducible refine Below.alloc ?_ (by have := HB1.out.size; simp; try omega) _))

set_option maxHeartbeats 1000000 in
theorem known_walk3 (n : Int) (w : World) (wn : (Lit.int .i64 n).wf = true) (hn : n % 8 = 3) (ht : Tab w) :
    Calls Tryd.prog 7 #[.int .i64 n] w fun e w' => e = .returned (.bool true) ∧ Below w.heap.size w w' := by
  have HT := Lib.hid ht; have WN := Lib.hid wn; have HN := Lib.hid hn; clear ht wn hn
  have HP := Lib.hid (show plus 1152921504606846975 1 = 1152921504606846976 by unfold plus; omega)
  have HM := Lib.hid (show lesser 1152921504606846975 1 = 1 by rw [lesser_eq _ _ (isCost_of (by omega) (by omega))]; rfl)
  go_enter Tryd.func7, Tryd.ntmps7
  go_wp2_with fail
  refine (known_any _ HT.out).mono ?_
  rintro e w1 ⟨rfl, hb1⟩
  have HB1 := Lib.hid hb1; clear hb1
  go_wp2_with fail
  refine (within_any n 8 _ WN.out (by omega) (by omega)).mono ?_; rintro e w' ⟨rfl, rfl⟩
  rw [HN.out]
  go_wp2_with fail
  go_region_held3 (fun w' => w'.cell? ⟨w1.heap.size, 3, none⟩ = some (.int .i64 1152921504606846975) ∧ w'.cell? ⟨w1.heap.size + 1, 3, none⟩ = some (.int .i64 1) ∧ w'.cell? ⟨w1.heap.size + 1 + 1, 3, none⟩ = some (.int .i64 1152921504606846976)) (simp [go_sem, World.cell?_alloc_past, *])
    (first
      | (go_at_call 12; refine (plus_num 1152921504606846975 1 1152921504606846976 (by omega) (by omega) (by omega) (by omega) HP.out _).mono ?_; rintro e w2 ⟨rfl, rfl⟩)
      | (go_at_call 14; refine (min_num 1152921504606846975 1 1 _ _ HM.out (by simp [go_sem]) (by simp [go_sem])).mono ?_; rintro e w2 ⟨rfl, rfl⟩))
  all_goals
    go_wp2_with fail
    all_goals
      go_ret
      refine ⟨rfl, ?_⟩
      repeat (first | (with_reducible exact HB1.out) | (with_reducible refine Below.drew ?_) | (with_reducible refine Below.alloc ?_ (by have := HB1.out.size; simp; try omega) _))

set_option maxHeartbeats 1000000 in
theorem known_walk4 (n : Int) (w : World) (wn : (Lit.int .i64 n).wf = true) (hn : n % 8 = 4) (ht : Tab w) :
    Calls Tryd.prog 7 #[.int .i64 n] w fun e w' => e = .returned (.bool true) ∧ Below w.heap.size w w' := by
  have HT := Lib.hid ht; have WN := Lib.hid wn; have HN := Lib.hid hn; clear ht wn hn
  have HP := Lib.hid (show plus 1152921504606846971 4 = 1152921504606846975 by unfold plus; omega)
  have HM := Lib.hid (show lesser 1152921504606846971 4 = 4 by rw [lesser_eq _ _ (isCost_of (by omega) (by omega))]; rfl)
  go_enter Tryd.func7, Tryd.ntmps7
  go_wp2_with fail
  refine (known_any _ HT.out).mono ?_
  rintro e w1 ⟨rfl, hb1⟩
  have HB1 := Lib.hid hb1; clear hb1
  go_wp2_with fail
  refine (within_any n 8 _ WN.out (by omega) (by omega)).mono ?_; rintro e w' ⟨rfl, rfl⟩
  rw [HN.out]
  go_wp2_with fail
  go_region_held3 (fun w' => w'.cell? ⟨w1.heap.size, 4, none⟩ = some (.int .i64 1152921504606846971) ∧ w'.cell? ⟨w1.heap.size + 1, 4, none⟩ = some (.int .i64 4) ∧ w'.cell? ⟨w1.heap.size + 1 + 1, 4, none⟩ = some (.int .i64 1152921504606846975)) (simp [go_sem, World.cell?_alloc_past, *])
    (first
      | (go_at_call 12; refine (plus_num 1152921504606846971 4 1152921504606846975 (by omega) (by omega) (by omega) (by omega) HP.out _).mono ?_; rintro e w2 ⟨rfl, rfl⟩)
      | (go_at_call 14; refine (min_num 1152921504606846971 4 4 _ _ HM.out (by simp [go_sem]) (by simp [go_sem])).mono ?_; rintro e w2 ⟨rfl, rfl⟩))
  all_goals
    go_wp2_with fail
    all_goals
      go_ret
      refine ⟨rfl, ?_⟩
      repeat (first | (with_reducible exact HB1.out) | (with_reducible refine Below.drew ?_) | (with_reducible refine Below.alloc ?_ (by have := HB1.out.size; simp; try omega) _))

set_option maxHeartbeats 1000000 in
theorem known_walk5 (n : Int) (w : World) (wn : (Lit.int .i64 n).wf = true) (hn : n % 8 = 5) (ht : Tab w) :
    Calls Tryd.prog 7 #[.int .i64 n] w fun e w' => e = .returned (.bool true) ∧ Below w.heap.size w w' := by
  have HT := Lib.hid ht; have WN := Lib.hid wn; have HN := Lib.hid hn; clear ht wn hn
  have HP := Lib.hid (show plus 1000000 1000000 = 2000000 by unfold plus; omega)
  have HM := Lib.hid (show lesser 1000000 1000000 = 1000000 by rw [lesser_eq _ _ (isCost_of (by omega) (by omega))]; rfl)
  go_enter Tryd.func7, Tryd.ntmps7
  go_wp2_with fail
  refine (known_any _ HT.out).mono ?_
  rintro e w1 ⟨rfl, hb1⟩
  have HB1 := Lib.hid hb1; clear hb1
  go_wp2_with fail
  refine (within_any n 8 _ WN.out (by omega) (by omega)).mono ?_; rintro e w' ⟨rfl, rfl⟩
  rw [HN.out]
  go_wp2_with fail
  go_region_held3 (fun w' => w'.cell? ⟨w1.heap.size, 5, none⟩ = some (.int .i64 1000000) ∧ w'.cell? ⟨w1.heap.size + 1, 5, none⟩ = some (.int .i64 1000000) ∧ w'.cell? ⟨w1.heap.size + 1 + 1, 5, none⟩ = some (.int .i64 2000000)) (simp [go_sem, World.cell?_alloc_past, *])
    (first
      | (go_at_call 12; refine (plus_num 1000000 1000000 2000000 (by omega) (by omega) (by omega) (by omega) HP.out _).mono ?_; rintro e w2 ⟨rfl, rfl⟩)
      | (go_at_call 14; refine (min_num 1000000 1000000 1000000 _ _ HM.out (by simp [go_sem]) (by simp [go_sem])).mono ?_; rintro e w2 ⟨rfl, rfl⟩))
  all_goals
    go_wp2_with fail
    all_goals
      go_ret
      refine ⟨rfl, ?_⟩
      repeat (first | (with_reducible exact HB1.out) | (with_reducible refine Below.drew ?_) | (with_reducible refine Below.alloc ?_ (by have := HB1.out.size; simp; try omega) _))

set_option maxHeartbeats 1000000 in
theorem known_walk6 (n : Int) (w : World) (wn : (Lit.int .i64 n).wf = true) (hn : n % 8 = 6) (ht : Tab w) :
    Calls Tryd.prog 7 #[.int .i64 n] w fun e w' => e = .returned (.bool true) ∧ Below w.heap.size w w' := by
  have HT := Lib.hid ht; have WN := Lib.hid wn; have HN := Lib.hid hn; clear ht wn hn
  have HP := Lib.hid (show plus 576460752303423488 576460752303423488 = 1152921504606846976 by unfold plus; omega)
  have HM := Lib.hid (show lesser 576460752303423488 576460752303423488 = 576460752303423488 by rw [lesser_eq _ _ (isCost_of (by omega) (by omega))]; rfl)
  go_enter Tryd.func7, Tryd.ntmps7
  go_wp2_with fail
  refine (known_any _ HT.out).mono ?_
  rintro e w1 ⟨rfl, hb1⟩
  have HB1 := Lib.hid hb1; clear hb1
  go_wp2_with fail
  refine (within_any n 8 _ WN.out (by omega) (by omega)).mono ?_; rintro e w' ⟨rfl, rfl⟩
  rw [HN.out]
  go_wp2_with fail
  go_region_held3 (fun w' => w'.cell? ⟨w1.heap.size, 6, none⟩ = some (.int .i64 576460752303423488) ∧ w'.cell? ⟨w1.heap.size + 1, 6, none⟩ = some (.int .i64 576460752303423488) ∧ w'.cell? ⟨w1.heap.size + 1 + 1, 6, none⟩ = some (.int .i64 1152921504606846976)) (simp [go_sem, World.cell?_alloc_past, *])
    (first
      | (go_at_call 12; refine (plus_num 576460752303423488 576460752303423488 1152921504606846976 (by omega) (by omega) (by omega) (by omega) HP.out _).mono ?_; rintro e w2 ⟨rfl, rfl⟩)
      | (go_at_call 14; refine (min_num 576460752303423488 576460752303423488 576460752303423488 _ _ HM.out (by simp [go_sem]) (by simp [go_sem])).mono ?_; rintro e w2 ⟨rfl, rfl⟩))
  all_goals
    go_wp2_with fail
    all_goals
      go_ret
      refine ⟨rfl, ?_⟩
      repeat (first | (with_reducible exact HB1.out) | (with_reducible refine Below.drew ?_) | (with_reducible refine Below.alloc ?_ (by have := HB1.out.size; simp; try omega) _))

set_option maxHeartbeats 1000000 in
theorem known_walk7 (n : Int) (w : World) (wn : (Lit.int .i64 n).wf = true) (hn : n % 8 = 7) (ht : Tab w) :
    Calls Tryd.prog 7 #[.int .i64 n] w fun e w' => e = .returned (.bool true) ∧ Below w.heap.size w w' := by
  have HT := Lib.hid ht; have WN := Lib.hid wn; have HN := Lib.hid hn; clear ht wn hn
  have HP := Lib.hid (show plus 1152921504606846976 1152921504606846976 = 1152921504606846976 by unfold plus; omega)
  have HM := Lib.hid (show lesser 1152921504606846976 1152921504606846976 = 1152921504606846976 by rw [lesser_eq _ _ (isCost_of (by omega) (by omega))]; rfl)
  go_enter Tryd.func7, Tryd.ntmps7
  go_wp2_with fail
  refine (known_any _ HT.out).mono ?_
  rintro e w1 ⟨rfl, hb1⟩
  have HB1 := Lib.hid hb1; clear hb1
  go_wp2_with fail
  refine (within_any n 8 _ WN.out (by omega) (by omega)).mono ?_; rintro e w' ⟨rfl, rfl⟩
  rw [HN.out]
  go_wp2_with fail
  go_region_held3 (fun w' => w'.cell? ⟨w1.heap.size, 7, none⟩ = some (.int .i64 1152921504606846976) ∧ w'.cell? ⟨w1.heap.size + 1, 7, none⟩ = some (.int .i64 1152921504606846976) ∧ w'.cell? ⟨w1.heap.size + 1 + 1, 7, none⟩ = some (.int .i64 1152921504606846976)) (simp [go_sem, World.cell?_alloc_past, *])
    (first
      | (go_at_call 12; refine (plus_num 1152921504606846976 1152921504606846976 1152921504606846976 (by omega) (by omega) (by omega) (by omega) HP.out _).mono ?_; rintro e w2 ⟨rfl, rfl⟩)
      | (go_at_call 14; refine (min_num 1152921504606846976 1152921504606846976 1152921504606846976 _ _ HM.out (by simp [go_sem]) (by simp [go_sem])).mono ?_; rintro e w2 ⟨rfl, rfl⟩))
  all_goals
    go_wp2_with fail
    all_goals
      go_ret
      refine ⟨rfl, ?_⟩
      repeat (first | (with_reducible exact HB1.out) | (with_reducible refine Below.drew ?_) | (with_reducible refine Below.alloc ?_ (by have := HB1.out.size; simp; try omega) _))

theorem knownlaw_walk (n : Int) (w : World) (wn : (Lit.int .i64 n).wf = true) (ht : Tab w) :
    Calls Tryd.prog 7 #[.int .i64 n] w fun e w' => e = .returned (.bool true) ∧ Below w.heap.size w w' := by
  have h : n % 8 = 0 ∨ n % 8 = 1 ∨ n % 8 = 2 ∨ n % 8 = 3 ∨ n % 8 = 4 ∨ n % 8 = 5 ∨ n % 8 = 6 ∨ n % 8 = 7 := by omega
  rcases h with h | h | h | h | h | h | h | h
  · exact known_walk0 n w wn h ht
  · exact known_walk1 n w wn h ht
  · exact known_walk2 n w wn h ht
  · exact known_walk3 n w wn h ht
  · exact known_walk4 n w wn h ht
  · exact known_walk5 n w wn h ht
  · exact known_walk6 n w wn h ht
  · exact known_walk7 n w wn h ht

end Go.Proofs.YtemofnmfaimliaaDoor
