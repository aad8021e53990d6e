/- Contract of trop.Plus. -/
import Derived.Test.YtcdenblejfmkaaaDoorTropE
namespace Go.Proofs.YtcdenblejfmkaaaDoor
open Go.RowKit

theorem bcell {W w1 : World} {B : Nat} (hb : Below B W w1) : (∀ b o, b < B → w1.cell? ⟨b, o, none⟩ = W.cell? ⟨b, o, none⟩) ∧ (∀ b o, b < B → w1.frozen? ⟨b, o, none⟩ = W.frozen? ⟨b, o, none⟩) :=
  ⟨fun b o h => hb.cell (p := ⟨b, o, none⟩) h, fun b o h => hb.frozen (p := ⟨b, o, none⟩) h⟩

theorem plus_inf (n : Int) (hn : IsCost n) : plus 1152921504606846976 n = 1152921504606846976 := by
  unfold plus IsCost at *; split <;> omega

set_option maxHeartbeats 400000 in
theorem plus_x (x y z n : Int) (w : World) (hx : IsCost x) (hy : IsCost y) (hz : IsCost z) (hn : IsCost n) :
    Calls Tryd.prog 10 #[.agg #[.int .i64 x, .int .i64 y, .int .i64 z], .int .i64 n] w fun e w' => e = .returned (.agg #[.int .i64 (plus x n), .int .i64 (plus y n), .int .i64 (plus z n)]) ∧ Below w.heap.size w w' := by
  have he := fun w => eq_vec' x y z 1152921504606846976 1152921504606846976 1152921504606846976 w
  have HX := Lib.hid hx; have HY := Lib.hid hy; have HZ := Lib.hid hz; have HN := Lib.hid hn; clear hx hy hz hn
  cases hv : eqv x y z 1152921504606846976 1152921504606846976 1152921504606846976
  · go_enter Tryd.func10, Tryd.ntmps10
    go_wp2_with fail
    go_region_held3 (fun w' => w'.cell? ⟨w.heap.size, 0, none⟩ = some (.int .i64 x) ∧ w'.cell? ⟨w.heap.size, 1, none⟩ = some (.int .i64 y) ∧ w'.cell? ⟨w.heap.size, 2, none⟩ = some (.int .i64 z)) (simp [go_sem, World.cell?_alloc_past, *])
      (first | (go_at_call 5; refine (none_any _).mono ?_; rintro e w1 ⟨rfl, hb⟩; obtain ⟨hc1, hf1⟩ := bcell hb; have hz1 := hb.size))
    clear he
    have d0 : w1.cell? ⟨w.heap.size + 1, 0, none⟩ = some (.int .i64 0) := by rw [hc1 _ _ (by simp)]; simp [go_sem]
    have d1 : w1.cell? ⟨w.heap.size + 1, 1, none⟩ = some (.int .i64 0) := by rw [hc1 _ _ (by simp)]; simp [go_sem]
    have d2 : w1.cell? ⟨w.heap.size + 1, 2, none⟩ = some (.int .i64 0) := by rw [hc1 _ _ (by simp)]; simp [go_sem]
    have f0 : ∀ o, w1.frozen? ⟨w.heap.size, o, none⟩ = false := fun o => by rw [hf1 _ _ (by simp; omega)]; simp [go_sem]
    have f1 : ∀ o, w1.frozen? ⟨w.heap.size + 1, o, none⟩ = false := fun o => by rw [hf1 _ _ (by simp)]; simp [go_sem]
    have hbw : Below w.heap.size w w1 := (((Below.refl _ _).alloc (Nat.le_refl _) _).alloc (by simp) _).drew.trans (hb.mono (by simp; omega))
    clear hc1 hf1 hb
    have hz2 : w.heap.size + 2 ≤ w1.heap.size := by simpa using hz1
    clear hz1
    go_wp2_with fail
    refine wp_loop_rounds 4 ?_; rw [rounds_succ]
    go_wp2_with fail
    refine (add_any x n _ HX.out HN.out).mono ?_; rintro e w' ⟨rfl, rfl⟩
    go_wp2_with fail
    rw [rounds_succ]
    go_wp2_with fail
    refine (add_any y n _ HY.out HN.out).mono ?_; rintro e w' ⟨rfl, rfl⟩
    go_wp2_with fail
    rw [rounds_succ]
    go_wp2_with fail
    refine (add_any z n _ HZ.out HN.out).mono ?_; rintro e w' ⟨rfl, rfl⟩
    go_wp2_with fail
    rw [rounds_succ]
    go_wp2_with fail
    refine bodyPost_ret (v := .agg #[.int .i64 (plus x n), .int .i64 (plus y n), .int .i64 (plus z n)]) (by simp [results, Tryd.results10, go_sem, d0, d1, d2]) rfl ⟨rfl, ?_⟩
    repeat (first | (with_reducible exact hbw) | (with_reducible refine Below.setCell ?_ (by simp) _))
  · obtain ⟨rfl, rfl, rfl⟩ := eqv_true.1 hv
    have hp := plus_inf n HN.out
    have HP := Lib.hid hp; clear hp
    go_enter Tryd.func10, Tryd.ntmps10
    go_wp2_with fail
    go_region_held3 (fun w' => w'.cell? ⟨w.heap.size, 0, none⟩ = some (.int .i64 1152921504606846976) ∧ w'.cell? ⟨w.heap.size, 1, none⟩ = some (.int .i64 1152921504606846976) ∧ w'.cell? ⟨w.heap.size, 2, none⟩ = some (.int .i64 1152921504606846976)) (simp [go_sem, World.cell?_alloc_past, *])
      (first | (go_at_call 5; refine (none_any _).mono ?_; rintro e w1 ⟨rfl, hb⟩; obtain ⟨hc1, hf1⟩ := bcell hb; have hz1 := hb.size))
    clear he
    have d0 : w1.cell? ⟨w.heap.size + 1, 0, none⟩ = some (.int .i64 0) := by rw [hc1 _ _ (by simp)]; simp [go_sem]
    have d1 : w1.cell? ⟨w.heap.size + 1, 1, none⟩ = some (.int .i64 0) := by rw [hc1 _ _ (by simp)]; simp [go_sem]
    have d2 : w1.cell? ⟨w.heap.size + 1, 2, none⟩ = some (.int .i64 0) := by rw [hc1 _ _ (by simp)]; simp [go_sem]
    have f1 : ∀ o, w1.frozen? ⟨w.heap.size + 1, o, none⟩ = false := fun o => by rw [hf1 _ _ (by simp)]; simp [go_sem]
    have hbw : Below w.heap.size w w1 := (((Below.refl _ _).alloc (Nat.le_refl _) _).alloc (by simp) _).drew.trans (hb.mono (by simp; omega))
    clear hc1 hf1 hb
    have hz2 : w.heap.size + 2 ≤ w1.heap.size := by simpa using hz1
    clear hz1
    go_wp2_with fail
    refine bodyPost_ret (v := .agg #[.int .i64 1152921504606846976, .int .i64 1152921504606846976, .int .i64 1152921504606846976]) (by simp [results, Tryd.results10, go_sem, d0, d1, d2]) rfl ⟨by rw [HP.out], ?_⟩
    repeat (first | (with_reducible exact hbw) | (with_reducible refine Below.setCell ?_ (by simp) _))

end Go.Proofs.YtcdenblejfmkaaaDoor
