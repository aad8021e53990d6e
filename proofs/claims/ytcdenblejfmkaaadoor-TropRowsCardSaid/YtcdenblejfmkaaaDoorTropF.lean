/- Contract of trop.Both. -/
import Derived.Test.YtcdenblejfmkaaaDoorTropD
namespace Go.Proofs.YtcdenblejfmkaaaDoor
open Go.RowKit

/-- The lesser of two costs. -/
def lesser (x y : Int) : Int := least [x, y]
theorem lesser_eq (x y : Int) (hx : IsCost x) : lesser x y = if y < x then y else x := by
  unfold IsCost at hx
  unfold lesser least
  simp only [List.foldl_cons, List.foldl_nil]
  split <;> split <;> first | omega | (split <;> omega) | skip

/-- Three numbers in a row of memory. -/
structure VecAt (w : World) (b : Nat) (x y z : Int) : Prop where
  c0 : w.cell? ⟨b, 0, none⟩ = some (.int .i64 x)
  c1 : w.cell? ⟨b, 1, none⟩ = some (.int .i64 y)
  c2 : w.cell? ⟨b, 2, none⟩ = some (.int .i64 z)
  f : ∀ o, w.frozen? ⟨b, o, none⟩ = false
  z : b < w.heap.size
theorem VecAt.below {w w' : World} {b : Nat} {x y z : Int} (h : VecAt w b x y z) (hb : Below w.heap.size w w') : VecAt w' b x y z := by
  obtain ⟨hc, hf⟩ := bcell hb
  have hz := hb.size
  have := h.z
  exact ⟨by rw [hc _ _ h.z]; exact h.c0, by rw [hc _ _ h.z]; exact h.c1, by rw [hc _ _ h.z]; exact h.c2, fun o => by rw [hf _ _ h.z]; exact h.f o, by omega⟩

theorem min2_any (x y : Int) (b : Nat) (w : World) (h0 : w.cell? ⟨b, 0, none⟩ = some (.int .i64 x)) (h1 : w.cell? ⟨b, 1, none⟩ = some (.int .i64 y)) :
    Calls Tryd.prog 9 #[.slice (some ⟨b, 0, none⟩) 2 2] w fun e w' => e = .returned (.int .i64 (lesser x y)) ∧ w = w' :=
  min_any [x, y] 2 2 b 0 w rfl (by omega) (fun i hi => by
    match i, hi with
    | 0, _ => simpa using h0
    | 1, _ => simpa using h1)

set_option maxHeartbeats 400000 in
theorem both_x (x y z a b c : Int) (w : World) :
    Calls Tryd.prog 7 #[.agg #[.int .i64 x, .int .i64 y, .int .i64 z], .agg #[.int .i64 a, .int .i64 b, .int .i64 c]] w fun e w' => e = .returned (.agg #[.int .i64 (lesser x a), .int .i64 (lesser y b), .int .i64 (lesser z c)]) ∧ Below w.heap.size w w' := by
  go_enter Tryd.func7, Tryd.ntmps7
  go_wp2_with fail
  refine wp_loop_rounds 4 ?_; rw [rounds_succ]
  go_wp2_with fail
  go_region_held3 (fun w' => w'.cell? ⟨w.heap.size, 0, none⟩ = some (.int .i64 x) ∧ w'.cell? ⟨w.heap.size + 1, 0, none⟩ = some (.int .i64 a)) (simp [go_sem, World.cell?_alloc_past, *])
    (first | (go_at_call 9; refine (min2_any x a _ _ (by simp [go_sem]) (by simp [go_sem])).mono ?_; rintro e w1 ⟨rfl, rfl⟩))
  go_wp2_with fail
  rw [rounds_succ]
  go_wp2_with fail
  go_region_held3 (fun w' => w'.cell? ⟨w.heap.size, 1, none⟩ = some (.int .i64 y) ∧ w'.cell? ⟨w.heap.size + 1, 1, none⟩ = some (.int .i64 b)) (simp [go_sem, World.cell?_alloc_past, *])
    (first | (go_at_call 9; refine (min2_any y b _ _ (by simp [go_sem]) (by simp [go_sem])).mono ?_; rintro e w1 ⟨rfl, rfl⟩))
  go_wp2_with fail
  rw [rounds_succ]
  go_wp2_with fail
  go_region_held3 (fun w' => w'.cell? ⟨w.heap.size, 2, none⟩ = some (.int .i64 z) ∧ w'.cell? ⟨w.heap.size + 1, 2, none⟩ = some (.int .i64 c)) (simp [go_sem, World.cell?_alloc_past, *])
    (first | (go_at_call 9; refine (min2_any z c _ _ (by simp [go_sem]) (by simp [go_sem])).mono ?_; rintro e w1 ⟨rfl, rfl⟩))
  go_wp2_with fail
  rw [rounds_succ]
  go_wp2_with fail
  go_outline
  refine bodyPost_ret (v := .agg #[.int .i64 (lesser x a), .int .i64 (lesser y b), .int .i64 (lesser z c)]) (by simp [results, Tryd.results7, go_sem]) rfl ⟨rfl, ?_⟩
  repeat (first | (with_reducible exact Below.refl _ _) | (with_reducible refine Below.drew ?_) | (with_reducible refine Below.alloc ?_ (by simp; try omega) _) | (with_reducible refine Below.setCell ?_ (by simp) _))

end Go.Proofs.YtcdenblejfmkaaaDoor
