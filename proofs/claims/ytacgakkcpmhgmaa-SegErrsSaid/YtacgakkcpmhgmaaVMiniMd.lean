/- The chapter's own comparisons, of two that are the same. -/
import Derived.Test.YtacgakkcpmhgmaaVTableTa
set_option linter.unusedVariables false
set_option linter.unusedSimpArgs false
set_option maxRecDepth 100000
set_option maxHeartbeats 4000000
namespace Go.Proofs.Ytacgakkcpmhgmaa
open Go Go.RowKit Go.Proofs
theorem eq_vec (x y z a b c : Int) (w : World) :
  (Op.equalIn 10000 51 (.agg #[.int .i64 x, .int .i64 y, .int .i64 z]) (.agg #[.int .i64 a, .int .i64 b, .int .i64 c])).run Try.prog w = .ok (x == a && (y == b && z == c)) w := by
  have hi : ∀ (p q : Int) (w : World), (Op.equalIn 9999 3 (.int .i64 p) (.int .i64 q)).run Try.prog w = .ok (p == q) w := fun p q w => run_equalIn_int w 9998 3 .i64 .i64 p q Try.underlying3
  have hs : ∀ w : World, (sizeOf 3).run Try.prog w = .ok 1 w := fun w => by kernel_rfl
  have p0 : ∀ (v0 v1 v2 : Value) (w : World), (part 3 #[v0, v1, v2] 0).run Try.prog w = .ok v0 w := fun v0 v1 v2 w => by kernel_rfl
  have p1 : ∀ (v0 v1 v2 : Value) (w : World), (part 3 #[v0, v1, v2] 1).run Try.prog w = .ok v1 w := fun v0 v1 v2 w => by kernel_rfl
  have p2 : ∀ (v0 v1 v2 : Value) (w : World), (part 3 #[v0, v1, v2] 2).run Try.prog w = .ok v2 w := fun v0 v1 v2 w => by kernel_rfl
  show (Op.equalIn (9999 + 1) 51 _ _).run Try.prog w = _
  rw [Op.equalIn]
  simp [Sem.run_bind, run_underlying Try.underlying51, hs]
  have r3 : List.range' 0 3 = [0, 1, 2] := rfl
  rw [r3]
  simp only [List.forIn_cons, List.forIn_nil, Sem.run_bind, Sem.run_ite, Sem.run_pure, hi, p0, Result.andThen_ok]
  by_cases h1 : (x == a) = false
  ·simp [h1]
  ·have h1 : (x == a) = true := by simpa using h1
   simp only [h1, Bool.true_eq_false, if_false, Result.andThen_ok, Sem.run_bind, Sem.run_ite, Sem.run_pure, p1, hi]
   by_cases h2 : (y == b) = false
   ·simp [h2]
   ·have h2 : (y == b) = true := by simpa using h2
    simp only [h2, Bool.true_eq_false, if_false, Result.andThen_ok, Sem.run_bind, Sem.run_ite, Sem.run_pure, p2, hi]
    by_cases h3 : (z == c) = false
    ·simp [h3]
    ·have h3 : (z == c) = true := by simpa using h3
     simp [h3]
theorem eq_same (x y z : Int) (w : World) :
  (Op.equalIn 10000 51 (.agg #[.int .i64 x, .int .i64 y, .int .i64 z]) (.agg #[.int .i64 x, .int .i64 y, .int .i64 z])).run Try.prog w = .ok true w := by rw [eq_vec]; simp
theorem ReadsI.dr {w : World} {v : Value} {n : Nat} {l : List Int} (h : ReadsI w v n l) (d : Nat) : ReadsI (w.drewN d) v n l := h
theorem ReadsE.dr {w : World} {v : Value} {n : Nat} {l : List V3} (h : ReadsE encV 3 w v n l) (d : Nat) : ReadsE encV 3 (w.drewN d) v n l := h
theorem vecs_true {w : World} {A1 A2 : Option Addr} {n c1 c2 : Nat} {l : List V3} (h1 : ReadsE encV 3 w (.slice A1 n c1) n l) (h2 : ReadsE encV 3 w (.slice A2 n c2) n l) :
  Calls Try.prog 21 #[.slice A1 n c1, .slice A2 n c2] w fun e w' => e = .returned (.bool true) /\ ∃ d, w' = w.drewN d := by
  obtain ⟨hl1, a1, c1', e1, q1, q2, -⟩ := id h1
  obtain ⟨-, a2, c2', e2, q3, q4, -⟩ := id h2
  simp only [Value.slice.injEq, true_and] at e1 e2
  obtain ⟨rfl, rfl⟩ := e1
  obtain ⟨rfl, rfl⟩ := e2
  unfold maxLen at q2 q4
  have H1 := Lib.hid h1; have H2 := Lib.hid h2; have HL := Lib.hid hl1
  clear h1 h2 hl1
  have heq := eq_same
  go_enter Try.func21, Try.ntmps21
  go_wp2_with fail
  go_loopw [5] (fun vi wr => ∃ i d : Nat, vi = .int .i64 (i : Int) /\ i <= n /\ wr = w.drewN d) (fun vi _ => n - (intOf vi).toNat)
  case atStart => exact ⟨0, 0, rfl, Nat.zero_le _, rfl⟩
  case round =>
   obtain ⟨i, d, rfl, hi, rfl⟩ := hrel
   have i0 : (0 : Int) <= (i : Int) := Int.natCast_nonneg _
   by_cases hlt : i < n
   ·have i1 : (i : Int) < (n : Int) := by omega
    have t1 : decide (i < n) = true := by simpa using hlt
    have hil : i < l.length := by rw [HL.out]; exact hlt
    obtain ⟨u, hu⟩ : ∃ u, l[i]? = some u := ⟨_, List.getElem?_eq_getElem hil⟩
    obtain ⟨g1, o1, e1, -, r1⟩ := H1.out.at encV_len (by decide) i u hu
    obtain ⟨g2, o2, e2, -, r2⟩ := H2.out.at encV_len (by decide) i u hu
    subst e1 e2
    obtain ⟨x, y, z⟩ := u
    have s0 := r1 0 _ rfl; have s1 := r1 1 _ rfl; have s2 := r1 2 _ rfl
    have p0 := r2 0 _ rfl; have p1 := r2 1 _ rfl; have p2 := r2 2 _ rfl
    rw [Nat.add_zero] at s0 p0
    clear r1 r2 hu hil
    go_wp2_with fail
    go_big_quiet (fail)
    go_wp2_with fail
    exact ⟨⟨i + 1, _, by go_num, by omega, rfl⟩, by simp [intOf]; omega⟩
   ·go_wp2_with fail
    go_ret
    exact ⟨rfl, d, rfl⟩
end Go.Proofs.Ytacgakkcpmhgmaa
