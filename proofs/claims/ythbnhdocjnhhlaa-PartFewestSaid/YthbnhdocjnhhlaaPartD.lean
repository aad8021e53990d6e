/- Contracts of sort.Search at sought.isBehind, of part.Letter and part.Count. -/
import Derived.Test.YthbnhdocjnhhlaaPartF
import Derived.Deep.LoopGhost
import Derived.Shelf.SlSorted.Search
namespace Go.Proofs.Ythbnhdocjnhhlaa
open Go Go.RowKit Go.Sort
set_option linter.unusedVariables false

theorem alloc_drewN (W : World) (o : Obj) (q : Nat) : (W.alloc o).drewN q = Sort.grow (W.drewN q) #[o] := by rw [alloc_eq_grow]; rfl

set_option maxHeartbeats 1000000 in
theorem behind_any {W : World} {m i : Nat} {a : Option Addr} {cap : Nat} {x : Int} {c : List Int} (hi : i < m) (h : ReadsI W (.slice a m cap) m c) :
    Calls Try.prog 33 #[.agg #[.slice a m cap, .int .i64 x], .int .i64 i] W fun e w' => e = .returned (.bool (decide (x < c.getD i 0))) ∧ ∃ q os', w' = Sort.grow (W.drewN q) os' := by
  obtain ⟨b, off, rfl, hb, c1⟩ := h.at i hi
  clear h
  have i0 : (0 : Int) ≤ (i : Int) := Int.natCast_nonneg _
  have i1 : (i : Int) < (m : Int) := by omega
  generalize c.getD i 0 = y at *
  go_enter Try.func33, Try.ntmps33
  go_wp2_with fail
  go_quiet (fail)
  go_wp2_with fail
  go_ret
  exact ⟨rfl, _, _, alloc_drewN _ _ _⟩

set_option maxHeartbeats 4000000 in
set_option maxRecDepth 1000000 in
theorem search_any {w : World} {m cap k : Nat} {a : Option Addr} {x : Int} {c : List Int} (h : ReadsI w (.slice a m cap) m c) (hm : m ≤ 1000000000) (hkm : k ≤ m) (h1 : ∀ t, t < k → c.getD t 0 ≤ x) (h2 : ∀ t, k ≤ t → t < m → x < c.getD t 0) :
    Calls Try.prog 32 #[.int .i64 m, .func (.func 33) #[.agg #[.slice a m cap, .int .i64 x]] #[]] w fun e w' => e = .returned (.int .i64 (k : Nat)) ∧ ∃ q os, w' = Sort.grow (w.drewN q) os := by
  have HF : Hid (∀ (q : Nat) (os : Array Obj) (i : Nat), i < m → Calls Try.prog 33 #[.agg #[.slice a m cap, .int .i64 x], .int .i64 i] (Sort.grow (w.drewN q) os) fun e w' => e = .returned (.bool (decide (x < c.getD i 0))) ∧ ∃ q' os', w' = Sort.grow ((Sort.grow (w.drewN q) os).drewN q') os') :=
    Lib.hid fun q os i hi => behind_any hi (h.same fun b o y hy => cell_grown (World.block_lt_of_cell? _ _ hy) hy q os)
  have H1 := Lib.hid h1; have H2 := Lib.hid h2
  clear h1 h2 h
  go_enter Try.func32, Try.ntmps32
  go_wp2
  go_loopg [5, 6] m (fun kx s5 s6 wr => ∃ (lo hi q : Nat) (os : Array Obj), s5 = .int .i64 lo ∧ s6 = .int .i64 hi ∧ lo ≤ k ∧ k ≤ hi ∧ hi ≤ m ∧ hi - lo ≤ kx ∧ wr = Sort.grow (w.drewN q) os)
  case atStart => exact ⟨0, m, 0, #[], rfl, rfl, Nat.zero_le _, hkm, Nat.le_refl _, by omega, by rw [grow_empty]; rfl⟩
  case round =>
    obtain ⟨lo, hi, q, os, rfl, rfl, hlk, hkh, hin, hg, rfl⟩ := hrel
    by_cases hlt : lo < hi
    · have hc := HF.out q os ((lo + hi) / 2) (by omega)
      rw [show (((lo + hi) / 2 : Nat) : Int) = ((lo : Int) + (hi : Int)) / 2 by omega] at hc
      by_cases hp : (lo + hi) / 2 < k
      · have e : decide (x < c.getD ((lo + hi) / 2) 0) = false := by have := H1.out _ hp; simp only [decide_eq_false_iff_not]; omega
        rw [e] at hc; clear e
        go_wp2_with (go_at_call 33; refine hc.mono ?_; rintro e w' ⟨rfl, nq, osq, rfl⟩)
        go_roundg (hi - ((lo + hi) / 2 + 1))
        case measure => omega
        case rel => exact ⟨(lo + hi) / 2 + 1, hi, q + nq, os ++ osq, by rw [show ((lo : Int) + (hi : Int)) / 2 + 1 = (((lo + hi) / 2 + 1 : Nat) : Int) by omega], rfl, by omega, hkh, hin, Nat.le_refl _, by show Sort.grow (Sort.grow ((w.drewN q).drewN nq) os) osq = _; rw [grow_grow, World.drewN_drewN]⟩
      · have e : decide (x < c.getD ((lo + hi) / 2) 0) = true := by have := H2.out ((lo + hi) / 2) (by omega) (by omega); simp only [decide_eq_true_eq]; omega
        rw [e] at hc; clear e
        go_wp2_with (go_at_call 33; refine hc.mono ?_; rintro e w' ⟨rfl, nq, osq, rfl⟩)
        go_roundg ((lo + hi) / 2 - lo)
        case measure => omega
        case rel => exact ⟨lo, (lo + hi) / 2, q + nq, os ++ osq, rfl, by rw [show ((lo : Int) + (hi : Int)) / 2 = (((lo + hi) / 2 : Nat) : Int) by omega], hlk, by omega, by omega, Nat.le_refl _, by show Sort.grow (Sort.grow ((w.drewN q).drewN nq) os) osq = _; rw [grow_grow, World.drewN_drewN]⟩
    · obtain rfl : hi = lo := by omega
      obtain rfl : k = hi := by omega
      go_wp2
      go_ret
      exact ⟨rfl, q, os, rfl⟩

/-- It returns a number; nothing that was there has turned. -/
def SaysI (w : World) (x : Int) (e : Ending) (w' : World) : Prop := e = .returned (.int .i64 x) ∧ Below w.heap.size w w'
set_option maxHeartbeats 2000000 in
theorem plet_any {w : World} {v u : Value} {m k : Nat} {c l : List Int} {x : Int} (h : ReadsI w v m c) (h' : ReadsI w u m l) (hm : m ≤ 1000000000) (hx : x ≤ 1114111) (hkm : k < m) (h1 : ∀ t, t < k + 1 → c.getD t 0 ≤ x) (h2 : ∀ t, k + 1 ≤ t → t < m → x < c.getD t 0) :
    Calls Try.prog 21 #[v, u, .int .i64 x] w (SaysI w (l.getD k 0)) := by
  obtain ⟨a, cap, rfl, -, -, -⟩ := h.form
  obtain ⟨a', cap', rfl, -, -, -⟩ := h'.form
  have HS := Lib.hid (search_any h hm (show k + 1 ≤ m by omega) h1 h2)
  obtain ⟨b, off, rfl, hb, c1⟩ := h'.at k hkm
  have c1' : ∀ (q : Nat) (os : Array Obj), (Sort.grow (w.drewN q) os).cell? ⟨b, off + k, none⟩ = some (.int .i64 (l.getD k 0)) := fun q os => cell_grown hb c1 q os
  have C1 := Lib.hid c1'; clear c1 c1' h h' h1 h2
  generalize l.getD k 0 = y at *
  have i0 : (0 : Int) ≤ (k : Int) := Int.natCast_nonneg _
  have i1 : (k : Int) < (m : Int) := by omega
  have t1 : decide (k < m) = true := by simpa using hkm
  go_enter Try.func21, Try.ntmps21
  go_wp2_with fail
  refine HS.out.mono ?_
  rintro e w' ⟨rfl, q, os, rfl⟩
  have c2 := C1.out q os
  have HB := Lib.hid (below_grown_sl w.heap.size w q os (Nat.le_refl _))
  generalize Sort.grow (w.drewN q) os = W at *
  go_wp2_with fail
  go_ret
  exact ⟨rfl, HB.out⟩

set_option maxHeartbeats 1000000 in
theorem pcount_any {w : World} {v : Value} {m : Nat} {ks : List (List Bool)} (h : ReadsI w v m ((lets ks).map fun (i : Nat) => (i : Int))) (hm : m ≤ 1000000000) :
    Calls Try.prog 16 #[v] w (SaysI w ((firsts ks).length : Nat)) := by
  obtain ⟨a, cap, rfl, -, -, hl⟩ := h.form
  have hks : ks.length = m := by simpa [lets] using hl
  have H := Lib.hid h; have HK := Lib.hid hks; clear h hl hks
  go_enter Try.func16, Try.ntmps16
  go_wp2_with fail
  go_loopw [3, 8] (fun s i wr => ∃ (k n : Nat), k ≤ m ∧ n ≤ k ∧ i = .int .i64 k ∧ s = .int .i64 n ∧ Hid (n = cnt ks k) ∧ wr = w) (fun _ i _ => m - (intOf i).toNat)
  case atStart => exact ⟨0, 0, Nat.zero_le _, Nat.le_refl _, rfl, rfl, Lib.hid rfl, rfl⟩
  case round =>
    obtain ⟨k, n, hk, hnk, rfl, rfl, HN, rfl⟩ := hrel
    have i0 : (0 : Int) ≤ (k : Int) := Int.natCast_nonneg _
    by_cases hlt : k < m
    · have i1 : (k : Int) < (m : Int) := by omega
      have t1 : decide (k < m) = true := by simpa using hlt
      obtain ⟨b, off, rfl, hbl, c1⟩ := H.out.at k hlt
      have hst := cnt_step ks k (by rw [HK.out]; exact hlt)
      have e : ((lets ks).map fun (i : Nat) => (i : Int)).getD k 0 = (((lets ks).getD k 0 : Nat) : Int) := by
        have hkl : k < (lets ks).length := by rw [lets_len, HK.out]; exact hlt
        simp [List.getD, List.getElem?_eq_getElem hkl]
      rw [e] at c1; clear e
      rw [← HN.out] at hst
      generalize (lets ks).getD k 0 = y at *
      rcases hst with ⟨q1, q2⟩ | ⟨q1, q2⟩
      · have HQ := Lib.hid q2; clear q2
        subst q1
        go_wp2_with fail
        exact ⟨⟨k + 1, y + 1, by omega, by omega, by go_num, by go_num, Lib.hid HQ.out.symm, trivial⟩, by simp [intOf]; omega⟩
      · have HQ := Lib.hid q2; clear q2
        have t2 : ((y : Int) == (n : Int)) = false := by simp; omega
        go_wp2_with fail
        exact ⟨⟨k + 1, n, by omega, by omega, by go_num, rfl, Lib.hid HQ.out.symm, trivial⟩, by simp [intOf]; omega⟩
    · have HE := Lib.hid (cnt_all ks k (by rw [HK.out]; omega))
      go_wp2_with fail
      go_ret
      exact ⟨by rw [← HE.out, ← HN.out]; rfl, Below.refl _ _⟩

end Go.Proofs.Ythbnhdocjnhhlaa
