/- Encode (the project's and the document's own) at any slice that reads as numbers; slices that came in, read; what the law texts gather of numbers. -/
import Derived.Test.YtcdenblejfmkaaaUtfH
import Derived.Test.YtcdenblejfmkaaaUtfU
import Derived.Test.YtcdenblejfmkaaaInts
import Derived.Test.YtcdenblejfmkaaaIsRow
namespace Go.Proofs.Ytcdenblejfmkaaa
open Go.RowKit Go.Proofs
set_option linter.unusedVariables false

theorem encode_zero (a : Option Addr) (cap : Nat) (w : World) :
    Calls Try.prog 18 #[.slice a 0 cap] w fun e w' => e = .returned (.string ⟨(enc []).toArray⟩) ∧ Below w.heap.size w w' := by
  go_enter Try.func18, Try.ntmps18
  go_wp2_with fail
  refine wp_loop_rounds 1 ?_; rw [rounds_succ]
  go_wp2_with fail
  refine (Try.Builder_String_any_k w.heap.size w.heap.size [] _ (Lib.IsBuilderF.of (Lib.fresh_isBuilder 44 5 w)) (by simp)).mono ?_
  rintro e w2 ⟨rfl, _, hbw2, _⟩
  go_wp2_with fail
  go_ret
  exact ⟨rfl, ((Below.refl _ w).alloc (Nat.le_refl _) _).trans hbw2⟩
theorem refencode_zero (a : Option Addr) (cap : Nat) (w : World) :
    Calls Try.prog 19 #[.slice a 0 cap] w fun e w' => e = .returned (.string ⟨(enc []).toArray⟩) ∧ Below w.heap.size w w' := by
  go_enter Try.func19, Try.ntmps19
  go_wp2_with fail
  refine wp_loop_rounds 1 ?_; rw [rounds_succ]
  go_wp2_with fail
  go_ret
  exact ⟨rfl, Below.refl _ _⟩

theorem encode_reads {w : World} {v : Value} {n : Nat} {l : List Int} (h : Reads w v n l) (hn : n ≤ 1000000) :
    Calls Try.prog 18 #[v] w fun e w' => e = .returned (.string ⟨(enc l).toArray⟩) ∧ Below w.heap.size w w' := by
  obtain ⟨h1, a, cap, rfl, _, h3⟩ := h
  by_cases h0 : n = 0
  · subst h0
    obtain rfl : l = [] := List.eq_nil_of_length_eq_zero h1
    exact encode_zero a cap w
  · obtain ⟨b, off, rfl, hc⟩ := h3 0 (by omega)
    exact encode_any l n cap b off w h1 hn (World.block_lt_of_cell? w _ (hc 0 (by omega))) hc
theorem refencode_reads {w : World} {v : Value} {n : Nat} {l : List Int} (h : Reads w v n l) (hn : n ≤ 1000000) :
    Calls Try.prog 19 #[v] w fun e w' => e = .returned (.string ⟨(enc l).toArray⟩) ∧ Below w.heap.size w w' := by
  obtain ⟨h1, a, cap, rfl, _, h3⟩ := h
  by_cases h0 : n = 0
  · subst h0
    obtain rfl : l = [] := List.eq_nil_of_length_eq_zero h1
    exact refencode_zero a cap w
  · obtain ⟨b, off, rfl, hc⟩ := h3 0 (by omega)
    exact refencode_any l n cap b off w h1 hn (World.block_lt_of_cell? w _ (hc 0 (by omega))) hc

theorem getD_take (l : List Int) (n j : Nat) (h : j < n) : (l.take n).getD j 0 = l.getD j 0 := by
  simp [List.getD, h]
theorem IsRow.reads {w : World} {a : Option Addr} {len cap : Nat} {zs : List Int} (h : IsRow .i64 w a len cap zs) (n : Nat) (hn : n ≤ len) : Reads w (.slice a n cap) n (zs.take n) := by
  have hl := h.len_le
  refine ⟨by rw [List.length_take]; omega, a, cap, rfl, fun e => ?_, fun i hi => ?_⟩
  · rcases h with ⟨_, _, h2, _⟩ | ⟨x, hx, _⟩
    · exact h2
    · rw [e] at hx; cases hx
  · obtain ⟨b, off, ha, _, hc, _⟩ := h.at i (by omega)
    exact ⟨b, off, ha, fun j hj => by rw [getD_take _ _ _ hj]; exact hc j (by omega)⟩

/-- The first k of the numbers that came in, each as a law text turns it. -/
def mapped (f : Int → Int) (z : List Int) (k : Nat) : List Int := (z.take k).map f
theorem mapped_zero (f : Int → Int) (z : List Int) : mapped f z 0 = [] := rfl
theorem mapped_succ (f : Int → Int) (z : List Int) (k : Nat) (h : k < z.length) : mapped f z (k + 1) = mapped f z k ++ [f (z.getD k 0)] := by
  unfold mapped; rw [take_snoc z k h, List.map_append]; rfl
theorem mapped_len (f : Int → Int) (z : List Int) (k : Nat) (h : k ≤ z.length) : (mapped f z k).length = k := by
  unfold mapped; rw [List.length_map, List.length_take]; omega
theorem enc_size (l : List Int) (n : Nat) (h : l.length ≤ n) (hn : n ≤ 1000) : (⟨(enc l).toArray⟩ : ByteArray).size ≤ 1000000 := by
  have := enc_len l
  simp [ByteArray.size] at *
  omega

end Go.Proofs.Ytcdenblejfmkaaa
