/- Plain facts on how costs are written: two rows of costs are written alike just where they are the same. -/
import Derived.Test.YtemofnmfaimliaaDoorTropDig
namespace Go.Proofs.YtemofnmfaimliaaDoor
open Go.RowKit

/-- What the document's Text has written after k numbers. -/
def tpre (l : List Int) : Nat → List UInt8
  | 0 => []
  | k + 1 => (if k = 0 then tpre l k else tpre l k ++ [32]) ++ wtext (l.getD k 0)
theorem tpre_len (l : List Int) (k : Nat) : (tpre l k).length ≤ 20 * k := by
  induction k with
  | zero => simp [tpre]
  | succ k ih =>
    have := wtext_len (l.getD k 0)
    unfold tpre
    split <;> simp only [List.length_append, List.length_cons, List.length_nil] <;> omega
theorem tpre_three (a b c : Int) : tpre [a, b, c] 3 = vtext a b c := by
  rw [vtext_eq]; simp [tpre]

/-- Digits are no blank. -/
theorem dec_mem (u : Nat) (x : UInt8) (h : x ∈ Lib.decDigits u) : x ≠ 32 ∧ x ≠ 45 := by
  induction u using Nat.strongRecOn with
  | _ u ih =>
    have key : ∀ d : Nat, d < 10 → UInt8.ofNat (48 + d) ≠ 32 ∧ UInt8.ofNat (48 + d) ≠ 45 := by decide
    rw [Lib.decDigits] at h
    split at h
    · rename_i hu
      simp only [List.mem_singleton] at h
      subst h
      exact key u hu
    · rename_i hu
      simp only [List.mem_append, List.mem_singleton] at h
      rcases h with h | h
      · exact ih (u / 10) (by omega) h
      · subst h
        exact key (u % 10) (by omega)
theorem wtext_noblank (n : Int) : (32 : UInt8) ∉ wtext n := by
  unfold wtext
  split
  · decide
  · intro h; exact (dec_mem _ _ h).1 rfl
theorem dec_ne_nil (u : Nat) : Lib.decDigits u ≠ [] := by
  rw [Lib.decDigits]; split <;> simp
theorem dec_small {u : Nat} (h : u < 10) : Lib.decDigits u = [UInt8.ofNat (48 + u)] := by rw [Lib.decDigits, dif_pos h]
theorem dec_big {u : Nat} (h : ¬ u < 10) : Lib.decDigits u = Lib.decDigits (u / 10) ++ [UInt8.ofNat (48 + u % 10)] := by rw [Lib.decDigits, dif_neg h]
theorem digit_inj (d e : Nat) (hd : d < 10) (he : e < 10) (h : UInt8.ofNat (48 + d) = UInt8.ofNat (48 + e)) : d = e := by
  have := congrArg UInt8.toNat h
  simp at this
  omega
theorem dec_inj (u v : Nat) (h : Lib.decDigits u = Lib.decDigits v) : u = v := by
  induction u using Nat.strongRecOn generalizing v with
  | _ u ih =>
    by_cases hu : u < 10
    · by_cases hv : v < 10
      · rw [dec_small hu, dec_small hv] at h
        exact digit_inj u v hu hv (by simpa only [List.cons.injEq, and_true] using h)
      · rw [dec_small hu, dec_big hv] at h
        have := congrArg List.length h
        simp only [List.length_append, List.length_cons, List.length_nil] at this
        exact absurd (List.length_eq_zero_iff.1 (show (Lib.decDigits (v / 10)).length = 0 by omega)) (dec_ne_nil _)
    · by_cases hv : v < 10
      · rw [dec_big hu, dec_small hv] at h
        have := congrArg List.length h
        simp only [List.length_append, List.length_cons, List.length_nil] at this
        exact absurd (List.length_eq_zero_iff.1 (show (Lib.decDigits (u / 10)).length = 0 by omega)) (dec_ne_nil _)
      · rw [dec_big hu, dec_big hv] at h
        have h2 := List.append_inj' h rfl
        have e1 := ih (u / 10) (by omega) (v / 10) h2.1
        have e2 := digit_inj (u % 10) (v % 10) (by omega) (by omega) (by simpa only [List.cons.injEq, and_true] using h2.2)
        omega
theorem wtext_inj (m n : Int) (hm : IsCost m) (hn : IsCost n) (h : wtext m = wtext n) : m = n := by
  obtain ⟨m0, m1⟩ := hm; obtain ⟨n0, n1⟩ := hn
  unfold wtext at h
  split at h <;> split at h
  · omega
  · exact absurd (dec_mem n.toNat 45 (by rw [← h]; simp)).2 (by simp)
  · exact absurd (dec_mem m.toNat 45 (by rw [h]; simp)).2 (by simp)
  · have := dec_inj _ _ h
    omega
theorem blank_inj : ∀ (a c b d : List UInt8), (32 : UInt8) ∉ a → (32 : UInt8) ∉ c → a ++ 32 :: b = c ++ 32 :: d → a = c ∧ b = d
  | [], [], _, _, _, _, h => ⟨rfl, by simpa using h⟩
  | [], y :: c, _, _, _, hc, h => by
    simp only [List.nil_append, List.cons_append, List.cons.injEq] at h
    exact absurd (h.1 ▸ List.mem_cons_self) hc
  | x :: a, [], _, _, ha, _, h => by
    simp only [List.nil_append, List.cons_append, List.cons.injEq] at h
    exact absurd (h.1 ▸ List.mem_cons_self) ha
  | x :: a, y :: c, b, d, ha, hc, h => by
    simp only [List.cons_append, List.cons.injEq] at h
    obtain ⟨e1, e2⟩ := blank_inj a c b d (fun q => ha (List.mem_cons_of_mem _ q)) (fun q => hc (List.mem_cons_of_mem _ q)) h.2
    exact ⟨by rw [h.1, e1], e2⟩
theorem vtext_inj (a b c d e f : Int) (ha : IsCost a) (hb : IsCost b) (hc : IsCost c) (hd : IsCost d) (he : IsCost e) (hf : IsCost f) (h : vtext a b c = vtext d e f) : a = d ∧ b = e ∧ c = f := by
  rw [vtext_eq, vtext_eq] at h
  simp only [List.append_assoc, List.cons_append, List.nil_append] at h
  obtain ⟨h1, h2⟩ := blank_inj _ _ _ _ (wtext_noblank a) (wtext_noblank d) h
  obtain ⟨h3, h4⟩ := blank_inj _ _ _ _ (wtext_noblank b) (wtext_noblank e) h2
  exact ⟨wtext_inj _ _ ha hd h1, wtext_inj _ _ hb he h3, wtext_inj _ _ hc hf h4⟩

set_option maxHeartbeats 800000 in
theorem reftext_any (a b c : Int) (w : World) (ha : IsCost a) (hb : IsCost b) (hc : IsCost c) :
    Calls Tryd.prog 21 #[.agg #[.int .i64 a, .int .i64 b, .int .i64 c]] w fun e w' => e = .returned (.string ⟨(vtext a b c).toArray⟩) ∧ Below w.heap.size w w' := by
  have hl : ∀ i, IsCost ([a, b, c].getD i 0) := fun i => by
    match i with
    | 0 => exact ha
    | 1 => exact hb
    | 2 => exact hc
    | (n + 3) => simp [IsCost]
  have HL := Lib.hid hl; clear hl ha hb hc
  go_enter Tryd.func21, Tryd.ntmps21
  go_wp2_with fail
  go_loopw [3, 4] (fun s i wr => ∃ k : Nat, k ≤ 3 ∧ i = .int .i64 k ∧ s = .string ⟨(tpre [a, b, c] k).toArray⟩ ∧ Below w.heap.size w wr ∧ (∀ j, j < 3 → wr.cell? ⟨w.heap.size, j, none⟩ = some (.int .i64 ([a, b, c].getD j 0))) ∧ w.heap.size < wr.heap.size) (fun _ i _ => 3 - (intOf i).toNat)
  case atStart =>
    refine ⟨0, by omega, rfl, rfl, (Below.refl _ _).alloc (Nat.le_refl _) _, ?_, by simp⟩
    intro j hj
    match j, hj with
    | 0, _ => simp [go_sem]
    | 1, _ => simp [go_sem]
    | 2, _ => simp [go_sem]
  case round =>
    obtain ⟨k, hk, rfl, rfl, hB, hcell, hz⟩ := hrel
    by_cases hlt : k < 3
    · have hx := hcell k hlt
      have hcost := HL.out k
      have hlen := tpre_len [a, b, c] k
      have hnext : tpre [a, b, c] (k + 1) = (if k = 0 then tpre [a, b, c] k else tpre [a, b, c] k ++ [32]) ++ wtext ([a, b, c].getD k 0) := rfl
      have HNEXT := Lib.hid hnext; have HCELL := Lib.hid hcell; have HB := Lib.hid hB
      clear hnext hcell hB
      generalize [a, b, c].getD k 0 = x at *
      generalize tpre [a, b, c] k = t at *
      have ht1 : t.length ≤ 100 := by omega
      clear hlen
      by_cases h0 : k = 0
      · subst h0
        rw [if_pos rfl] at HNEXT
        by_cases hinf : 1152921504606846976 ≤ x
        · have HX := Lib.hid (show wtext x = [45] from if_pos hinf)
          have hs : ¬ 9223372036854775807 < t.length + 1 := by omega
          go_wp2_with fail
          refine ⟨⟨0 + 1, by omega, by go_num, ?_, HB.out, HCELL.out, hz⟩, by simp [intOf]⟩
          rw [HNEXT.out, HX.out, ← str_app]
        · have HX := Lib.hid (show wtext x = Lib.decDigits x.toNat from if_neg hinf)
          go_wp2_with fail
          refine (digits_any 1152921504606846976 x _ (by omega) hcost.1 hcost.2).mono ?_; rintro e w2 ⟨rfl, hb2⟩
          have hl := dec_len x.toNat (by have := hcost.2; omega)
          generalize Lib.decDigits x.toNat = d at *
          have hs3 : ¬ 9223372036854775807 < t.length + d.length := by omega
          have HB2 := Lib.hid (HB.out.trans (hb2.mono HB.out.size))
          have HC2 : Hid (∀ j, j < 3 → w2.cell? ⟨w.heap.size, j, none⟩ = some (.int .i64 ([a, b, c].getD j 0))) := Lib.hid (fun j hj => by rw [(bcell hb2).1 _ _ hz]; exact HCELL.out j hj)
          have hz2 := hb2.size
          clear hb2
          go_wp2_with fail
          refine ⟨⟨0 + 1, by omega, by go_num, ?_, HB2.out, HC2.out, by omega⟩, by simp [intOf]⟩
          rw [HNEXT.out, HX.out, ← str_app]
      · rw [if_neg h0] at HNEXT
        have hpos : 0 < k := by omega
        by_cases hinf : 1152921504606846976 ≤ x
        · have HX := Lib.hid (show wtext x = [45] from if_pos hinf)
          have hs : ¬ 9223372036854775807 < t.length + 1 := by omega
          have hs2 : ¬ 9223372036854775807 < t.length + 1 + 1 := by omega
          go_wp2_with fail
          refine ⟨⟨k + 1, by omega, by go_num, ?_, HB.out, HCELL.out, hz⟩, by simp [intOf]; omega⟩
          rw [HNEXT.out, HX.out, ← str_app, ← str_app]
        · have HX := Lib.hid (show wtext x = Lib.decDigits x.toNat from if_neg hinf)
          have hs : ¬ 9223372036854775807 < t.length + 1 := by omega
          go_wp2_with fail
          refine (digits_any 1152921504606846976 x _ (by omega) hcost.1 hcost.2).mono ?_; rintro e w2 ⟨rfl, hb2⟩
          have hl := dec_len x.toNat (by have := hcost.2; omega)
          generalize Lib.decDigits x.toNat = d at *
          have hs3 : ¬ 9223372036854775807 < t.length + 1 + d.length := by omega
          have HB2 := Lib.hid (HB.out.trans (hb2.mono HB.out.size))
          have HC2 : Hid (∀ j, j < 3 → w2.cell? ⟨w.heap.size, j, none⟩ = some (.int .i64 ([a, b, c].getD j 0))) := Lib.hid (fun j hj => by rw [(bcell hb2).1 _ _ hz]; exact HCELL.out j hj)
          have hz2 := hb2.size
          clear hb2
          go_wp2_with fail
          refine ⟨⟨k + 1, by omega, by go_num, ?_, HB2.out, HC2.out, by omega⟩, by simp [intOf]; omega⟩
          rw [HNEXT.out, HX.out, ← str_app, ← str_app]
    · obtain rfl : k = 3 := by omega
      have HB := Lib.hid hB
      clear hB hcell
      rw [tpre_three]
      go_wp2_with fail
      go_ret
      exact ⟨rfl, HB.out⟩

end Go.Proofs.YtemofnmfaimliaaDoor
