/- Machines in memory; net.size, net.leads. -/
import Derived.Test.YtdcokkgdahbinaaVMiniH
set_option linter.unusedVariables false
set_option linter.unusedSimpArgs false
set_option maxRecDepth 100000
set_option maxHeartbeats 8000000
namespace Go.Proofs.Ytdcokkgdahbinaa
open Go Go.RowKit Go.Proofs
def NextR (w : World) (v : Value) (T : List (List Nat)) : Prop :=
 ∃ a cap, v = .slice a T.length cap /\ T.length <= cap /\ cap <= maxLen /\ (a = none -> cap = 0) /\ ∀ i, i < T.length -> ∃ b off u, a = some ⟨b, off, none⟩ /\ w.cell? ⟨b, off + i, none⟩ = some u /\ ReadsI w u (T.getD i []).length (intsN (T.getD i []))
section
variable {w w' : World} {v : Value} {T : List (List Nat)}
theorem NextR.same (h : NextR w v T) (hk : ∀ b o x, w.cell? ⟨b, o, none⟩ = some x -> w'.cell? ⟨b, o, none⟩ = some x) : NextR w' v T := by
 obtain ⟨a, cap, h1, h2, h3, h4, h5⟩ := h
 refine ⟨a, cap, h1, h2, h3, h4, fun i hi => ?_⟩
 obtain ⟨b, off, u, e, hc, hr⟩ := h5 i hi
 exact ⟨b, off, u, e, hk _ _ _ hc, hr.same hk⟩
theorem NextR.below (h : NextR w v T) (hb : Below w.heap.size w w') : NextR w' v T := h.same fun b o x hx => bel_m hb hx
theorem NextR.form (h : NextR w v T) : ∃ a cap, v = .slice a T.length cap /\ T.length <= cap /\ cap <= 9223372036854775807 := by
 obtain ⟨a, cap, h1, h2, h3, _⟩ := h
 exact ⟨a, cap, h1, h2, by unfold maxLen at h3; exact h3⟩
theorem NextR.at_ {a : Option Addr} {n cap : Nat} (h : NextR w (.slice a n cap) T) {i : Nat} (hi : i < T.length) : ∃ b off A m c, a = some ⟨b, off, none⟩ /\ m = (T.getD i []).length /\ w.cell? ⟨b, off + i, none⟩ = some (.slice A m c) /\ ReadsI w (.slice A m c) m (intsN (T.getD i [])) /\ m <= c /\ c <= 9223372036854775807 := by
 obtain ⟨a', cap', h1, h2, h3, h4, h5⟩ := h
 simp only [Value.slice.injEq] at h1
 obtain ⟨rfl, -, rfl⟩ := h1
 obtain ⟨b, off, u, e, hc, hr⟩ := h5 i hi
 obtain ⟨A, c, e2, q1, q2, _⟩ := hr.form
 subst e2
 exact ⟨b, off, A, _, c, e, rfl, hc, hr, q1, q2⟩
end
theorem size_any (A : Option Addr) (n c : Nat) (w : World) :
  Calls Try.prog 48 #[.agg #[.slice A n c]] w fun e w' => e = .returned (.int .i64 (n : Int)) /\ Below w.heap.size w w' := by
  go_enter Try.func48, Try.ntmps48
  go_wp2_with fail
  go_ret
  exact ⟨rfl, (Below.refl _ _).alloc (Nat.le_refl _) _⟩
theorem leads_any {w : World} {A : Option Addr} {c n k : Nat} {T : List (List Nat)} (h : NextR w (.slice A n c) T) (hn : T.length = n) (hT : RectN T k) (hN : n <= 1000) (hk : k <= 1000) :
  Calls Try.prog 47 #[.agg #[.slice A n c]] w fun e w' => e = .returned (.bool true) /\ Below w.heap.size w w' := by
  have hpos : 0 < n := by have := hT.pos; omega
  obtain ⟨W0, hW0⟩ : ∃ W0, w.alloc (.cells #[.slice A n c] 57) = W0 := ⟨_, rfl⟩
  have hb0 : Below w.heap.size w W0 := by rw [<- hW0]; exact (Below.refl _ _).alloc (Nat.le_refl _) _
  have hx0 : Blk W0 w.heap.size 57 #[.slice A n c] := by rw [<- hW0]; exact Blk.new _ _ _
  have HW0 := Lib.hid hW0; have HB0 := Lib.hid hb0; have HX0 := Lib.hid hx0; have HR := Lib.hid (h.below hb0); have HT := Lib.hid hT; have HN := Lib.hid hn
  have HSZ := Lib.hid (fun W => size_any A n c W)
  obtain ⟨gb, go, A0, m0, c0, hA, hm0, -, -, q1, q2⟩ := h.at_ (i := 0) (by omega)
  subst hA
  clear hW0 hb0 hx0 h hT hn A0 m0 c0 hm0 q1 q2
  go_enter Try.func47, Try.ntmps47
  go_wp2_with fail
  rw [HW0.out]
  go_loopw [10] (fun vi wr => ∃ i : Nat, vi = .int .i64 (i : Int) /\ i <= n /\ Hid (Below W0.heap.size W0 wr)) (fun i _ => n - (intOf i).toNat)
  case atStart => exact ⟨0, rfl, Nat.zero_le _, Lib.hid (Below.refl _ _)⟩
  case round =>
   obtain ⟨i, rfl, hi, HB⟩ := hrel
   have i0 : (0 : Int) <= (i : Int) := Int.natCast_nonneg _
   have HRW := Lib.hid (HR.out.below HB.out)
   have hx := Blk.below HX0.out HB.out HX0.out.lt
   have b0 := hx.cell 0
   simp only [List.getElem?_toArray, List.getElem?_cons_zero] at b0
   have p0 : ¬ n <= 0 := by omega
   by_cases hlt : i < n
   ·have i1 : (i : Int) < (n : Int) := by omega
    have ti : decide (i < n) = true := by simpa using hlt
    have t0 : decide (0 < n) = true := by simpa using hpos
    obtain ⟨gb', go', A0, m0, c0, hA0, hm0, d0, r0, q1, q2⟩ := HRW.out.at_ (i := 0) (by rw [HN.out]; exact hpos)
    simp only [Option.some.injEq, Addr.mk.injEq, and_true] at hA0
    obtain ⟨rfl, rfl⟩ := hA0
    obtain ⟨gb', go', A1, m1, c1, hA1, hm1, d1, r1, q3, q4⟩ := HRW.out.at_ (i := i) (by rw [HN.out]; exact hlt)
    simp only [Option.some.injEq, Addr.mk.injEq, and_true] at hA1
    obtain ⟨rfl, rfl⟩ := hA1
    rw [HT.out.len 0 (by rw [HN.out]; exact hpos)] at hm0
    rw [HT.out.len i (by rw [HN.out]; exact hlt)] at hm1
    subst hm0
    subst hm1
    rw [Nat.add_zero] at d0
    have HR1 := Lib.hid r1
    obtain ⟨W1, hW1⟩ : ∃ W1, W1 = wr := ⟨_, rfl⟩
    clear r0 r1
    go_wp2_with fail
    rw [<- hW1] at hx b0 HRW HB d0 d1 HR1 ⊢
    have HX1 := Lib.hid hx
    clear hW1 hx d0 d1 b0
    go_loopw [6, 24] (fun vt vj wr => ∃ j : Nat, vj = .int .i64 (j : Int) /\ j <= m1 /\ Hid (Below W1.heap.size W1 wr)) (fun _ j _ => m1 - (intOf j).toNat)
    case atStart => exact ⟨0, rfl, Nat.zero_le _, Lib.hid (Below.refl _ _)⟩
    case round =>
     obtain ⟨j, rfl, hj, HBJ⟩ := hrel
     have j0 : (0 : Int) <= (j : Int) := Int.natCast_nonneg _
     have hx := Blk.below HX1.out HBJ.out HX1.out.lt
     have b0 := hx.cell 0
     simp only [List.getElem?_toArray, List.getElem?_cons_zero] at b0
     by_cases hlj : j < m1
     ·have j1 : (j : Int) < (m1 : Int) := by omega
      have tj : decide (j < m1) = true := by simpa using hlj
      obtain ⟨g2, o2, hA2, -, e2⟩ := (HR1.out.below HBJ.out).at j hlj
      subst hA2
      have hlt2 := HT.out.lt i j (by rw [HN.out]; exact hlt) hlj
      have ce : (intsN (T.getD i [])).getD j 0 = (trN T i j : Int) := by
       have hl := HT.out.len i (by rw [HN.out]; exact hlt)
       simp [intsN, trN, List.getD, List.getElem?_map]
       cases h9 : (T[i]?.getD [])[j]? with
       | none => simp
       | some z => simp
      rw [ce] at e2
      generalize trN T i j = z at *
      have z0 : (0 : Int) <= (z : Int) := Int.natCast_nonneg _
      have z1 : (z : Int) < (n : Int) := by rw [HN.out] at hlt2; omega
      have z2 : ¬ (z : Int) < 0 := by omega
      have z3 : ¬ (n : Int) <= (z : Int) := by omega
      have z4 : ¬ n <= z := by omega
      have z5 : decide (n <= z) = false := by simpa using z4
      clear hx ce hlt2
      go_wp2_with fail
      refine (HSZ.out _).mono ?_
      rintro e w5 ⟨rfl, hb5⟩
      have HB5 := Lib.hid (HBJ.out.trans (hb5.mono HBJ.out.size))
      clear hb5
      go_wp2_with fail
      exact ⟨⟨j + 1, by go_num, by omega, HB5⟩, by simp [intOf]; omega⟩
     ·obtain rfl : j = m1 := by omega
      have HB5 := Lib.hid (HB.out.trans (HBJ.out.mono HB.out.size))
      go_wp2_with fail
      exact ⟨⟨i + 1, by go_num, by omega, HB5⟩, by simp [intOf]; omega⟩
   ·obtain rfl : i = n := by omega
    have np : (0 : Int) < (i : Int) := by omega
    have tp : decide (0 < i) = true := by simpa using hpos
    go_wp2_with fail
    refine (HSZ.out _).mono ?_
    rintro e w5 ⟨rfl, hb5⟩
    have HB5 := Lib.hid (HB0.out.trans ((HB.out.trans (hb5.mono HB.out.size)).mono HB0.out.size))
    clear hb5
    go_wp2_with fail
    go_ret
    exact ⟨rfl, HB5.out⟩
end Go.Proofs.Ytdcokkgdahbinaa
