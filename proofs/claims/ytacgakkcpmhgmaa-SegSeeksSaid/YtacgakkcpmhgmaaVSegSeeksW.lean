/- SegSeeks: a place that is none leaves a cursor where it is. -/
import Derived.Test.YtacgakkcpmhgmaaVSegQ
set_option linter.unusedVariables false
set_option linter.unusedSimpArgs false
set_option maxRecDepth 100000
set_option maxHeartbeats 8000000
namespace Go.Proofs.Ytacgakkcpmhgmaa
open Go Go.RowKit Go.Proofs
theorem segSeeks_walk (a0 : Int) (a1 : Int) (a2 : Option Addr) (len2 cap2 : Nat) (z2 : List Int) (a3 : Option Addr) (len3 cap3 : Nat) (z3 : List Int) (a4 : Option Addr) (len4 cap4 : Nat) (z4 : List Int) (a5 : Option Addr) (len5 cap5 : Nat) (z5 : List Int) (a6 : Int) (a7 : Int) (w : World) (w0 : (Lit.int .i64 a0).wf = true) (w1 : (Lit.int .i64 a1).wf = true) (w2 : IsRow .i64 w a2 len2 cap2 z2) (w3 : IsRow .i64 w a3 len3 cap3 z3) (w4 : IsRow .i64 w a4 len4 cap4 z4) (w5 : IsRow .i64 w a5 len5 cap5 z5) (w6 : (Lit.int .i64 a6).wf = true) (w7 : (Lit.int .i64 a7).wf = true) :
  Calls Try.prog 12 #[.int .i64 a0, .int .i64 a1, .slice a2 len2 cap2, .slice a3 len3 cap3, .slice a4 len4 cap4, .slice a5 len5 cap5, .int .i64 a6, .int .i64 a7] w fun e w' => e = .returned (.bool true) /\ Below w.heap.size w w' := by
  have hk := kOf_is a0; have hn := nOf_is a1; have hk9 := kOf_lt a0; have hn9 := nOf_lt a1
  obtain ⟨k, ek⟩ : ∃ k, kOf a0 = k := ⟨_, rfl⟩
  obtain ⟨n, en⟩ : ∃ n, nOf a1 = n := ⟨_, rfl⟩
  rw [ek] at hk hk9
  rw [en] at hn hn9
  clear ek en
  obtain ⟨k0, k9⟩ := hk9
  obtain ⟨n0, n9⟩ := hn9
  have HK := Lib.hid hk; have HN := Lib.hid hn
  have R2 := Lib.hid w2.readsI
  have R3 := Lib.hid w3.readsI
  have R4 := Lib.hid w4.readsI
  have I5 := Lib.hid w5
  clear hk hn w0 w1 w2 w3 w4 w5 w6 w7
  go_enter Try.func12, Try.ntmps12
  go_wp2_with fail
  refine (sknown_any _).mono ?_
  rintro e V1 ⟨rfl, hb⟩
  replace R2 := Lib.hid (R2.out.below hb)
  replace R3 := Lib.hid (R3.out.below hb)
  replace R4 := Lib.hid (R4.out.below hb)
  have HB := Lib.hid hb
  clear hb
  go_wp2_with fail
  refine (make_any R2.out R3.out R4.out a0 a1 HK.out HN.out).mono ?_
  rintro e V2 ⟨c0t, c1t, c2t, c3t, c4t, c5t, rfl, ht, hb⟩
  replace R2 := Lib.hid (R2.out.below hb)
  replace R3 := Lib.hid (R3.out.below hb)
  replace R4 := Lib.hid (R4.out.below hb)
  replace HB := Lib.hid (HB.out.trans (hb.mono HB.out.size))
  clear hb
  have hrt := lawTab_right (ns := (z2.take len2)) (ms := (z3.take len3)) (cs := (z4.take len4)) k0 (by omega) n0 (by omega)
  obtain ⟨tt, htt⟩ : ∃ t, lawTab (z2.take len2) (z3.take len3) (z4.take len4) k n = t := ⟨_, rfl⟩
  rw [htt] at ht hrt
  have HTt := Lib.hid ht; have HRt := Lib.hid hrt; have TEt := Lib.hid htt
  clear ht hrt htt
  go_wp2_with fail
  refine (bytes_any a5 len5 cap5 z5 none 0 0 [] w _ HB.out I5.out (.inl ⟨rfl, rfl, rfl, rfl⟩) (by omega)).mono ?_
  rintro e V3 ⟨S, rfl, S9, hb⟩
  replace HTt := Lib.hid (HTt.out.below hb)
  replace HB := Lib.hid (HB.out.trans (hb.mono HB.out.size))
  clear hb
  go_wp2_with fail
  have hnew := snew_any HTt.out S
  rw [segT_ok HRt.out (by omega)] at hnew
  have hsl := segT_len tt S
  have hci := fun (i : Nat) (h : i < (segT tt S).length) => segT_in HRt.out h
  obtain ⟨L, hL⟩ : ∃ l, segT tt S = l := ⟨_, rfl⟩
  rw [hL] at hnew hsl hci
  dsimp only at hnew
  unfold tabV at hnew
  refine hnew.mono ?_
  clear hnew
  rintro e V4 ⟨bc, Ac, kc, rfl, hcur, hbl, hb⟩
  have HCc := Lib.hid hcur; have HLL := Lib.hid hL; have HBc := Lib.hid (Nat.le_trans HB.out.size hbl); have HIL := Lib.hid hci
  clear hcur hbl hL hci
  replace HB := Lib.hid (HB.out.trans (hb.mono HB.out.size))
  clear hb
  obtain ⟨N, hN⟩ : ∃ N, L.length = N := ⟨_, rfl⟩
  rw [hN] at hsl
  have HNL := Lib.hid hN
  clear hN
  obtain ⟨N1, N9⟩ := hsl
  have N1i : ¬ (N : Int) < 1 := by omega
  go_wp2_with fail
  refine (slen_any HCc.out).mono ?_
  rintro e w4 ⟨rfl, hw⟩
  subst w4
  rw [HNL.out]
  go_wp2_with fail
  refine (slen_any HCc.out).mono ?_
  rintro e w4 ⟨rfl, hw⟩
  subst w4
  rw [HNL.out]
  go_wp2_with fail
  refine (swithin_any a6 (N : Int) (by omega) (by omega) _).mono ?_
  rintro e w4 ⟨rfl, hw⟩
  subst w4
  have hm1 := Int.emod_nonneg a6 (show (N : Int) ≠ 0 by omega)
  have hm2 := Int.emod_lt_of_pos a6 (show (0 : Int) < (N : Int) by omega)
  obtain ⟨i, hi⟩ : ∃ i : Nat, a6 % (N : Int) = (i : Int) := ⟨(a6 % (N : Int)).toNat, by omega⟩
  rw [hi]
  have hiN : i < N := by omega
  clear hi hm1 hm2
  go_wp2_with fail
  refine (sseek_any (y := (i : Int)) HCc.out).mono ?_
  intro e V5 hse
  unfold SeekO at hse
  obtain ⟨r, rfl, hr, hcur, hf⟩ := hse
  rw [HNL.out] at hr
  have hr1 : r = true := hr.2 ⟨by omega, by omega⟩
  subst hr1
  rw [if_pos rfl] at hcur
  clear hr
  replace HB := Lib.hid (seek_below HB.out HBc.out hf)
  replace HCc := Lib.hid hcur
  clear hf hcur
  go_wp2_with fail
  refine (sseek_any (y := (N : Int)) HCc.out).mono ?_
  intro e V6 hse
  unfold SeekO at hse
  obtain ⟨r, rfl, hr, hcur, hf⟩ := hse
  rw [HNL.out] at hr
  have hr1 : r = false := by
   cases r with
   | false => rfl
   | true => exact absurd (hr.1 rfl).2 (by omega)
  subst hr1
  rw [if_neg (by decide)] at hcur
  clear hr
  replace HB := Lib.hid (seek_below HB.out HBc.out hf)
  replace HCc := Lib.hid hcur
  clear hf hcur
  go_wp2_with fail
  refine (sseek_any (y := (-1)) HCc.out).mono ?_
  intro e V7 hse
  unfold SeekO at hse
  obtain ⟨r, rfl, hr, hcur, hf⟩ := hse
  rw [HNL.out] at hr
  have hr1 : r = false := by
   cases r with
   | false => rfl
   | true => exact absurd (hr.1 rfl).1 (by omega)
  subst hr1
  rw [if_neg (by decide)] at hcur
  clear hr
  replace HB := Lib.hid (seek_below HB.out HBc.out hf)
  replace HCc := Lib.hid hcur
  clear hf hcur
  go_wp2_with fail
  refine (sat_any HCc.out).mono ?_
  rintro e V8 ⟨rfl, hb⟩
  replace HCc := Lib.hid (HCc.out.below hb)
  replace HB := Lib.hid (HB.out.trans (hb.mono HB.out.size))
  clear hb
  rw [rowAt_in (by rw [HNL.out]; exact hiN)]
  obtain ⟨⟨p1, p2, p3⟩, hu⟩ : ∃ u, L.getD i (0, 0, 0) = u := ⟨_, rfl⟩
  rw [hu]
  unfold vcV
  dsimp only
  obtain ⟨b8, hbe8⟩ : ∃ b, V8.heap.size = b := ⟨_, rfl⟩
  obtain ⟨V9, hV9⟩ : ∃ W, V8.alloc (.cells #[.int .i64 p1, .int .i64 p2, .int .i64 p3] 51) = W := ⟨_, rfl⟩
  have hb : Below V8.heap.size V8 V9 := by rw [<- hV9]; exact (Below.refl _ _).alloc (Nat.le_refl _) _
  have X8 : Hid (Blk V9 b8 51 #[.int .i64 p1, .int .i64 p2, .int .i64 p3]) := Lib.hid (by rw [<- hV9]; exact Blk.newAt _ hbe8 _ _)
  have hne : b8 ≠ bc := by have := HCc.out.x.lt; omega
  replace HCc := Lib.hid (HCc.out.below hb)
  replace HB := Lib.hid (HB.out.trans (hb.mono HB.out.size))
  clear hb
  have HV9 := Lib.hid hV9; have HBE8 := Lib.hid hbe8; have HU := Lib.hid hu
  clear hV9 hbe8 hu
  go_wp2_with fail
  rw [HV9.out]
  try simp only [HBE8.out]
  refine (sseek_any (y := a7) HCc.out).mono ?_
  intro e V10 hse
  unfold SeekO at hse
  obtain ⟨r, rfl, hr, hcur, hf⟩ := hse
  rw [HNL.out] at hr
  replace X8 := Lib.hid (hf.blk X8.out hne)
  replace HB := Lib.hid (seek_below HB.out HBc.out hf)
  replace HCc := Lib.hid hcur
  clear hf hcur
  obtain ⟨y, hy⟩ : ∃ y, (if r = true then a7 else (i : Int)) = y := ⟨_, rfl⟩
  have HY := Lib.hid hy; have HRR := Lib.hid hr
  rw [hy] at HCc
  clear hy hr
  go_wp2_with fail
  have hbc := HCc.out
  cases r with
  | true =>
    obtain ⟨h0, h1⟩ := HRR.out.1 rfl
    have hy2 := HY.out
    rw [if_pos rfl] at hy2
    subst hy2
    obtain ⟨j, hj⟩ : ∃ j : Nat, a7 = (j : Int) := ⟨a7.toNat, by omega⟩
    subst hj
    have hjN : j < N := by omega
    have j0 : (0 : Int) <= (j : Int) := Int.natCast_nonneg _
    clear h0 HRR hbc
    go_wp2_with fail
    refine (sat_any HCc.out).mono ?_
    rintro e V11 ⟨rfl, hb⟩
    replace X8 := Lib.hid (Blk.below X8.out hb X8.out.lt)
    replace HB := Lib.hid (HB.out.trans (hb.mono HB.out.size))
    clear hb
    rw [rowAt_in (by rw [HNL.out]; exact hjN)]
    obtain ⟨⟨q1, q2, q3⟩, hv⟩ : ∃ u, L.getD j (0, 0, 0) = u := ⟨_, rfl⟩
    rw [hv]
    clear hv
    unfold vcV
    dsimp only
    have hb : Below V11.heap.size V11 (V11.alloc (.cells #[.int .i64 q1, .int .i64 q2, .int .i64 q3] 51)) := (Below.refl _ _).alloc (Nat.le_refl _) _
    have X9 : Hid (Blk (V11.alloc (.cells #[.int .i64 q1, .int .i64 q2, .int .i64 q3] 51)) V11.heap.size 51 #[.int .i64 q1, .int .i64 q2, .int .i64 q3]) := Lib.hid (Blk.new _ _ _)
    replace X8 := Lib.hid (Blk.below X8.out hb X8.out.lt)
    replace HB := Lib.hid (HB.out.trans (hb.mono HB.out.size))
    clear hb
    have x0 := X8.out.cell 0; have x1 := X8.out.cell 1; have x2 := X8.out.cell 2; have y0 := X9.out.cell 0; have y1 := X9.out.cell 1; have y2 := X9.out.cell 2
    simp only [List.getElem?_toArray, List.getElem?_cons_zero, List.getElem?_cons_succ] at x0 x1 x2 y0 y1 y2
    go_wp2_with fail
    go_ret
    exact ⟨rfl, HB.out⟩
  | false =>
    have hno : ¬ (0 <= a7 /\ a7 < (N : Int)) := fun h => by have := HRR.out.2 h; cases this
    have hy2 := HY.out
    rw [if_neg (by decide)] at hy2
    subst hy2
    clear HRR hbc
    have i0 : (0 : Int) <= (i : Int) := Int.natCast_nonneg _
    have qv := seqVec p1 p2 p3 p1 p2 p3
    rw [sveq_refl] at qv
    go_wp2_with fail
    refine (sat_any HCc.out).mono ?_
    rintro e V11 ⟨rfl, hb⟩
    replace X8 := Lib.hid (Blk.below X8.out hb X8.out.lt)
    replace HB := Lib.hid (HB.out.trans (hb.mono HB.out.size))
    clear hb
    rw [rowAt_in (by rw [HNL.out]; exact hiN)]
    rw [HU.out]
    unfold vcV
    dsimp only
    have hb : Below V11.heap.size V11 (V11.alloc (.cells #[.int .i64 p1, .int .i64 p2, .int .i64 p3] 51)) := (Below.refl _ _).alloc (Nat.le_refl _) _
    have X9 : Hid (Blk (V11.alloc (.cells #[.int .i64 p1, .int .i64 p2, .int .i64 p3] 51)) V11.heap.size 51 #[.int .i64 p1, .int .i64 p2, .int .i64 p3]) := Lib.hid (Blk.new _ _ _)
    replace X8 := Lib.hid (Blk.below X8.out hb X8.out.lt)
    replace HB := Lib.hid (HB.out.trans (hb.mono HB.out.size))
    clear hb
    have x0 := X8.out.cell 0; have x1 := X8.out.cell 1; have x2 := X8.out.cell 2; have y0 := X9.out.cell 0; have y1 := X9.out.cell 1; have y2 := X9.out.cell 2
    simp only [List.getElem?_toArray, List.getElem?_cons_zero, List.getElem?_cons_succ] at x0 x1 x2 y0 y1 y2
    by_cases hlt : a7 < 0
    ·have hge : ¬ 0 <= a7 := by omega
     clear hno
     go_wp2_with fail
     go_ret
     exact ⟨rfl, HB.out⟩
    ·have hge : 0 <= a7 := by omega
     have hge2 : ¬ a7 < (N : Int) := by omega
     clear hno hlt
     go_wp2_with fail
     go_ret
     exact ⟨rfl, HB.out⟩
end Go.Proofs.Ytacgakkcpmhgmaa
