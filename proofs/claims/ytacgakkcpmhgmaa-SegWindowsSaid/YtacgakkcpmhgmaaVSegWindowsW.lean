/- SegWindows: the best of a window is the best of the bests of its two halves, the later one, where both cost as much. -/
import Derived.Test.YtacgakkcpmhgmaaVSegU
set_option linter.unusedVariables false
set_option linter.unusedSimpArgs false
set_option maxRecDepth 100000
set_option maxHeartbeats 8000000
namespace Go.Proofs.Ytacgakkcpmhgmaa
open Go Go.RowKit Go.Proofs
theorem best_in {l : List V3} {i j c : Nat} (hj : j < l.length) (hij : i <= j) (hc : c < 3) : bestI l (i : Int) (j : Int) (c : Int) = ((cheapI (costAt l c) 1152921504606846976 i (j + 1 - i)).1, decide ((cheapI (costAt l c) 1152921504606846976 i (j + 1 - i)).2 < 1152921504606846976)) := by
 unfold bestI
 rw [if_pos ⟨by omega, ⟨by omega, by omega⟩, ⟨by omega, by omega⟩, by omega, by omega⟩]
 simp only [Int.toNat_natCast]
theorem cost_cells {w : World} {A : Option Addr} {n cap c : Nat} {l : List V3} (h : ReadsE encV 3 w (.slice A n cap) n l) (hl : l.length = n) (hn : 1 <= n) (hc : c < 3) : ∃ g o, A = some ⟨g, o, none⟩ /\ ∀ x, x < n -> w.cell? ⟨g, o + x * 3 + c, none⟩ = some (.int .i64 (costAt l c x)) := by
 obtain ⟨g, o, e, -, -⟩ := h.at encV_len (by decide) 0 _ (sgetD_at (d := ((0, 0, 0) : V3)) (by omega))
 refine ⟨g, o, e, fun x hx => ?_⟩
 obtain ⟨g', o', e', -, hcc⟩ := h.at encV_len (by decide) x _ (sgetD_at (d := ((0, 0, 0) : V3)) (by omega))
 rw [e] at e'
 cases e'
 refine hcc c _ ?_
 unfold costAt
 rcases (show c = 0 \/ c = 1 \/ c = 2 by omega) with rfl | rfl | rfl <;> rfl
theorem best_rest {l : List V3} {m j c : Nat} (hj : j < l.length) (hm : m <= j) (hc : c < 3) : bestI l ((m : Int) + 1) (j : Int) (c : Int) = ((cheapI (costAt l c) 1152921504606846976 (m + 1) (j - m)).1, decide ((cheapI (costAt l c) 1152921504606846976 (m + 1) (j - m)).2 < 1152921504606846976)) := by
 by_cases h : m = j
 ·subst h
  unfold bestI
  rw [if_neg (by omega), Nat.sub_self]
  simp [cheapI]
 ·have e : ((m : Int) + 1) = ((m + 1 : Nat) : Int) := by omega
  rw [e, best_in hj (by omega) hc, show j + 1 - (m + 1) = j - m by omega]
theorem cheapI_succ (f : Nat -> Int) (inf : Int) (lo n : Nat) : cheapI f inf lo (n + 1) = if f (lo + n) < inf /\ f (lo + n) <= (cheapI f inf lo n).2 then (lo + n, f (lo + n)) else cheapI f inf lo n := rfl
theorem cheapI_join (f : Nat -> Int) (inf : Int) (i c : Nat) : ∀ d, cheapI f inf i (c + d) = if (cheapI f inf (i + c) d).2 < inf /\ (cheapI f inf (i + c) d).2 <= (cheapI f inf i c).2 then cheapI f inf (i + c) d else cheapI f inf i c
 | 0 => by
   rw [if_neg (fun h => by simp [cheapI] at h)]
   rfl
 | d + 1 => by
   have ih := cheapI_join f inf i c d
   have hp := cheapI_le f inf i c
   have hr := cheapI_le f inf (i + c) d
   have s1 := cheapI_succ f inf i (c + d)
   have s2 := cheapI_succ f inf (i + c) d
   rw [show i + (c + d) = i + c + d by omega] at s1
   rw [ih] at s1
   rw [show c + (d + 1) = (c + d) + 1 by omega, s1, s2]
   clear ih s1 s2
   obtain ⟨R, hR⟩ : ∃ R, cheapI f inf (i + c) d = R := ⟨_, rfl⟩
   obtain ⟨p, hP⟩ : ∃ p, cheapI f inf i c = p := ⟨_, rfl⟩
   obtain ⟨v, hv⟩ : ∃ v, f (i + c + d) = v := ⟨_, rfl⟩
   rw [hR, hP, hv]
   rw [hR] at hr
   rw [hP] at hp
   by_cases hA : R.2 < inf /\ R.2 <= p.2
   ·rw [if_pos hA]
    by_cases hB : v < inf /\ v <= R.2
    ·rw [if_pos hB, if_pos (by dsimp only; omega)]
    ·rw [if_neg hB, if_pos hA]
   ·rw [if_neg hA]
    by_cases hB : v < inf /\ v <= p.2
    ·have hC : v < inf /\ v <= R.2 := by omega
     rw [if_pos hB, if_pos hC, if_pos (by dsimp only; omega)]
    ·rw [if_neg hB]
     by_cases hC : v < inf /\ v <= R.2
     ·rw [if_pos hC, if_neg (by dsimp only; omega)]
     ·rw [if_neg hC, if_neg hA]
theorem segWindows_walk (a0 : Int) (a1 : Int) (a2 : Option Addr) (len2 cap2 : Nat) (z2 : List Int) (a3 : Option Addr) (len3 cap3 : Nat) (z3 : List Int) (a4 : Option Addr) (len4 cap4 : Nat) (z4 : List Int) (a5 : Option Addr) (len5 cap5 : Nat) (z5 : List Int) (a6 : Int) (a7 : Int) (a8 : Int) (a9 : Int) (w : World) (w0 : (Lit.int .i64 a0).wf = true) (w1 : (Lit.int .i64 a1).wf = true) (w2 : IsRow .i64 w a2 len2 cap2 z2) (w3 : IsRow .i64 w a3 len3 cap3 z3) (w4 : IsRow .i64 w a4 len4 cap4 z4) (w5 : IsRow .i64 w a5 len5 cap5 z5) (w6 : (Lit.int .i64 a6).wf = true) (w7 : (Lit.int .i64 a7).wf = true) (w8 : (Lit.int .i64 a8).wf = true) (w9 : (Lit.int .i64 a9).wf = true) :
  Calls Try.prog 11 #[.int .i64 a0, .int .i64 a1, .slice a2 len2 cap2, .slice a3 len3 cap3, .slice a4 len4 cap4, .slice a5 len5 cap5, .int .i64 a6, .int .i64 a7, .int .i64 a8, .int .i64 a9] w fun e w' => e = .returned (.bool true) /\ Below w.heap.size w w' := by
  have hk := kOf_is a0; have hn := nOf_is a1; have hk9 := kOf_lt a0; have hn9 := nOf_lt a1
  obtain ⟨k, ek⟩ : ∃ k, kOf a0 = k := ⟨_, rfl⟩
  obtain ⟨n, en⟩ : ∃ n, nOf a1 = n := ⟨_, rfl⟩
  rw [ek] at hk hk9
  rw [en] at hn hn9
  clear ek en
  obtain ⟨k0, k9⟩ := hk9
  obtain ⟨n0, n9⟩ := hn9
  have HK := Lib.hid hk; have HN := Lib.hid hn
  have R2 := Lib.hid w2.readsI
  have R3 := Lib.hid w3.readsI
  have R4 := Lib.hid w4.readsI
  have I5 := Lib.hid w5
  clear hk hn w0 w1 w2 w3 w4 w5 w6 w7 w8 w9
  go_enter Try.func11, Try.ntmps11
  go_wp2_with fail
  refine (sknown_any _).mono ?_
  rintro e V1 ⟨rfl, hb⟩
  replace R2 := Lib.hid (R2.out.below hb)
  replace R3 := Lib.hid (R3.out.below hb)
  replace R4 := Lib.hid (R4.out.below hb)
  have HB := Lib.hid hb
  clear hb
  go_wp2_with fail
  refine (make_any R2.out R3.out R4.out a0 a1 HK.out HN.out).mono ?_
  rintro e V2 ⟨vc, vl, vbn, vbo, vfn, vfe, rfl, ht, hb⟩
  replace R2 := Lib.hid (R2.out.below hb)
  replace R3 := Lib.hid (R3.out.below hb)
  replace R4 := Lib.hid (R4.out.below hb)
  replace HB := Lib.hid (HB.out.trans (hb.mono HB.out.size))
  clear hb
  have hrtt := lawTab_right (ns := (z2.take len2)) (ms := (z3.take len3)) (cs := (z4.take len4)) k0 (by omega) n0 (by omega)
  have helt := lawTab_len (ns := (z2.take len2)) (ms := (z3.take len3)) (cs := (z4.take len4)) k0 k9 n0 n9
  obtain ⟨tt, htt⟩ : ∃ t, lawTab (z2.take len2) (z3.take len3) (z4.take len4) k n = t := ⟨_, rfl⟩
  rw [htt] at ht hrtt helt
  have hlens := hrtt.lens helt
  obtain ⟨A0t, k0t, rfl, le0t, lt0t, -⟩ := ht.c.form
  obtain ⟨A1t, k1t, rfl, le1t, lt1t, -⟩ := ht.l.form
  obtain ⟨A2t, k2t, ee, le2t, lt2t⟩ := ht.bn.form
  subst ee
  obtain ⟨A3t, k3t, rfl, le3t, lt3t, -⟩ := ht.bo.form
  obtain ⟨A4t, k4t, ee, le4t, lt4t⟩ := ht.fn.form
  subst ee
  obtain ⟨A5t, k5t, ee, le5t, lt5t⟩ := ht.fe.form
  subst ee
  obtain ⟨m0t, hm0t⟩ : ∃ m, tt.cuts.length = m := ⟨_, rfl⟩
  obtain ⟨m1t, hm1t⟩ : ∃ m, tt.letters.length = m := ⟨_, rfl⟩
  obtain ⟨m2t, hm2t⟩ : ∃ m, tt.bn.length = m := ⟨_, rfl⟩
  obtain ⟨m3t, hm3t⟩ : ∃ m, tt.bo.length = m := ⟨_, rfl⟩
  obtain ⟨m4t, hm4t⟩ : ∃ m, tt.fn.length = m := ⟨_, rfl⟩
  obtain ⟨m5t, hm5t⟩ : ∃ m, tt.fe.length = m := ⟨_, rfl⟩
  rw [hm0t, hm1t, hm2t, hm3t, hm4t, hm5t] at ht hlens
  rw [hm0t] at le0t
  rw [hm1t] at le1t
  rw [hm2t] at le2t
  rw [hm3t] at le3t
  rw [hm4t] at le4t
  rw [hm5t] at le5t
  rw [hm0t, hm1t, hm2t, hm3t, hm4t, hm5t]
  obtain ⟨q0t, q1t, q2t, q3t, q4t, q5t⟩ := hlens
  have HM0t := Lib.hid hm0t
  have HM1t := Lib.hid hm1t
  have HM2t := Lib.hid hm2t
  have HM3t := Lib.hid hm3t
  have HM4t := Lib.hid hm4t
  have HM5t := Lib.hid hm5t
  obtain ⟨bt, hbe⟩ : ∃ b, V2.heap.size = b := ⟨_, rfl⟩
  obtain ⟨V3, hW⟩ : ∃ W, V2.alloc (.cells #[.slice A0t m0t k0t, .slice A1t m1t k1t, .slice A2t m2t k2t, .slice A3t m3t k3t, .slice A4t m4t k4t, .slice A5t m5t k5t] 32) = W := ⟨_, rfl⟩
  have hb : Below V2.heap.size V2 V3 := by rw [<- hW]; exact (Below.refl _ _).alloc (Nat.le_refl _) _
  have Xt : Hid (Blk V3 bt 32 #[.slice A0t m0t k0t, .slice A1t m1t k1t, .slice A2t m2t k2t, .slice A3t m3t k3t, .slice A4t m4t k4t, .slice A5t m5t k5t]) := Lib.hid (by rw [<- hW]; exact Blk.newAt _ hbe _ _)
  replace R2 := Lib.hid (R2.out.below hb)
  replace R3 := Lib.hid (R3.out.below hb)
  replace R4 := Lib.hid (R4.out.below hb)
  have HTt := Lib.hid (ht.below hb)
  replace HB := Lib.hid (HB.out.trans (hb.mono HB.out.size))
  have HRt := Lib.hid hrtt; have HEt := Lib.hid helt; have TEt := Lib.hid htt; have HWt := Lib.hid hW; have HBEt := Lib.hid hbe
  clear ht hrtt helt htt hW hb hbe hm0t hm1t hm2t hm3t hm4t hm5t
  go_wp2_with fail
  rw [HWt.out]
  try simp only [HBEt.out]
  refine (bytes_any a5 len5 cap5 z5 none 0 0 [] w _ HB.out I5.out (.inl ⟨rfl, rfl, rfl, rfl⟩) (by omega)).mono ?_
  rintro e V4 ⟨S, rfl, S9, hb⟩
  replace HTt := Lib.hid (HTt.out.below hb)
  replace Xt := Lib.hid (Blk.below Xt.out hb Xt.out.lt)
  replace HB := Lib.hid (HB.out.trans (hb.mono HB.out.size))
  clear hb
  have hsl := segT_len tt S
  have hci := fun (i : Nat) (h : i < (segT tt S).length) => segT_in HRt.out h
  obtain ⟨L, hL⟩ : ∃ l, segT tt S = l := ⟨_, rfl⟩
  rw [hL] at hsl hci
  obtain ⟨N, hN⟩ : ∃ N, L.length = N := ⟨_, rfl⟩
  rw [hN] at hsl hci
  obtain ⟨N1, N9⟩ := hsl
  have HLE := Lib.hid hL; have HNL := Lib.hid hN; have HCI := Lib.hid hci
  clear hL hN hci
  have N9' : N <= 1301 := by omega
  clear N9
  have c0t := Xt.out.cell 0
  have c1t := Xt.out.cell 1
  have c2t := Xt.out.cell 2
  have c3t := Xt.out.cell 3
  have c4t := Xt.out.cell 4
  have c5t := Xt.out.cell 5
  simp only [List.getElem?_toArray, List.getElem?_cons_zero, List.getElem?_cons_succ] at c0t c1t c2t c3t c4t c5t
  have hnew := snew_any HTt.out S
  rw [segT_ok HRt.out (by omega), HLE.out] at hnew
  dsimp only at hnew
  unfold tabV at hnew
  have HNEW := Lib.hid hnew
  clear hnew
  go_wp2_with fail
  refine HNEW.out.mono ?_
  clear HNEW
  rintro e V5 ⟨bc, Ac, kc, rfl, hcur, hbl, hb⟩
  have HCc := Lib.hid hcur; have HBc := Lib.hid (Nat.le_trans HB.out.size hbl); have HDc := Lib.hid hbl; have HD := Lib.hid hb
  clear hcur hbl
  replace HB := Lib.hid (HB.out.trans (hb.mono HB.out.size))
  clear hb
  clear c0t c1t c2t c3t c4t c5t
  replace HTt := Lib.hid (HTt.out.below HD.out)
  replace Xt := Lib.hid (Blk.below Xt.out HD.out Xt.out.lt)
  have c0t := Xt.out.cell 0
  have c1t := Xt.out.cell 1
  have c2t := Xt.out.cell 2
  have c3t := Xt.out.cell 3
  have c4t := Xt.out.cell 4
  have c5t := Xt.out.cell 5
  simp only [List.getElem?_toArray, List.getElem?_cons_zero, List.getElem?_cons_succ] at c0t c1t c2t c3t c4t c5t
  have hseg := rsegment_any HTt.out HRt.out S (by omega)
  rw [HLE.out] at hseg
  unfold tabV at hseg
  have HSEG := Lib.hid hseg
  clear hseg
  go_wp2_with fail
  refine HSEG.out.mono ?_
  clear HSEG
  rintro e V6 ⟨AL, cL, rfl, hL, hb⟩
  rw [HNL.out] at hL ⊢
  have HSL := Lib.hid hL
  clear hL
  replace HTt := Lib.hid (HTt.out.below hb)
  replace Xt := Lib.hid (Blk.below Xt.out hb Xt.out.lt)
  replace HCc := Lib.hid (HCc.out.below hb)
  replace HD := Lib.hid (HD.out.trans (hb.mono HD.out.size))
  replace HB := Lib.hid (HB.out.trans (hb.mono HB.out.size))
  clear hb
  clear c0t c1t c2t c3t c4t c5t
  have N1i : ¬ (N : Int) = 0 := by omega
  have N1n : ¬ N = 0 := by omega
  go_wp2_with fail
  refine (slen_any HCc.out).mono ?_
  rintro e w6 ⟨rfl, hw⟩
  subst w6
  rw [HNL.out]
  go_wp2_with fail
  refine (swithin_any a6 (N : Int) (by omega) (by omega) _).mono ?_
  rintro e w6 ⟨rfl, hw⟩
  subst w6
  have hm1 := Int.emod_nonneg a6 (show ((N : Int) : Int) ≠ 0 by omega)
  have hm2 := Int.emod_lt_of_pos a6 (show (0 : Int) < (N : Int) by omega)
  obtain ⟨i, hi⟩ : ∃ zz : Nat, a6 % (N : Int) = (zz : Int) := ⟨(a6 % (N : Int)).toNat, by omega⟩
  rw [hi] at hm1 hm2 ⊢
  clear hi hm1
  have hiN : i < N := by omega
  clear hm2
  have w0 : IntKind.i64.wrap ((N : Int) - (i : Int)) = (N : Int) - (i : Int) := IntWalk.i64_in _ (by omega)
  go_wp2_with fail
  refine (swithin_any a8 ((N : Int) - (i : Int)) (by omega) (by omega) _).mono ?_
  rintro e w6 ⟨rfl, hw⟩
  subst w6
  have hm1 := Int.emod_nonneg a8 (show (((N : Int) - (i : Int)) : Int) ≠ 0 by omega)
  have hm2 := Int.emod_lt_of_pos a8 (show (0 : Int) < ((N : Int) - (i : Int)) by omega)
  obtain ⟨d, hi⟩ : ∃ zz : Nat, a8 % ((N : Int) - (i : Int)) = (zz : Int) := ⟨(a8 % ((N : Int) - (i : Int))).toNat, by omega⟩
  rw [hi] at hm1 hm2 ⊢
  clear hi hm1
  obtain ⟨j, hj⟩ : ∃ j, i + d = j := ⟨_, rfl⟩
  have hij : i <= j := by omega
  have hjN : j < N := by omega
  clear hm2
  have w1 : IntKind.i64.wrap ((i : Int) + (d : Int)) = (j : Int) := by rw [IntWalk.i64_in _ (by omega)]; omega
  clear hj
  have w2 : IntKind.i64.wrap ((j : Int) - (i : Int)) = (j : Int) - (i : Int) := IntWalk.i64_in _ (by omega)
  have w3 : IntKind.i64.wrap ((j : Int) - (i : Int) + 1) = (j : Int) - (i : Int) + 1 := IntWalk.i64_in _ (by omega)
  go_wp2_with fail
  refine (swithin_any a7 ((j : Int) - (i : Int) + 1) (by omega) (by omega) _).mono ?_
  rintro e w6 ⟨rfl, hw⟩
  subst w6
  have hm1 := Int.emod_nonneg a7 (show (((j : Int) - (i : Int) + 1) : Int) ≠ 0 by omega)
  have hm2 := Int.emod_lt_of_pos a7 (show (0 : Int) < ((j : Int) - (i : Int) + 1) by omega)
  obtain ⟨d2, hi⟩ : ∃ zz : Nat, a7 % ((j : Int) - (i : Int) + 1) = (zz : Int) := ⟨(a7 % ((j : Int) - (i : Int) + 1)).toNat, by omega⟩
  rw [hi] at hm1 hm2 ⊢
  clear hi hm1
  obtain ⟨m, hj⟩ : ∃ m, i + d2 = m := ⟨_, rfl⟩
  have him : i <= m := by omega
  have hmj : m <= j := by omega
  clear hm2 w1
  have w1 : IntKind.i64.wrap ((i : Int) + (d2 : Int)) = (m : Int) := by rw [IntWalk.i64_in _ (by omega)]; omega
  clear hj
  go_wp2_with fail
  refine (swithin_any a9 3 (by omega) (by omega) _).mono ?_
  rintro e w6 ⟨rfl, hw⟩
  subst w6
  have hm1 := Int.emod_nonneg a9 (show (3 : Int) ≠ 0 by omega)
  have hm2 := Int.emod_lt_of_pos a9 (show (0 : Int) < 3 by omega)
  obtain ⟨c, hi⟩ : ∃ zz : Nat, a9 % 3 = (zz : Int) := ⟨(a9 % 3).toNat, by omega⟩
  rw [hi] at hm1 hm2 ⊢
  clear hi hm1
  have hc3 : c < 3 := by omega
  clear hm2 w0 w1 w2 w3
  have i0 : (0 : Int) <= (i : Int) := Int.natCast_nonneg _
  have c0 : (0 : Int) <= (c : Int) := Int.natCast_nonneg _
  have c3 : (c : Int) < 3 := by omega
  have w4 : IntKind.i64.wrap ((m : Int) + 1) = (m : Int) + 1 := IntWalk.i64_in _ (by omega)
  go_wp2_with fail
  have hj2 : bestI L ((m : Int) + 1) (j : Int) (c : Int) = ((cheapI (costAt L c) 1152921504606846976 (m + 1) (j - m)).1, decide ((cheapI (costAt L c) 1152921504606846976 (m + 1) (j - m)).2 < 1152921504606846976)) := best_rest (by rw [HNL.out]; exact hjN) hmj hc3
  have hjoin := cheapI_join (costAt L c) 1152921504606846976 i (m + 1 - i) (j - m)
  rw [show m + 1 - i + (j - m) = j + 1 - i by omega, show i + (m + 1 - i) = m + 1 by omega] at hjoin
  have hpat := cheapI_at (costAt L c) 1152921504606846976 i (m + 1 - i)
  have hqat := cheapI_at (costAt L c) 1152921504606846976 (m + 1) (j - m)
  have ht1 : bestI L (i : Int) (j : Int) (c : Int) = _ := best_in (by rw [HNL.out]; exact hjN) hij hc3
  have ht2 : bestI L (i : Int) (m : Int) (c : Int) = _ := best_in (by rw [HNL.out]; omega) him hc3
  obtain ⟨⟨tn, tz⟩, hT⟩ : ∃ q, cheapI (costAt L c) 1152921504606846976 i (j + 1 - i) = q := ⟨_, rfl⟩
  obtain ⟨⟨p, z⟩, hP⟩ : ∃ q, cheapI (costAt L c) 1152921504606846976 i (m + 1 - i) = q := ⟨_, rfl⟩
  obtain ⟨⟨q, y⟩, hQ⟩ : ∃ q, cheapI (costAt L c) 1152921504606846976 (m + 1) (j - m) = q := ⟨_, rfl⟩
  rw [hT] at hjoin ht1
  rw [hP] at hjoin hpat ht2
  rw [hQ] at hjoin hqat hj2
  dsimp only at hjoin hpat hqat ht1 ht2 hj2
  clear hT hP hQ
  have HJN := Lib.hid hjoin; have HPA := Lib.hid hpat; have HQA := Lib.hid hqat; have HT1 := Lib.hid ht1; have HT2 := Lib.hid ht2; have HJ2 := Lib.hid hj2
  clear hjoin hpat hqat ht1 ht2 hj2
  refine (sbest_any (lo := (i : Int)) (hi := (j : Int)) (cat := (c : Int)) HCc.out (by rw [HNL.out]; omega)).mono ?_
  intro e V7 hbe
  unfold BestO at hbe
  obtain ⟨rfl, hb⟩ := hbe
  rw [HT1.out]
  dsimp only
  replace HSL := Lib.hid (HSL.out.below hb)
  replace HCc := Lib.hid (HCc.out.below hb)
  replace HD := Lib.hid (HD.out.trans (hb.mono HD.out.size))
  replace HB := Lib.hid (HB.out.trans (hb.mono HB.out.size))
  clear hb
  go_wp2_with fail
  refine (sbest_any (lo := (i : Int)) (hi := (m : Int)) (cat := (c : Int)) HCc.out (by rw [HNL.out]; omega)).mono ?_
  intro e V8 hbe
  unfold BestO at hbe
  obtain ⟨rfl, hb⟩ := hbe
  rw [HT2.out]
  dsimp only
  replace HSL := Lib.hid (HSL.out.below hb)
  replace HCc := Lib.hid (HCc.out.below hb)
  replace HD := Lib.hid (HD.out.trans (hb.mono HD.out.size))
  replace HB := Lib.hid (HB.out.trans (hb.mono HB.out.size))
  clear hb
  go_wp2_with fail
  refine (sbest_any (lo := ((m : Int) + 1)) (hi := (j : Int)) (cat := (c : Int)) HCc.out (by rw [HNL.out]; omega)).mono ?_
  intro e V9 hbe
  unfold BestO at hbe
  obtain ⟨rfl, hb⟩ := hbe
  rw [HJ2.out]
  dsimp only
  replace HSL := Lib.hid (HSL.out.below hb)
  replace HCc := Lib.hid (HCc.out.below hb)
  replace HD := Lib.hid (HD.out.trans (hb.mono HD.out.size))
  replace HB := Lib.hid (HB.out.trans (hb.mono HB.out.size))
  clear hb
  obtain ⟨g, o, eA, hcl⟩ : ∃ g o, AL = some ⟨g, o, none⟩ /\ ∀ x, x < N -> V9.cell? ⟨g, o + x * 3 + c, none⟩ = some (.int .i64 (costAt L c x)) := cost_cells HSL.out HNL.out N1 hc3
  subst eA
  have HCL := Lib.hid hcl
  clear hcl w4
  have bq : ∀ s : Bool, (s == s) = true := fun s => by cases s <;> rfl
  by_cases hz : z < 1152921504606846976
  ·have hp := HPA.out
   rcases hp with ⟨-, e1, e2, e3, e4, -⟩ | ⟨e1, -⟩
   rotate_left
   ·have := (Prod.mk.inj e1).2; omega
   have hpN : p < N := by omega
   have hpz : costAt L c p = z := by rw [e3]; exact e4
   clear e2 e3 e4
   by_cases hy : y < 1152921504606846976
   ·have hq := HQA.out
    rcases hq with ⟨-, f1, f2, f3, f4, -⟩ | ⟨f1, -⟩
    rotate_left
    ·have := (Prod.mk.inj f1).2; omega
    have hqN : q < N := by omega
    have hqy : costAt L c q = y := by rw [f3]; exact f4
    clear f2 f3 f4
    have d1 := HCL.out q hqN; have d2 := HCL.out p hpN
    rw [hqy] at d1
    rw [hpz] at d2
    have p0 : (0 : Int) <= (p : Int) := Int.natCast_nonneg _
    have q0 : (0 : Int) <= (q : Int) := Int.natCast_nonneg _
    have p1 : (p : Int) < (N : Int) := by omega
    have q1 : (q : Int) < (N : Int) := by omega
    have p4 : ¬ (p : Int) < 0 := by omega
    have q4 : ¬ (q : Int) < 0 := by omega
    have p5 : ¬ (N : Int) <= (p : Int) := by omega
    have q5 : ¬ (N : Int) <= (q : Int) := by omega
    by_cases hle : y <= z
    ·have hj9 := HJN.out
     rw [if_pos ⟨hy, hle⟩] at hj9
     obtain ⟨rfl, rfl⟩ := Prod.mk.inj hj9
     clear hqy hpz hj9 HJN HT1 HT2 HJ2 HPA HQA
     go_wp2_with fail
     go_big_quiet (fail)
     go_wp2_with fail
     go_ret
     exact ⟨rfl, sbel_drewN HB.out _⟩
    ·have hj9 := HJN.out
     rw [if_neg (fun h => hle h.2)] at hj9
     obtain ⟨rfl, rfl⟩ := Prod.mk.inj hj9
     clear hqy hpz hj9 HJN HT1 HT2 HJ2 HPA HQA
     go_wp2_with fail
     go_big_quiet (fail)
     go_wp2_with fail
     go_ret
     exact ⟨rfl, sbel_drewN HB.out _⟩
   ·have hj9 := HJN.out
    rw [if_neg (fun h => hy h.1)] at hj9
    obtain ⟨rfl, rfl⟩ := Prod.mk.inj hj9
    clear hpz hj9 HJN HT1 HT2 HJ2 HPA HQA HCL
    go_wp2_with fail
    go_ret
    exact ⟨rfl, HB.out⟩
  ·by_cases hy : y < 1152921504606846976
   ·have hzi : 1152921504606846976 <= z := by omega
    have hj9 := HJN.out
    rw [if_pos ⟨hy, by omega⟩] at hj9
    obtain ⟨rfl, rfl⟩ := Prod.mk.inj hj9
    clear hj9 HJN HT1 HT2 HJ2 HPA HQA HCL hzi
    go_wp2_with fail
    go_ret
    exact ⟨rfl, HB.out⟩
   ·have hj9 := HJN.out
    rw [if_neg (fun h => hy h.1)] at hj9
    obtain ⟨rfl, rfl⟩ := Prod.mk.inj hj9
    clear hj9 HJN HT1 HT2 HJ2 HPA HQA HCL
    go_wp2_with fail
    go_ret
    exact ⟨rfl, HB.out⟩
end Go.Proofs.Ytacgakkcpmhgmaa
