/- SegBest: the best place of a window is one of the least cost, the last of them; none is, if all are forbidden. -/
import Derived.Test.YtacgakkcpmhgmaaVSegQ
set_option linter.unusedVariables false
set_option linter.unusedSimpArgs false
set_option maxRecDepth 100000
set_option maxHeartbeats 8000000
namespace Go.Proofs.Ytacgakkcpmhgmaa
open Go Go.RowKit Go.Proofs
theorem best_in {l : List V3} {i j c : Nat} (hj : j < l.length) (hij : i <= j) (hc : c < 3) : bestI l (i : Int) (j : Int) (c : Int) = ((cheapI (costAt l c) 1152921504606846976 i (j + 1 - i)).1, decide ((cheapI (costAt l c) 1152921504606846976 i (j + 1 - i)).2 < 1152921504606846976)) := by
 unfold bestI
 rw [if_pos ⟨by omega, ⟨by omega, by omega⟩, ⟨by omega, by omega⟩, by omega, by omega⟩]
 simp only [Int.toNat_natCast]
theorem best_out {l : List V3} {lo hi cat : Int} (h : hi < lo \/ (l.length : Int) <= hi \/ 3 <= cat) : bestI l lo hi cat = (0, false) := by
 unfold bestI
 rw [if_neg (by omega)]
def leastI (f : Nat -> Int) (inf : Int) (lo : Nat) : Nat -> Int
 | 0 => inf
 | n + 1 => min (leastI f inf lo n) (f (lo + n))
theorem leastI_step (f : Nat -> Int) (inf : Int) {i x : Nat} (h : i <= x) : leastI f inf i (x + 1 - i) = min (leastI f inf i (x - i)) (f x) := by
 rw [show x + 1 - i = (x - i) + 1 by omega, leastI, show i + (x - i) = x by omega]
theorem cheapI_least (f : Nat -> Int) (inf : Int) (lo : Nat) : ∀ n, (cheapI f inf lo n).2 = leastI f inf lo n
 | 0 => rfl
 | n + 1 => by
   have h := cheapI_least f inf lo n
   have hl := cheapI_le f inf lo n
   simp only [cheapI, leastI, <- h]
   split <;> (try dsimp only) <;> omega
theorem cost_cells {w : World} {A : Option Addr} {n cap c : Nat} {l : List V3} (h : ReadsE encV 3 w (.slice A n cap) n l) (hl : l.length = n) (hn : 1 <= n) (hc : c < 3) : ∃ g o, A = some ⟨g, o, none⟩ /\ ∀ x, x < n -> w.cell? ⟨g, o + x * 3 + c, none⟩ = some (.int .i64 (costAt l c x)) := by
 obtain ⟨g, o, e, -, -⟩ := h.at encV_len (by decide) 0 _ (sgetD_at (d := ((0, 0, 0) : V3)) (by omega))
 refine ⟨g, o, e, fun x hx => ?_⟩
 obtain ⟨g', o', e', -, hcc⟩ := h.at encV_len (by decide) x _ (sgetD_at (d := ((0, 0, 0) : V3)) (by omega))
 rw [e] at e'
 cases e'
 refine hcc c _ ?_
 unfold costAt
 rcases (show c = 0 \/ c = 1 \/ c = 2 by omega) with rfl | rfl | rfl <;> rfl
theorem segBest_walk (a0 : Int) (a1 : Int) (a2 : Option Addr) (len2 cap2 : Nat) (z2 : List Int) (a3 : Option Addr) (len3 cap3 : Nat) (z3 : List Int) (a4 : Option Addr) (len4 cap4 : Nat) (z4 : List Int) (a5 : Option Addr) (len5 cap5 : Nat) (z5 : List Int) (a6 : Int) (a7 : Int) (a8 : Int) (w : World) (w0 : (Lit.int .i64 a0).wf = true) (w1 : (Lit.int .i64 a1).wf = true) (w2 : IsRow .i64 w a2 len2 cap2 z2) (w3 : IsRow .i64 w a3 len3 cap3 z3) (w4 : IsRow .i64 w a4 len4 cap4 z4) (w5 : IsRow .i64 w a5 len5 cap5 z5) (w6 : (Lit.int .i64 a6).wf = true) (w7 : (Lit.int .i64 a7).wf = true) (w8 : (Lit.int .i64 a8).wf = true) :
  Calls Try.prog 6 #[.int .i64 a0, .int .i64 a1, .slice a2 len2 cap2, .slice a3 len3 cap3, .slice a4 len4 cap4, .slice a5 len5 cap5, .int .i64 a6, .int .i64 a7, .int .i64 a8] w fun e w' => e = .returned (.bool true) /\ Below w.heap.size w w' := by
  have hk := kOf_is a0; have hn := nOf_is a1; have hk9 := kOf_lt a0; have hn9 := nOf_lt a1
  obtain ⟨k, ek⟩ : ∃ k, kOf a0 = k := ⟨_, rfl⟩
  obtain ⟨n, en⟩ : ∃ n, nOf a1 = n := ⟨_, rfl⟩
  rw [ek] at hk hk9
  rw [en] at hn hn9
  clear ek en
  obtain ⟨k0, k9⟩ := hk9
  obtain ⟨n0, n9⟩ := hn9
  have HK := Lib.hid hk; have HN := Lib.hid hn
  have R2 := Lib.hid w2.readsI
  have R3 := Lib.hid w3.readsI
  have R4 := Lib.hid w4.readsI
  have I5 := Lib.hid w5
  clear hk hn w0 w1 w2 w3 w4 w5 w6 w7 w8
  go_enter Try.func6, Try.ntmps6
  go_wp2_with fail
  refine (sknown_any _).mono ?_
  rintro e V1 ⟨rfl, hb⟩
  replace R2 := Lib.hid (R2.out.below hb)
  replace R3 := Lib.hid (R3.out.below hb)
  replace R4 := Lib.hid (R4.out.below hb)
  have HB := Lib.hid hb
  clear hb
  go_wp2_with fail
  refine (make_any R2.out R3.out R4.out a0 a1 HK.out HN.out).mono ?_
  rintro e V2 ⟨vc, vl, vbn, vbo, vfn, vfe, rfl, ht, hb⟩
  replace R2 := Lib.hid (R2.out.below hb)
  replace R3 := Lib.hid (R3.out.below hb)
  replace R4 := Lib.hid (R4.out.below hb)
  replace HB := Lib.hid (HB.out.trans (hb.mono HB.out.size))
  clear hb
  have hrtt := lawTab_right (ns := (z2.take len2)) (ms := (z3.take len3)) (cs := (z4.take len4)) k0 (by omega) n0 (by omega)
  have helt := lawTab_len (ns := (z2.take len2)) (ms := (z3.take len3)) (cs := (z4.take len4)) k0 k9 n0 n9
  obtain ⟨tt, htt⟩ : ∃ t, lawTab (z2.take len2) (z3.take len3) (z4.take len4) k n = t := ⟨_, rfl⟩
  rw [htt] at ht hrtt helt
  have hlens := hrtt.lens helt
  obtain ⟨A0t, k0t, rfl, le0t, lt0t, -⟩ := ht.c.form
  obtain ⟨A1t, k1t, rfl, le1t, lt1t, -⟩ := ht.l.form
  obtain ⟨A2t, k2t, ee, le2t, lt2t⟩ := ht.bn.form
  subst ee
  obtain ⟨A3t, k3t, rfl, le3t, lt3t, -⟩ := ht.bo.form
  obtain ⟨A4t, k4t, ee, le4t, lt4t⟩ := ht.fn.form
  subst ee
  obtain ⟨A5t, k5t, ee, le5t, lt5t⟩ := ht.fe.form
  subst ee
  obtain ⟨m0t, hm0t⟩ : ∃ m, tt.cuts.length = m := ⟨_, rfl⟩
  obtain ⟨m1t, hm1t⟩ : ∃ m, tt.letters.length = m := ⟨_, rfl⟩
  obtain ⟨m2t, hm2t⟩ : ∃ m, tt.bn.length = m := ⟨_, rfl⟩
  obtain ⟨m3t, hm3t⟩ : ∃ m, tt.bo.length = m := ⟨_, rfl⟩
  obtain ⟨m4t, hm4t⟩ : ∃ m, tt.fn.length = m := ⟨_, rfl⟩
  obtain ⟨m5t, hm5t⟩ : ∃ m, tt.fe.length = m := ⟨_, rfl⟩
  rw [hm0t, hm1t, hm2t, hm3t, hm4t, hm5t] at ht hlens
  rw [hm0t] at le0t
  rw [hm1t] at le1t
  rw [hm2t] at le2t
  rw [hm3t] at le3t
  rw [hm4t] at le4t
  rw [hm5t] at le5t
  rw [hm0t, hm1t, hm2t, hm3t, hm4t, hm5t]
  obtain ⟨q0t, q1t, q2t, q3t, q4t, q5t⟩ := hlens
  have HM0t := Lib.hid hm0t
  have HM1t := Lib.hid hm1t
  have HM2t := Lib.hid hm2t
  have HM3t := Lib.hid hm3t
  have HM4t := Lib.hid hm4t
  have HM5t := Lib.hid hm5t
  obtain ⟨bt, hbe⟩ : ∃ b, V2.heap.size = b := ⟨_, rfl⟩
  obtain ⟨V3, hW⟩ : ∃ W, V2.alloc (.cells #[.slice A0t m0t k0t, .slice A1t m1t k1t, .slice A2t m2t k2t, .slice A3t m3t k3t, .slice A4t m4t k4t, .slice A5t m5t k5t] 32) = W := ⟨_, rfl⟩
  have hb : Below V2.heap.size V2 V3 := by rw [<- hW]; exact (Below.refl _ _).alloc (Nat.le_refl _) _
  have Xt : Hid (Blk V3 bt 32 #[.slice A0t m0t k0t, .slice A1t m1t k1t, .slice A2t m2t k2t, .slice A3t m3t k3t, .slice A4t m4t k4t, .slice A5t m5t k5t]) := Lib.hid (by rw [<- hW]; exact Blk.newAt _ hbe _ _)
  replace R2 := Lib.hid (R2.out.below hb)
  replace R3 := Lib.hid (R3.out.below hb)
  replace R4 := Lib.hid (R4.out.below hb)
  have HTt := Lib.hid (ht.below hb)
  replace HB := Lib.hid (HB.out.trans (hb.mono HB.out.size))
  have HRt := Lib.hid hrtt; have HEt := Lib.hid helt; have TEt := Lib.hid htt; have HWt := Lib.hid hW; have HBEt := Lib.hid hbe
  clear ht hrtt helt htt hW hb hbe hm0t hm1t hm2t hm3t hm4t hm5t
  go_wp2_with fail
  rw [HWt.out]
  try simp only [HBEt.out]
  refine (bytes_any a5 len5 cap5 z5 none 0 0 [] w _ HB.out I5.out (.inl ⟨rfl, rfl, rfl, rfl⟩) (by omega)).mono ?_
  rintro e V4 ⟨S, rfl, S9, hb⟩
  replace HTt := Lib.hid (HTt.out.below hb)
  replace Xt := Lib.hid (Blk.below Xt.out hb Xt.out.lt)
  replace HB := Lib.hid (HB.out.trans (hb.mono HB.out.size))
  clear hb
  have hsl := segT_len tt S
  have hci := fun (i : Nat) (h : i < (segT tt S).length) => segT_in HRt.out h
  obtain ⟨L, hL⟩ : ∃ l, segT tt S = l := ⟨_, rfl⟩
  rw [hL] at hsl hci
  obtain ⟨N, hN⟩ : ∃ N, L.length = N := ⟨_, rfl⟩
  rw [hN] at hsl hci
  obtain ⟨N1, N9⟩ := hsl
  have HLE := Lib.hid hL; have HNL := Lib.hid hN; have HCI := Lib.hid hci
  clear hL hN hci
  have N9' : N <= 1301 := by omega
  clear N9
  have c0t := Xt.out.cell 0
  have c1t := Xt.out.cell 1
  have c2t := Xt.out.cell 2
  have c3t := Xt.out.cell 3
  have c4t := Xt.out.cell 4
  have c5t := Xt.out.cell 5
  simp only [List.getElem?_toArray, List.getElem?_cons_zero, List.getElem?_cons_succ] at c0t c1t c2t c3t c4t c5t
  have hnew := snew_any HTt.out S
  rw [segT_ok HRt.out (by omega), HLE.out] at hnew
  dsimp only at hnew
  unfold tabV at hnew
  have HNEW := Lib.hid hnew
  clear hnew
  go_wp2_with fail
  refine HNEW.out.mono ?_
  clear HNEW
  rintro e V5 ⟨bc, Ac, kc, rfl, hcur, hbl, hb⟩
  have HCc := Lib.hid hcur; have HBc := Lib.hid (Nat.le_trans HB.out.size hbl); have HDc := Lib.hid hbl; have HD := Lib.hid hb
  clear hcur hbl
  replace HB := Lib.hid (HB.out.trans (hb.mono HB.out.size))
  clear hb
  clear c0t c1t c2t c3t c4t c5t
  replace HTt := Lib.hid (HTt.out.below HD.out)
  replace Xt := Lib.hid (Blk.below Xt.out HD.out Xt.out.lt)
  have c0t := Xt.out.cell 0
  have c1t := Xt.out.cell 1
  have c2t := Xt.out.cell 2
  have c3t := Xt.out.cell 3
  have c4t := Xt.out.cell 4
  have c5t := Xt.out.cell 5
  simp only [List.getElem?_toArray, List.getElem?_cons_zero, List.getElem?_cons_succ] at c0t c1t c2t c3t c4t c5t
  have hseg := segment_any HTt.out S
  rw [segT_ok HRt.out (by omega), HLE.out] at hseg
  unfold tabV at hseg
  have HSEG := Lib.hid hseg
  clear hseg
  go_wp2_with fail
  refine HSEG.out.mono ?_
  clear HSEG
  rintro e V6 ⟨v, rfl, ⟨AL, cL, rfl, hL, -⟩, hb⟩
  dsimp only at hL ⊢
  rw [HNL.out] at hL ⊢
  have HSL := Lib.hid hL
  clear hL
  replace HTt := Lib.hid (HTt.out.below hb)
  replace Xt := Lib.hid (Blk.below Xt.out hb Xt.out.lt)
  replace HCc := Lib.hid (HCc.out.below hb)
  replace HD := Lib.hid (HD.out.trans (hb.mono HD.out.size))
  replace HB := Lib.hid (HB.out.trans (hb.mono HB.out.size))
  clear hb
  clear c0t c1t c2t c3t c4t c5t
  have N1i : ¬ (N : Int) = 0 := by omega
  have N1n : ¬ N = 0 := by omega
  go_wp2_with fail
  refine (slen_any HCc.out).mono ?_
  rintro e w6 ⟨rfl, hw⟩
  subst w6
  rw [HNL.out]
  go_wp2_with fail
  refine (swithin_any a6 (N : Int) (by omega) (by omega) _).mono ?_
  rintro e w6 ⟨rfl, hw⟩
  subst w6
  have hm1 := Int.emod_nonneg a6 (show ((N : Int) : Int) ≠ 0 by omega)
  have hm2 := Int.emod_lt_of_pos a6 (show (0 : Int) < (N : Int) by omega)
  obtain ⟨i, hi⟩ : ∃ zz : Nat, a6 % (N : Int) = (zz : Int) := ⟨(a6 % (N : Int)).toNat, by omega⟩
  rw [hi] at hm1 hm2 ⊢
  clear hi hm1
  have hiN : i < N := by omega
  clear hm2
  have w0 : IntKind.i64.wrap ((N : Int) - (i : Int)) = (N : Int) - (i : Int) := IntWalk.i64_in _ (by omega)
  go_wp2_with fail
  refine (swithin_any a7 ((N : Int) - (i : Int)) (by omega) (by omega) _).mono ?_
  rintro e w6 ⟨rfl, hw⟩
  subst w6
  have hm1 := Int.emod_nonneg a7 (show (((N : Int) - (i : Int)) : Int) ≠ 0 by omega)
  have hm2 := Int.emod_lt_of_pos a7 (show (0 : Int) < ((N : Int) - (i : Int)) by omega)
  obtain ⟨d, hi⟩ : ∃ zz : Nat, a7 % ((N : Int) - (i : Int)) = (zz : Int) := ⟨(a7 % ((N : Int) - (i : Int))).toNat, by omega⟩
  rw [hi] at hm1 hm2 ⊢
  clear hi hm1
  obtain ⟨j, hj⟩ : ∃ j, i + d = j := ⟨_, rfl⟩
  have hij : i <= j := by omega
  have hjN : j < N := by omega
  clear hm2
  have w1 : IntKind.i64.wrap ((i : Int) + (d : Int)) = (j : Int) := by rw [IntWalk.i64_in _ (by omega)]; omega
  have HJ := Lib.hid hj
  clear hj
  go_wp2_with fail
  refine (swithin_any a8 3 (by omega) (by omega) _).mono ?_
  rintro e w6 ⟨rfl, hw⟩
  subst w6
  have hm1 := Int.emod_nonneg a8 (show (3 : Int) ≠ 0 by omega)
  have hm2 := Int.emod_lt_of_pos a8 (show (0 : Int) < 3 by omega)
  obtain ⟨c, hi⟩ : ∃ zz : Nat, a8 % 3 = (zz : Int) := ⟨(a8 % 3).toNat, by omega⟩
  rw [hi] at hm1 hm2 ⊢
  clear hi hm1
  have hc3 : c < 3 := by omega
  clear hm2 w0 w1
  go_wp2_with fail
  refine (sbest_any (lo := (i : Int)) (hi := (j : Int)) (cat := (c : Int)) HCc.out (by rw [HNL.out]; omega)).mono ?_
  intro e V7 hbe
  unfold BestO at hbe
  obtain ⟨rfl, hb⟩ := hbe
  rw [best_in (by rw [HNL.out]; exact hjN) hij hc3]
  dsimp only
  replace HSL := Lib.hid (HSL.out.below hb)
  replace HCc := Lib.hid (HCc.out.below hb)
  replace HD := Lib.hid (HD.out.trans (hb.mono HD.out.size))
  replace HB := Lib.hid (HB.out.trans (hb.mono HB.out.size))
  clear hb
  obtain ⟨g, o, eA, hcl⟩ : ∃ g o, AL = some ⟨g, o, none⟩ /\ ∀ x, x < N -> V7.cell? ⟨g, o + x * 3 + c, none⟩ = some (.int .i64 (costAt L c x)) := cost_cells HSL.out HNL.out N1 hc3
  subst eA
  have HCL := Lib.hid hcl
  have hat := cheapI_at (costAt L c) 1152921504606846976 i (j + 1 - i)
  have hle := cheapI_least (costAt L c) 1152921504606846976 i (j + 1 - i)
  obtain ⟨⟨p, z⟩, hp⟩ : ∃ q, cheapI (costAt L c) 1152921504606846976 i (j + 1 - i) = q := ⟨_, rfl⟩
  rw [hp] at hat hle ⊢
  dsimp only at hat hle ⊢
  have HAT := Lib.hid hat; have HLEA := Lib.hid hle
  clear hcl hat hle hp
  have i0 : (0 : Int) <= (i : Int) := Int.natCast_nonneg _
  have c0 : (0 : Int) <= (c : Int) := Int.natCast_nonneg _
  have c3 : (c : Int) < 3 := by omega
  go_wp2_with fail
  go_loopw [29, 30] (fun v vi wr => ∃ x : Nat, vi = .int .i64 (x : Int) /\ i <= x /\ x <= j + 1 /\ v = .int .i64 (leastI (costAt L c) 1152921504606846976 i (x - i)) /\ wr = V7) (fun _ vi _ => j + 1 - (intOf vi).toNat)
  case atStart => exact ⟨i, rfl, Nat.le_refl _, by omega, by rw [Nat.sub_self]; rfl, rfl⟩
  case round =>
   obtain ⟨x, rfl, hx1, hx2, rfl, hw⟩ := hrel
   subst hw
   have x0 : (0 : Int) <= (x : Int) := Int.natCast_nonneg _
   by_cases hlt : x <= j
   ·have x1 : (x : Int) <= (j : Int) := by omega
    have x2 : (x : Int) < (N : Int) := by omega
    have d0 := HCL.out x (by omega)
    have hst := leastI_step (costAt L c) 1152921504606846976 hx1
    obtain ⟨y, hy⟩ : ∃ y, leastI (costAt L c) 1152921504606846976 i (x - i) = y := ⟨_, rfl⟩
    obtain ⟨u, hu⟩ : ∃ u, costAt L c x = u := ⟨_, rfl⟩
    rw [hy, hu] at hst
    rw [hu] at d0
    rw [hy]
    have HST := Lib.hid hst
    clear hst hy hu
    rcases Int.lt_or_le u y with h1 | h1
    ·have h2 : ¬ y <= u := by omega
     have hm : min y u = u := by omega
     have HST2 := Lib.hid (HST.out.trans hm)
     clear HST
     go_wp2_with fail
     try rw [hm]
     exact ⟨⟨x + 1, by go_num, by omega, by omega, by rw [HST2.out], by trivial⟩, by simp [intOf]; omega⟩
    ·have hm : min y u = y := by omega
     have HST2 := Lib.hid (HST.out.trans hm)
     clear HST
     go_wp2_with fail
     try rw [hm]
     exact ⟨⟨x + 1, by go_num, by omega, by omega, by rw [HST2.out], by trivial⟩, by simp [intOf]; omega⟩
   ·have x1 : ¬ (x : Int) <= (j : Int) := by omega
    have hxj : x = j + 1 := by omega
    have HX : Hid (leastI (costAt L c) 1152921504606846976 i (x - i) = z) := Lib.hid (by rw [hxj]; exact HLEA.out.symm)
    rw [HX.out]
    clear hxj hx1 hx2 HX HLEA
    have hzi : z <= 1152921504606846976 /\ (z = 1152921504606846976 -> p = 0) /\ (z < 1152921504606846976 -> i <= p /\ p <= j /\ costAt L c p = z /\ ∀ q, p < q -> q <= j -> z < costAt L c q) := by
     rcases HAT.out with ⟨h1, m, h2, h3, h4, h5⟩ | ⟨h1, h2⟩
     ·refine ⟨by omega, fun e => by omega, fun _ => ⟨by omega, by omega, by rw [h3]; exact h4, fun q hq1 hq2 => ?_⟩⟩
      have := h5 (q - i) (by omega) (by omega)
      rwa [show i + (q - i) = q by omega] at this
     ·obtain ⟨rfl, rfl⟩ := Prod.mk.inj h1
      exact ⟨Int.le_refl _, fun _ => rfl, fun h => by omega⟩
    obtain ⟨z1, z2, z3⟩ := hzi
    clear HAT
    rcases Int.lt_or_eq_of_le z1 with hz | hz
    rotate_left
    ·have hp0 := z2 hz
     subst hp0
     subst hz
     clear z1 z2 z3
     go_wp2_with fail
     go_ret
     exact ⟨rfl, HB.out⟩
    ·obtain ⟨p1, p2, p3, p4⟩ := z3 hz
     have hz2 : ¬ z = 1152921504606846976 := by omega
     have HP4 := Lib.hid p4
     have d0 := HCL.out p (by omega)
     rw [p3] at d0
     have pp0 : (0 : Int) <= (p : Int) := Int.natCast_nonneg _
     have pp1 : ¬ (p : Int) < (i : Int) := by omega
     have pp2 : ¬ (j : Int) < (p : Int) := by omega
     have pp3 : (p : Int) < (N : Int) := by omega
     clear z1 z2 z3 p3 p4 x1 x0
     go_wp2_with fail
     clear d0
     obtain ⟨W7, hW7⟩ : ∃ W, W = wr := ⟨_, rfl⟩
     subst hW7
     go_loopw [31] (fun vi wr => ∃ y : Nat, vi = .int .i64 (y : Int) /\ p + 1 <= y /\ y <= j + 1 /\ wr = W7) (fun vi _ => j + 1 - (intOf vi).toNat)
     case atStart => exact ⟨p + 1, by go_num, Nat.le_refl _, by omega, rfl⟩
     case round =>
      obtain ⟨y, rfl, hy1, hy2, hw⟩ := hrel
      subst hw
      have y0 : (0 : Int) <= (y : Int) := Int.natCast_nonneg _
      by_cases hlt2 : y <= j
      ·have y1 : (y : Int) <= (j : Int) := by omega
       have y2 : (y : Int) < (N : Int) := by omega
       have d0 := HCL.out y (by omega)
       have h4 := HP4.out y (by omega) hlt2
       obtain ⟨u, hu⟩ : ∃ u, costAt L c y = u := ⟨_, rfl⟩
       rw [hu] at d0 h4
       have h5 : ¬ u = z := by omega
       clear hu h4
       go_wp2_with fail
       exact ⟨⟨y + 1, by go_num, by omega, by omega, by trivial⟩, by simp [intOf]; omega⟩
      ·have y1 : ¬ (y : Int) <= (j : Int) := by omega
       have w2 : IntKind.i64.wrap ((j : Int) + 1) = (j : Int) + 1 := IntWalk.i64_in _ (by omega)
       clear hy1 hy2 hlt2 y0
       go_wp2_with fail
       refine (sbest_any (lo := (j : Int) + 1) (hi := (j : Int)) (cat := (c : Int)) HCc.out (by rw [HNL.out]; omega)).mono ?_
       intro e V8 hbe
       unfold BestO at hbe
       obtain ⟨rfl, hb⟩ := hbe
       rw [best_out (l := L) (lo := (j : Int) + 1) (hi := (j : Int)) (cat := (c : Int)) (by rw [HNL.out]; omega)]
       dsimp only
       replace HCc := Lib.hid (HCc.out.below hb)
       replace HD := Lib.hid (HD.out.trans (hb.mono HD.out.size))
       replace HB := Lib.hid (HB.out.trans (hb.mono HB.out.size))
       clear hb
       go_wp2_with fail
       refine (sbest_any (lo := (i : Int)) (hi := (N : Int)) (cat := (c : Int)) HCc.out (by rw [HNL.out]; omega)).mono ?_
       intro e V9 hbe
       unfold BestO at hbe
       obtain ⟨rfl, hb⟩ := hbe
       rw [best_out (l := L) (lo := (i : Int)) (hi := (N : Int)) (cat := (c : Int)) (by rw [HNL.out]; omega)]
       dsimp only
       replace HCc := Lib.hid (HCc.out.below hb)
       replace HD := Lib.hid (HD.out.trans (hb.mono HD.out.size))
       replace HB := Lib.hid (HB.out.trans (hb.mono HB.out.size))
       clear hb
       go_wp2_with fail
       refine (sbest_any (lo := (i : Int)) (hi := (j : Int)) (cat := 3) HCc.out (by rw [HNL.out]; omega)).mono ?_
       intro e V10 hbe
       unfold BestO at hbe
       obtain ⟨rfl, hb⟩ := hbe
       rw [best_out (l := L) (lo := (i : Int)) (hi := (j : Int)) (cat := 3) (by rw [HNL.out]; omega)]
       dsimp only
       replace HCc := Lib.hid (HCc.out.below hb)
       replace HD := Lib.hid (HD.out.trans (hb.mono HD.out.size))
       replace HB := Lib.hid (HB.out.trans (hb.mono HB.out.size))
       clear hb
       go_wp2_with fail
       go_ret
       exact ⟨rfl, HB.out⟩
end Go.Proofs.Ytacgakkcpmhgmaa
