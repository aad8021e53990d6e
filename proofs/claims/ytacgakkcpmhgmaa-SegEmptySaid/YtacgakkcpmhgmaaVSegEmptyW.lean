/- SegEmpty: a text of no bytes has one place. -/
import Derived.Test.YtacgakkcpmhgmaaVSegQ
set_option linter.unusedVariables false
set_option linter.unusedSimpArgs false
set_option maxRecDepth 100000
set_option maxHeartbeats 8000000
namespace Go.Proofs.Ytacgakkcpmhgmaa
open Go Go.RowKit Go.Proofs
theorem emitR_zero {t : Tab} (h : RightT t) : ∃ u : V3, segT t { data := #[] } = [u] /\ (t.fe.getD 0 []).getD (t.bo.getD 0 0).toNat (0, 0, 0) = u := by
 refine ⟨segV t [] 0, ?_, rfl⟩
 have e : scs ({ data := #[] } : ByteArray).data.toList = [] := scs_nil
 show segL t (textI t (scs ({ data := #[] } : ByteArray).data.toList)) = _
 rw [e]
 rfl
theorem best_one {u : V3} {i : Nat} {z : Int} (hi : i < 3) (hz : costAt [u] i 0 = z) : bestI [u] 0 0 (i : Int) = (0, decide (z < 1152921504606846976)) := by
 have hc : (0 : Int) <= 0 /\ ((0 : Int) <= 0 /\ (0 : Int) < (([u] : List V3).length : Int)) /\ ((0 : Int) <= 0 /\ (0 : Int) < (([u] : List V3).length : Int)) /\ (0 : Int) <= (i : Int) /\ (i : Int) < 3 := ⟨by decide, ⟨by decide, by simp⟩, ⟨by decide, by simp⟩, by omega, by omega⟩
 unfold bestI
 rw [if_pos hc]
 simp only [Int.toNat_natCast, Int.toNat_zero, Nat.zero_add, Nat.sub_zero, cheapI, Nat.add_zero, hz]
 by_cases h : z < 1152921504606846976
 ·rw [if_pos ⟨h, by omega⟩]
 ·rw [if_neg (fun q => h q.1)]; simp [h]
theorem segEmpty_walk (a0 : Int) (a1 : Int) (a2 : Option Addr) (len2 cap2 : Nat) (z2 : List Int) (a3 : Option Addr) (len3 cap3 : Nat) (z3 : List Int) (a4 : Option Addr) (len4 cap4 : Nat) (z4 : List Int) (a5 : Int) (w : World) (w0 : (Lit.int .i64 a0).wf = true) (w1 : (Lit.int .i64 a1).wf = true) (w2 : IsRow .i64 w a2 len2 cap2 z2) (w3 : IsRow .i64 w a3 len3 cap3 z3) (w4 : IsRow .i64 w a4 len4 cap4 z4) (w5 : (Lit.int .i64 a5).wf = true) :
  Calls Try.prog 13 #[.int .i64 a0, .int .i64 a1, .slice a2 len2 cap2, .slice a3 len3 cap3, .slice a4 len4 cap4, .int .i64 a5] w fun e w' => e = .returned (.bool true) /\ Below w.heap.size w w' := by
  have hk := kOf_is a0; have hn := nOf_is a1; have hk9 := kOf_lt a0; have hn9 := nOf_lt a1
  obtain ⟨k, ek⟩ : ∃ k, kOf a0 = k := ⟨_, rfl⟩
  obtain ⟨n, en⟩ : ∃ n, nOf a1 = n := ⟨_, rfl⟩
  rw [ek] at hk hk9
  rw [en] at hn hn9
  clear ek en
  obtain ⟨k0, k9⟩ := hk9
  obtain ⟨n0, n9⟩ := hn9
  have HK := Lib.hid hk; have HN := Lib.hid hn
  have R2 := Lib.hid w2.readsI
  have R3 := Lib.hid w3.readsI
  have R4 := Lib.hid w4.readsI
  clear hk hn w0 w1 w2 w3 w4 w5
  go_enter Try.func13, Try.ntmps13
  go_wp2_with fail
  refine (sknown_any _).mono ?_
  rintro e V1 ⟨rfl, hb⟩
  replace R2 := Lib.hid (R2.out.below hb)
  replace R3 := Lib.hid (R3.out.below hb)
  replace R4 := Lib.hid (R4.out.below hb)
  have HB := Lib.hid hb
  clear hb
  go_wp2_with fail
  refine (make_any R2.out R3.out R4.out a0 a1 HK.out HN.out).mono ?_
  rintro e V2 ⟨vc, vl, vbn, vbo, vfn, vfe, rfl, ht, hb⟩
  replace R2 := Lib.hid (R2.out.below hb)
  replace R3 := Lib.hid (R3.out.below hb)
  replace R4 := Lib.hid (R4.out.below hb)
  replace HB := Lib.hid (HB.out.trans (hb.mono HB.out.size))
  clear hb
  have hrtt := lawTab_right (ns := (z2.take len2)) (ms := (z3.take len3)) (cs := (z4.take len4)) k0 (by omega) n0 (by omega)
  have helt := lawTab_len (ns := (z2.take len2)) (ms := (z3.take len3)) (cs := (z4.take len4)) k0 k9 n0 n9
  obtain ⟨tt, htt⟩ : ∃ t, lawTab (z2.take len2) (z3.take len3) (z4.take len4) k n = t := ⟨_, rfl⟩
  rw [htt] at ht hrtt helt
  have hlens := hrtt.lens helt
  obtain ⟨A0t, k0t, rfl, le0t, lt0t, -⟩ := ht.c.form
  obtain ⟨A1t, k1t, rfl, le1t, lt1t, -⟩ := ht.l.form
  obtain ⟨A2t, k2t, ee, le2t, lt2t⟩ := ht.bn.form
  subst ee
  obtain ⟨A3t, k3t, rfl, le3t, lt3t, -⟩ := ht.bo.form
  obtain ⟨A4t, k4t, ee, le4t, lt4t⟩ := ht.fn.form
  subst ee
  obtain ⟨A5t, k5t, ee, le5t, lt5t⟩ := ht.fe.form
  subst ee
  obtain ⟨m0t, hm0t⟩ : ∃ m, tt.cuts.length = m := ⟨_, rfl⟩
  obtain ⟨m1t, hm1t⟩ : ∃ m, tt.letters.length = m := ⟨_, rfl⟩
  obtain ⟨m2t, hm2t⟩ : ∃ m, tt.bn.length = m := ⟨_, rfl⟩
  obtain ⟨m3t, hm3t⟩ : ∃ m, tt.bo.length = m := ⟨_, rfl⟩
  obtain ⟨m4t, hm4t⟩ : ∃ m, tt.fn.length = m := ⟨_, rfl⟩
  obtain ⟨m5t, hm5t⟩ : ∃ m, tt.fe.length = m := ⟨_, rfl⟩
  rw [hm0t, hm1t, hm2t, hm3t, hm4t, hm5t] at ht hlens
  rw [hm0t] at le0t
  rw [hm1t] at le1t
  rw [hm2t] at le2t
  rw [hm3t] at le3t
  rw [hm4t] at le4t
  rw [hm5t] at le5t
  rw [hm0t, hm1t, hm2t, hm3t, hm4t, hm5t]
  obtain ⟨q0t, q1t, q2t, q3t, q4t, q5t⟩ := hlens
  have HM0t := Lib.hid hm0t
  have HM1t := Lib.hid hm1t
  have HM2t := Lib.hid hm2t
  have HM3t := Lib.hid hm3t
  have HM4t := Lib.hid hm4t
  have HM5t := Lib.hid hm5t
  obtain ⟨bt, hbe⟩ : ∃ b, V2.heap.size = b := ⟨_, rfl⟩
  obtain ⟨V3, hW⟩ : ∃ W, V2.alloc (.cells #[.slice A0t m0t k0t, .slice A1t m1t k1t, .slice A2t m2t k2t, .slice A3t m3t k3t, .slice A4t m4t k4t, .slice A5t m5t k5t] 32) = W := ⟨_, rfl⟩
  have hb : Below V2.heap.size V2 V3 := by rw [<- hW]; exact (Below.refl _ _).alloc (Nat.le_refl _) _
  have Xt : Hid (Blk V3 bt 32 #[.slice A0t m0t k0t, .slice A1t m1t k1t, .slice A2t m2t k2t, .slice A3t m3t k3t, .slice A4t m4t k4t, .slice A5t m5t k5t]) := Lib.hid (by rw [<- hW]; exact Blk.newAt _ hbe _ _)
  replace R2 := Lib.hid (R2.out.below hb)
  replace R3 := Lib.hid (R3.out.below hb)
  replace R4 := Lib.hid (R4.out.below hb)
  have HTt := Lib.hid (ht.below hb)
  replace HB := Lib.hid (HB.out.trans (hb.mono HB.out.size))
  have HRt := Lib.hid hrtt; have HEt := Lib.hid helt; have TEt := Lib.hid htt; have HWt := Lib.hid hW; have HBEt := Lib.hid hbe
  clear ht hrtt helt htt hW hb hbe hm0t hm1t hm2t hm3t hm4t hm5t
  have hu := emitR_zero HRt.out
  obtain ⟨⟨p1, p2, p3⟩, hu1, hu2⟩ := hu
  have HLL := Lib.hid hu1; have HU := Lib.hid hu2
  clear hu1 hu2
  have c0t := Xt.out.cell 0
  have c1t := Xt.out.cell 1
  have c2t := Xt.out.cell 2
  have c3t := Xt.out.cell 3
  have c4t := Xt.out.cell 4
  have c5t := Xt.out.cell 5
  simp only [List.getElem?_toArray, List.getElem?_cons_zero, List.getElem?_cons_succ] at c0t c1t c2t c3t c4t c5t
  have HWt' := HWt.out
  rw [<- HWt.out, <- HBEt.out] at c0t c1t c2t c3t c4t c5t
  clear HWt'
  go_wp2_with fail
  rw [HWt.out]
  try simp only [HBEt.out]
  rw [HWt.out, HBEt.out] at c0t c1t c2t c3t c4t c5t
  have hseg := segment_any HTt.out { data := #[] }
  rw [segT_ok HRt.out (by decide), HLL.out] at hseg
  refine hseg.mono ?_
  clear hseg
  rintro e V4 ⟨v, rfl, ⟨AL, cL, rfl, hL, -⟩, hb⟩
  dsimp only at hL ⊢
  simp only [List.length_cons, List.length_nil, Nat.zero_add] at hL ⊢
  have HL := Lib.hid hL
  clear hL
  replace HTt := Lib.hid (HTt.out.below hb)
  replace Xt := Lib.hid (Blk.below Xt.out hb Xt.out.lt)
  replace HB := Lib.hid (HB.out.trans (hb.mono HB.out.size))
  clear hb
  clear c0t c1t c2t c3t c4t c5t
  have c0t := Xt.out.cell 0
  have c1t := Xt.out.cell 1
  have c2t := Xt.out.cell 2
  have c3t := Xt.out.cell 3
  have c4t := Xt.out.cell 4
  have c5t := Xt.out.cell 5
  simp only [List.getElem?_toArray, List.getElem?_cons_zero, List.getElem?_cons_succ] at c0t c1t c2t c3t c4t c5t
  have hnew := snew_any HTt.out { data := #[] }
  rw [segT_ok HRt.out (by decide), HLL.out] at hnew
  dsimp only at hnew
  unfold tabV at hnew
  have HNEW := Lib.hid hnew
  clear hnew
  go_wp2_with fail
  refine HNEW.out.mono ?_
  clear HNEW
  rintro e V5 ⟨bc, Ac, kc, rfl, hcur, hbl, hb⟩
  have HCc := Lib.hid hcur; have HBc := Lib.hid (Nat.le_trans HB.out.size hbl); have HDc := Lib.hid hbl; have HD := Lib.hid hb
  clear hcur hbl
  replace HB := Lib.hid (HB.out.trans (hb.mono HB.out.size))
  clear hb
  clear c0t c1t c2t c3t c4t c5t
  go_wp2_with fail
  refine (slen_any HCc.out).mono ?_
  rintro e w5 ⟨rfl, hw⟩
  subst w5
  simp only [List.length_cons, List.length_nil, Nat.zero_add]
  go_wp2_with fail
  refine (snext_any HCc.out (by decide) (by decide)).mono ?_
  intro e V6 hse
  unfold SeekO at hse
  obtain ⟨r, rfl, hr, hcur, hf⟩ := hse
  have hr1 : r = false := by
   cases r with
   | false => rfl
   | true =>
     obtain ⟨h1, h2⟩ := hr.1 rfl
     simp at h2
  subst hr1
  rw [if_neg (by decide)] at hcur
  clear hr
  replace HB := Lib.hid (seek_below HB.out HBc.out hf)
  replace HD := Lib.hid (seek_below HD.out HDc.out hf)
  replace HCc := Lib.hid hcur
  clear hf hcur
  go_wp2_with fail
  refine (sprev_any HCc.out (by decide) (by decide)).mono ?_
  intro e V7 hse
  unfold SeekO at hse
  obtain ⟨r, rfl, hr, hcur, hf⟩ := hse
  have hr1 : r = false := by
   cases r with
   | false => rfl
   | true =>
     obtain ⟨h1, h2⟩ := hr.1 rfl
     simp at h1
  subst hr1
  rw [if_neg (by decide)] at hcur
  clear hr
  replace HB := Lib.hid (seek_below HB.out HBc.out hf)
  replace HD := Lib.hid (seek_below HD.out HDc.out hf)
  replace HCc := Lib.hid hcur
  clear hf hcur
  go_wp2_with fail
  refine (sseek_any (y := 0) HCc.out).mono ?_
  intro e V8 hse
  unfold SeekO at hse
  obtain ⟨r, rfl, hr, hcur, hf⟩ := hse
  have hr1 : r = true := hr.2 ⟨by decide, by simp⟩
  subst hr1
  rw [if_pos rfl] at hcur
  clear hr
  replace HB := Lib.hid (seek_below HB.out HBc.out hf)
  replace HD := Lib.hid (seek_below HD.out HDc.out hf)
  replace HCc := Lib.hid hcur
  clear hf hcur
  go_wp2_with fail
  refine (swithin_any a5 3 (by omega) (by omega) _).mono ?_
  rintro e w8 ⟨rfl, hw⟩
  subst w8
  obtain ⟨i, hi⟩ : ∃ i : Nat, a5 % 3 = (i : Int) := ⟨(a5 % 3).toNat, by omega⟩
  have hi3 : i < 3 := by omega
  rw [hi]
  clear hi
  go_wp2_with fail
  refine (sbest_any (lo := 0) (hi := 0) (cat := (i : Int)) HCc.out (by simp)).mono ?_
  intro e V9 hbe
  unfold BestO at hbe
  obtain ⟨rfl, hb⟩ := hbe
  obtain ⟨z, hz⟩ : ∃ z, costAt [(p1, p2, p3)] i 0 = z := ⟨_, rfl⟩
  rw [best_one hi3 hz]
  dsimp only
  replace HCc := Lib.hid (HCc.out.below hb)
  replace HD := Lib.hid (HD.out.trans (hb.mono HD.out.size))
  replace HB := Lib.hid (HB.out.trans (hb.mono HB.out.size))
  clear hb
  go_wp2_with fail
  replace HL := Lib.hid (HL.out.below HD.out)
  replace HTt := Lib.hid (HTt.out.below HD.out)
  replace Xt := Lib.hid (Blk.below Xt.out HD.out Xt.out.lt)
  have c3t := Xt.out.cell 3
  have c5t := Xt.out.cell 5
  simp only [List.getElem?_toArray, List.getElem?_cons_zero, List.getElem?_cons_succ] at c3t c5t
  have hlen := HRt.out
  obtain ⟨g, o, eA, -, hc⟩ := HL.out.at encV_len (by decide) 0 (p1, p2, p3) rfl
  subst eA
  have d0 := hc 0 (.int .i64 p1) rfl; have d1 := hc 1 (.int .i64 p2) rfl; have d2 := hc 2 (.int .i64 p3) rfl
  simp only [Nat.zero_mul, Nat.add_zero] at d0 d1 d2
  have l3 : 0 < tt.bo.length := by rw [hlen.outs.1]; exact hlen.back.1
  have l5 : 0 < tt.fe.length := by rw [hlen.emits.1]; exact hlen.fwd.1
  obtain ⟨g3, o3, e3, -, h3⟩ := (show ReadsI V9 (.slice A3t m3t k3t) m3t tt.bo from by have := HTt.out.bo; rwa [HM3t.out] at this).at 0 (by rw [<- HM3t.out]; exact l3)
  subst e3
  obtain ⟨g5, o5, A6, m6, c6, e5, hq6, h5, hr6, -, -⟩ := (show EmitR V9 (.slice A5t m5t k5t) tt.fe from HTt.out.fe).at_ (i := 0) l5
  subst e5
  rw [Nat.add_zero] at h3 h5
  obtain ⟨x, hx, hxm⟩ : ∃ x : Nat, tt.bo.getD 0 0 = (x : Int) /\ x < m6 := by
   have h1 := outI_in hlen (t := []) (fun a ha => by cases ha) 0
   have h2 := emit_row hlen (t := []) (fun a ha => by cases ha) 0
   have e1 : outI tt [] 0 = tt.bo.getD 0 0 := rfl
   have e2 : (fwdI tt.fn [] 0).toNat = 0 := rfl
   rw [e1] at h1
   rw [e2, <- hq6] at h2
   exact ⟨(tt.bo.getD 0 0).toNat, by omega, by omega⟩
  rw [hx] at h3
  have hxu : (tt.fe.getD 0 [])[x]? = some (p1, p2, p3) := by
   have := HU.out
   rw [hx, Int.toNat_natCast] at this
   rw [<- this]
   exact sgetD_at (by omega)
  obtain ⟨g6, o6, e6, -, h6⟩ := hr6.at encV_len (by decide) x _ hxu
  subst e6
  have f0 := h6 0 (.int .i64 p1) rfl; have f1 := h6 1 (.int .i64 p2) rfl; have f2 := h6 2 (.int .i64 p3) rfl
  rw [Nat.add_zero] at f0
  have M3 : 0 < m3t := by rw [<- HM3t.out]; exact l3
  have M5 : 0 < m5t := by rw [<- HM5t.out]; exact l5
  have M3i : (0 : Int) < (m3t : Int) := by omega
  have M5i : (0 : Int) < (m5t : Int) := by omega
  have x0 : (0 : Int) <= (x : Int) := Int.natCast_nonneg _
  have xm : (x : Int) < (m6 : Int) := by omega
  have n3 : decide ((m3t : Int) <= 0) = false := by simp; omega
  have n5 : decide ((m5t : Int) <= 0) = false := by simp; omega
  have n3' : ¬ (m3t : Int) <= 0 := by omega
  have n5' : ¬ (m5t : Int) <= 0 := by omega
  have x4 : ¬ (x : Int) < 0 := by omega
  have x3 : ¬ (m6 : Int) <= (x : Int) := by omega
  have x5 : decide (m6 <= x) = false := by simpa using hxm
  have i0 : (0 : Int) <= (i : Int) := Int.natCast_nonneg _
  have i3 : (i : Int) < 3 := by omega
  have i4 : ¬ (i : Int) < 0 := by omega
  have i5 : ¬ 3 <= (i : Int) := by omega
  have i6 : decide (3 <= i) = false := by simpa using hi3
  have qv := seqVec p1 p2 p3 p1 p2 p3
  rw [sveq_refl] at qv
  have dz : V9.cell? ⟨g, o + i, none⟩ = some (.int .i64 z) := by
   rcases (show i = 0 \/ i = 1 \/ i = 2 by omega) with rfl | rfl | rfl <;> (rw [<- hz]; first | exact d0 | exact d1 | exact d2)
  have bq : ∀ s : Bool, (s == s) = true := fun s => by cases s <;> rfl
  clear hc h6 hr6 hxu hx hlen l3 l5 hz hq6
  go_big_quiet (fail)
  go_wp2_with fail
  go_ret
  exact ⟨rfl, sbel_drewN HB.out _⟩
end Go.Proofs.Ytacgakkcpmhgmaa
