/- SegApart: two cursors do not touch one another, nor the table. -/
import Derived.Test.YtacgakkcpmhgmaaVSegY
set_option linter.unusedVariables false
set_option linter.unusedSimpArgs false
set_option maxRecDepth 100000
set_option maxHeartbeats 8000000
namespace Go.Proofs.Ytacgakkcpmhgmaa
open Go Go.RowKit Go.Proofs
theorem segT_abc (t : Tab) : (segT t { data := #[97, 98, 99] }).length = 4 := by
 refine segT_size ?_
 show (scs [97, 98, 99]).length = 3
 rw [scs_cons _ (by decide)]
 show (97 :: scs [98, 99]).length = 3
 rw [scs_cons _ (by decide)]
 show (97 :: 98 :: scs [99]).length = 3
 rw [scs_cons _ (by decide)]
 rfl
theorem segApart_walk (a0 : Int) (a1 : Int) (a2 : Option Addr) (len2 cap2 : Nat) (z2 : List Int) (a3 : Option Addr) (len3 cap3 : Nat) (z3 : List Int) (a4 : Option Addr) (len4 cap4 : Nat) (z4 : List Int) (a5 : Option Addr) (len5 cap5 : Nat) (z5 : List Int) (a6 : Option Addr) (len6 cap6 : Nat) (z6 : List Int) (w : World) (w0 : (Lit.int .i64 a0).wf = true) (w1 : (Lit.int .i64 a1).wf = true) (w2 : IsRow .i64 w a2 len2 cap2 z2) (w3 : IsRow .i64 w a3 len3 cap3 z3) (w4 : IsRow .i64 w a4 len4 cap4 z4) (w5 : IsRow .i64 w a5 len5 cap5 z5) (w6 : IsRow .i64 w a6 len6 cap6 z6) :
  Calls Try.prog 8 #[.int .i64 a0, .int .i64 a1, .slice a2 len2 cap2, .slice a3 len3 cap3, .slice a4 len4 cap4, .slice a5 len5 cap5, .slice a6 len6 cap6] w fun e w' => e = .returned (.bool true) /\ Below w.heap.size w w' := by
  have hk := kOf_is a0; have hn := nOf_is a1; have hk9 := kOf_lt a0; have hn9 := nOf_lt a1
  obtain ⟨k, ek⟩ : ∃ k, kOf a0 = k := ⟨_, rfl⟩
  obtain ⟨n, en⟩ : ∃ n, nOf a1 = n := ⟨_, rfl⟩
  rw [ek] at hk hk9
  rw [en] at hn hn9
  clear ek en
  obtain ⟨k0, k9⟩ := hk9
  obtain ⟨n0, n9⟩ := hn9
  have HK := Lib.hid hk; have HN := Lib.hid hn
  have R2 := Lib.hid w2.readsI
  have R3 := Lib.hid w3.readsI
  have R4 := Lib.hid w4.readsI
  have I5 := Lib.hid w5
  clear hk hn w0 w1 w2 w3 w4 w5
  have I6 := Lib.hid w6
  clear w6
  go_enter Try.func8, Try.ntmps8
  go_wp2_with fail
  refine (sknown_any _).mono ?_
  rintro e V1 ⟨rfl, hb⟩
  replace R2 := Lib.hid (R2.out.below hb)
  replace R3 := Lib.hid (R3.out.below hb)
  replace R4 := Lib.hid (R4.out.below hb)
  have HB := Lib.hid hb
  clear hb
  go_wp2_with fail
  refine (make_own R2.out R3.out R4.out a0 a1 HK.out HN.out).mono ?_
  rintro e V2 ⟨vc, vl, vbn, vbo, vfn, vfe, rfl, ht, ⟨mm, hts⟩, hb⟩
  replace R2 := Lib.hid (R2.out.below hb)
  replace R3 := Lib.hid (R3.out.below hb)
  replace R4 := Lib.hid (R4.out.below hb)
  have hwB := HB.out.size
  replace HB := Lib.hid (HB.out.trans (hb.mono HB.out.size))
  clear hb
  have hrt := lawTab_right (ns := (z2.take len2)) (ms := (z3.take len3)) (cs := (z4.take len4)) k0 (by omega) n0 (by omega)
  have hel := lawTab_len (ns := (z2.take len2)) (ms := (z3.take len3)) (cs := (z4.take len4)) k0 k9 n0 n9
  obtain ⟨tt, htt⟩ : ∃ t, lawTab (z2.take len2) (z3.take len3) (z4.take len4) k n = t := ⟨_, rfl⟩
  rw [htt] at ht hrt hel
  have hlens := hrt.lens hel
  obtain ⟨vals, hem⟩ := EmS.of hts.fe
  obtain ⟨A0t, k0t, rfl, le0t, lt0t, -⟩ := ht.c.form
  obtain ⟨A1t, k1t, rfl, le1t, lt1t, -⟩ := ht.l.form
  obtain ⟨A2t, k2t, ee, le2t, lt2t⟩ := ht.bn.form
  subst ee
  obtain ⟨A3t, k3t, rfl, le3t, lt3t, -⟩ := ht.bo.form
  obtain ⟨A4t, k4t, ee, le4t, lt4t⟩ := ht.fn.form
  subst ee
  obtain ⟨A5t, k5t, ee, le5t, lt5t⟩ := ht.fe.form
  subst ee
  have HTE := Lib.hid htt
  have HRT := Lib.hid hrt; have HTt := Lib.hid ht; have HEM := Lib.hid hem
  clear ht hrt hel hts hem htt
  go_wp2_with fail
  refine (make_any R2.out R3.out R4.out a0 a1 HK.out HN.out).mono ?_
  have HZ27 : Hid (V2.heap.size <= V2.heap.size) := Lib.hid (Nat.le_refl _)
  rintro e V3 ⟨vc, vl, vbn, vbo, vfn, vfe, rfl, hu, hb⟩
  rw [HTE.out] at hu
  obtain ⟨A0u, k0u, rfl, le0u, lt0u, -⟩ := hu.c.form
  obtain ⟨A1u, k1u, rfl, le1u, lt1u, -⟩ := hu.l.form
  obtain ⟨A2u, k2u, ee, le2u, lt2u⟩ := hu.bn.form
  subst ee
  obtain ⟨A3u, k3u, rfl, le3u, lt3u, -⟩ := hu.bo.form
  obtain ⟨A4u, k4u, ee, le4u, lt4u⟩ := hu.fn.form
  subst ee
  obtain ⟨A5u, k5u, ee, le5u, lt5u⟩ := hu.fe.form
  subst ee
  replace HTt := Lib.hid (HTt.out.below hb)
  replace HEM := Lib.hid (HEM.out.below hb)
  have HTu := Lib.hid hu
  clear hu
  replace HZ27 := Lib.hid (Nat.le_trans HZ27.out hb.size)
  replace HB := Lib.hid (HB.out.trans (hb.mono HB.out.size))
  clear hb
  obtain ⟨m0, hm0⟩ : ∃ m, tt.cuts.length = m := ⟨_, rfl⟩
  obtain ⟨m1, hm1⟩ : ∃ m, tt.letters.length = m := ⟨_, rfl⟩
  obtain ⟨m2, hm2⟩ : ∃ m, tt.bn.length = m := ⟨_, rfl⟩
  obtain ⟨m3, hm3⟩ : ∃ m, tt.bo.length = m := ⟨_, rfl⟩
  obtain ⟨m4, hm4⟩ : ∃ m, tt.fn.length = m := ⟨_, rfl⟩
  obtain ⟨m5, hm5⟩ : ∃ m, tt.fe.length = m := ⟨_, rfl⟩
  obtain ⟨t3, ht3⟩ : ∃ W : World -> Prop, W = fun W => TabR W (.slice A0t m0 k0t) (.slice A1t m1 k1t) (.slice A2t m2 k2t) (.slice A3t m3 k3t) (.slice A4t m4 k4t) (.slice A5t m5 k5t) tt := ⟨_, rfl⟩
  clear ht3 t3
  have e1 := HTt.out; have e2 := HTu.out; have e3 := HEM.out
  rw [hm0, hm1, hm2, hm3, hm4, hm5] at e1 e2
  rw [hm5] at e3
  rw [hm0, hm1, hm2, hm3, hm4, hm5]
  replace HTt := Lib.hid e1; replace HTu := Lib.hid e2; replace HEM := Lib.hid e3
  clear e1 e2 e3
  rw [hm0] at le0t le0u
  rw [hm1] at le1t le1u
  rw [hm2] at le2t le2u
  rw [hm3] at le3t le3u
  rw [hm4] at le4t le4u
  rw [hm5] at le5t le5u
  rw [hm0, hm1, hm2, hm3, hm4, hm5] at hlens
  obtain ⟨q0, q1, q2, q3, q4, q5⟩ := hlens
  have HM5 := Lib.hid hm5; have hm5k : m5 = k := by
   obtain ⟨g, cap, m, g2, cap2, e, -⟩ := HEM.out.at_ (i := 0) k0
   simp only [Value.slice.injEq] at e
   exact e.2.1
  have HM5K := Lib.hid hm5k
  clear hm5k hm0 hm1 hm2 hm3 hm4 hm5
  obtain ⟨bt, hbt⟩ : ∃ b, V3.heap.size = b := ⟨_, rfl⟩
  obtain ⟨V4, hV4⟩ : ∃ W, V3.alloc (.cells #[.slice A0t m0 k0t, .slice A1t m1 k1t, .slice A2t m2 k2t, .slice A3t m3 k3t, .slice A4t m4 k4t, .slice A5t m5 k5t] 32) = W := ⟨_, rfl⟩
  obtain ⟨V5, hV5⟩ : ∃ W, V4.alloc (.cells #[.slice A0u m0 k0u, .slice A1u m1 k1u, .slice A2u m2 k2u, .slice A3u m3 k3u, .slice A4u m4 k4u, .slice A5u m5 k5u] 32) = W := ⟨_, rfl⟩
  have hs4 : V4.heap.size = bt + 1 := by rw [<- hV4, World.size_alloc, hbt]
  have hb : Below V3.heap.size V3 V5 := by rw [<- hV5, <- hV4]; exact ((Below.refl _ _).alloc (Nat.le_refl _) _).alloc (by simp) _
  have Xt : Hid (Blk V5 bt 32 #[.slice A0t m0 k0t, .slice A1t m1 k1t, .slice A2t m2 k2t, .slice A3t m3 k3t, .slice A4t m4 k4t, .slice A5t m5 k5t]) := Lib.hid (by rw [<- hV5, <- hV4]; exact (Blk.newAt _ hbt _ _).alloc _)
  have Xu : Hid (Blk V5 (bt + 1) 32 #[.slice A0u m0 k0u, .slice A1u m1 k1u, .slice A2u m2 k2u, .slice A3u m3 k3u, .slice A4u m4 k4u, .slice A5u m5 k5u]) := Lib.hid (by rw [<- hV5]; exact Blk.newAt _ hs4 _ _)
  replace HTt := Lib.hid (HTt.out.below hb)
  replace HTu := Lib.hid (HTu.out.below hb)
  replace HEM := Lib.hid (HEM.out.below hb)
  replace HZ27 := Lib.hid (Nat.le_trans HZ27.out hb.size)
  replace HB := Lib.hid (HB.out.trans (hb.mono HB.out.size))
  clear hb
  have HV4 := Lib.hid hV4; have HV5 := Lib.hid hV5; have HBT := Lib.hid hbt; have HS4 := Lib.hid hs4
  clear hV4 hV5 hbt hs4
  go_wp2_with fail
  try simp only [HBT.out]
  rw [HV4.out, HV5.out]
  try simp only [HS4.out]
  refine (bytes_any a5 len5 cap5 z5 none 0 0 [] w _ HB.out I5.out (.inl ⟨rfl, rfl, rfl, rfl⟩) (by omega)).mono ?_
  rintro e V6 ⟨S, rfl, S9, hb⟩
  replace HTt := Lib.hid (HTt.out.below hb)
  replace HTu := Lib.hid (HTu.out.below hb)
  replace HEM := Lib.hid (HEM.out.below hb)
  replace Xt := Lib.hid (Blk.below Xt.out hb Xt.out.lt)
  replace Xu := Lib.hid (Blk.below Xu.out hb Xu.out.lt)
  replace HZ27 := Lib.hid (Nat.le_trans HZ27.out hb.size)
  replace HB := Lib.hid (HB.out.trans (hb.mono HB.out.size))
  clear hb
  have hsl := segT_len tt S
  obtain ⟨L, hL⟩ : ∃ l, segT tt S = l := ⟨_, rfl⟩
  rw [hL] at hsl
  obtain ⟨N, hN⟩ : ∃ N, L.length = N := ⟨_, rfl⟩
  rw [hN] at hsl
  obtain ⟨N1, N9⟩ := hsl
  have HLE := Lib.hid hL; have HNL := Lib.hid hN
  clear hL hN
  have N9' : N <= 1301 := by omega
  clear N9
  have h4 := segT_abc tt
  obtain ⟨L2, hL2⟩ : ∃ l, segT tt { data := #[97, 98, 99] } = l := ⟨_, rfl⟩
  rw [hL2] at h4
  have HL2 := Lib.hid hL2; have HN2 := Lib.hid h4
  clear hL2 h4
  obtain ⟨V7, hV7⟩ : ∃ V, V6.drew = V := ⟨_, rfl⟩
  have hb : Below V6.heap.size V6 V7 := by rw [<- hV7]; exact (Below.refl _ _).drew
  replace HTt := Lib.hid (HTt.out.below hb)
  replace HTu := Lib.hid (HTu.out.below hb)
  replace HEM := Lib.hid (HEM.out.below hb)
  replace Xt := Lib.hid (Blk.below Xt.out hb Xt.out.lt)
  replace Xu := Lib.hid (Blk.below Xu.out hb Xu.out.lt)
  replace HZ27 := Lib.hid (Nat.le_trans HZ27.out hb.size)
  replace HB := Lib.hid (HB.out.trans (hb.mono HB.out.size))
  clear hb
  have HD : Hid (Below V7.heap.size V7 V7) := Lib.hid (Below.refl _ _)
  have hS : (fun W : World => (W.cell? ⟨bt, 0, none⟩ = some (.slice A0t m0 k0t) /\ W.cell? ⟨bt, 1, none⟩ = some (.slice A1t m1 k1t) /\ W.cell? ⟨bt, 2, none⟩ = some (.slice A2t m2 k2t) /\ W.cell? ⟨bt, 3, none⟩ = some (.slice A3t m3 k3t) /\ W.cell? ⟨bt, 4, none⟩ = some (.slice A4t m4 k4t) /\ W.cell? ⟨bt, 5, none⟩ = some (.slice A5t m5 k5t)) /\ (W.cell? ⟨bt + 1, 0, none⟩ = some (.slice A0u m0 k0u) /\ W.cell? ⟨bt + 1, 1, none⟩ = some (.slice A1u m1 k1u) /\ W.cell? ⟨bt + 1, 2, none⟩ = some (.slice A2u m2 k2u) /\ W.cell? ⟨bt + 1, 3, none⟩ = some (.slice A3u m3 k3u) /\ W.cell? ⟨bt + 1, 4, none⟩ = some (.slice A4u m4 k4u) /\ W.cell? ⟨bt + 1, 5, none⟩ = some (.slice A5u m5 k5u))) V7 := ⟨⟨Xt.out.cell 0, Xt.out.cell 1, Xt.out.cell 2, Xt.out.cell 3, Xt.out.cell 4, Xt.out.cell 5⟩, ⟨Xu.out.cell 0, Xu.out.cell 1, Xu.out.cell 2, Xu.out.cell 3, Xu.out.cell 4, Xu.out.cell 5⟩⟩
  have HE7 := HEM; have X7 := Xt; have hz7 : ∃ Z, Z = V2.heap.size := ⟨_, rfl⟩
  clear hz7
  have hZ : V2.heap.size <= V7.heap.size := HZ27.out
  go_wp2_with fail
  refine region_x 10 (fun W : World => (W.cell? ⟨bt, 0, none⟩ = some (.slice A0t m0 k0t) /\ W.cell? ⟨bt, 1, none⟩ = some (.slice A1t m1 k1t) /\ W.cell? ⟨bt, 2, none⟩ = some (.slice A2t m2 k2t) /\ W.cell? ⟨bt, 3, none⟩ = some (.slice A3t m3 k3t) /\ W.cell? ⟨bt, 4, none⟩ = some (.slice A4t m4 k4t) /\ W.cell? ⟨bt, 5, none⟩ = some (.slice A5t m5 k5t)) /\ (W.cell? ⟨bt + 1, 0, none⟩ = some (.slice A0u m0 k0u) /\ W.cell? ⟨bt + 1, 1, none⟩ = some (.slice A1u m1 k1u) /\ W.cell? ⟨bt + 1, 2, none⟩ = some (.slice A2u m2 k2u) /\ W.cell? ⟨bt + 1, 3, none⟩ = some (.slice A3u m3 k3u) /\ W.cell? ⟨bt + 1, 4, none⟩ = some (.slice A4u m4 k4u) /\ W.cell? ⟨bt + 1, 5, none⟩ = some (.slice A5u m5 k5u))) (by kernel_rfl) ?_
  rw [hV7]
  clear hV7
  refine tkx (i := 0) (v := ?_) hS ?_ ?_
  rotate_left
  ·rintro w' ⟨⟨d0', d1', d2', d3', d4', d5'⟩, ⟨f0', f1', f2', f3', f4', f5'⟩⟩
   go_simp
   try with_reducible rfl
  try simp only [Act.put, zq1, zq2, zq3, zq4, zq5, zq6]
  refine tkx (i := 1) (v := ?_) hS ?_ ?_
  rotate_left
  ·rintro w' ⟨⟨d0', d1', d2', d3', d4', d5'⟩, ⟨f0', f1', f2', f3', f4', f5'⟩⟩
   go_simp
   try with_reducible rfl
  try simp only [Act.put, zq1, zq2, zq3, zq4, zq5, zq6]
  refine tkx (i := 3) (v := ?_) hS ?_ ?_
  rotate_left
  ·rintro w' ⟨⟨d0', d1', d2', d3', d4', d5'⟩, ⟨f0', f1', f2', f3', f4', f5'⟩⟩
   go_simp
   try with_reducible rfl
  try simp only [Act.put, zq1, zq2, zq3, zq4, zq5, zq6]
  refine tkx (i := 5) (v := ?_) hS ?_ ?_
  rotate_left
  ·rintro w' ⟨⟨d0', d1', d2', d3', d4', d5'⟩, ⟨f0', f1', f2', f3', f4', f5'⟩⟩
   go_simp
   try with_reducible rfl
  try simp only [Act.put, zq1, zq2, zq3, zq4, zq5, zq6]
  refine tkx (i := 6) (v := ?_) hS ?_ ?_
  rotate_left
  ·rintro w' ⟨⟨d0', d1', d2', d3', d4', d5'⟩, ⟨f0', f1', f2', f3', f4', f5'⟩⟩
   go_simp
   try with_reducible rfl
  try simp only [Act.put, zq1, zq2, zq3, zq4, zq5, zq6]
  refine anyX_g (i := 2) (by kernel_rfl) (by decide) rfl (by rfl) ?_
  intro K hK
  try simp only [zq1, zq2, zq3]
  have hnew := snew_fresh HTt.out S
  rw [segT_ok HRT.out (by omega), HLE.out] at hnew
  dsimp only at hnew
  unfold tabV at hnew
  refine wp_enterE #[.agg #[.slice A0t m0 k0t, .slice A1t m1 k1t, .slice A2t m2 k2t, .slice A3t m3 k3t, .slice A4t m4 k4t, .slice A5t m5 k5t], .string S] Try.func23 (by kernel_rfl) (by kernel_rfl) ?_ hnew ?_
  ·go_simp
  rintro e V8 ⟨bc, Ac, cc, rfl, hcur, hbl, hfa, hb⟩
  clear hnew
  have HCc := Lib.hid hcur; have HBc := Lib.hid (Nat.le_trans HB.out.size hbl); have HZc := Lib.hid (Nat.le_trans HD.out.size hbl); have HFc := Lib.hid (fun p (hp : Ac = some p) => Nat.le_trans HD.out.size (hfa p hp))
  clear hcur hbl hfa
  replace HD := Lib.hid (HD.out.trans (hb.mono HD.out.size))
  replace HTt := Lib.hid (HTt.out.below hb)
  replace HTu := Lib.hid (HTu.out.below hb)
  replace HEM := Lib.hid (HEM.out.below hb)
  replace Xt := Lib.hid (Blk.below Xt.out hb Xt.out.lt)
  replace Xu := Lib.hid (Blk.below Xu.out hb Xu.out.lt)
  replace HB := Lib.hid (HB.out.trans (hb.mono HB.out.size))
  clear hb
  clear hS
  have hS : (fun W : World => (W.cell? ⟨bt, 0, none⟩ = some (.slice A0t m0 k0t) /\ W.cell? ⟨bt, 1, none⟩ = some (.slice A1t m1 k1t) /\ W.cell? ⟨bt, 2, none⟩ = some (.slice A2t m2 k2t) /\ W.cell? ⟨bt, 3, none⟩ = some (.slice A3t m3 k3t) /\ W.cell? ⟨bt, 4, none⟩ = some (.slice A4t m4 k4t) /\ W.cell? ⟨bt, 5, none⟩ = some (.slice A5t m5 k5t)) /\ (W.cell? ⟨bt + 1, 0, none⟩ = some (.slice A0u m0 k0u) /\ W.cell? ⟨bt + 1, 1, none⟩ = some (.slice A1u m1 k1u) /\ W.cell? ⟨bt + 1, 2, none⟩ = some (.slice A2u m2 k2u) /\ W.cell? ⟨bt + 1, 3, none⟩ = some (.slice A3u m3 k3u) /\ W.cell? ⟨bt + 1, 4, none⟩ = some (.slice A4u m4 k4u) /\ W.cell? ⟨bt + 1, 5, none⟩ = some (.slice A5u m5 k5u))) V8 := ⟨⟨Xt.out.cell 0, Xt.out.cell 1, Xt.out.cell 2, Xt.out.cell 3, Xt.out.cell 4, Xt.out.cell 5⟩, ⟨Xu.out.cell 0, Xu.out.cell 1, Xu.out.cell 2, Xu.out.cell 3, Xu.out.cell 4, Xu.out.cell 5⟩⟩
  refine ⟨_, rfl, ?_⟩
  refine hK _ _ hS ?_
  clear hK
  try simp only [Act.put, zq1, zq2, zq3, zq4, zq5, zq6]
  refine anyX_g (i := 4) (by kernel_rfl) (by decide) rfl (by rfl) ?_
  intro K hK
  try simp only [zq1, zq2, zq3]
  have hnew := snew_fresh HTt.out { data := #[97, 98, 99] }
  rw [segT_ok HRT.out (by decide), HL2.out] at hnew
  dsimp only at hnew
  unfold tabV at hnew
  refine wp_enterE #[.agg #[.slice A0t m0 k0t, .slice A1t m1 k1t, .slice A2t m2 k2t, .slice A3t m3 k3t, .slice A4t m4 k4t, .slice A5t m5 k5t], .string { data := #[97, 98, 99] }] Try.func23 (by kernel_rfl) (by kernel_rfl) ?_ hnew ?_
  ·go_simp
  rintro e V9 ⟨bd, Ad, cd, rfl, hcur, hbl, hfa, hb⟩
  clear hnew
  have HCd := Lib.hid hcur; have HBd := Lib.hid (Nat.le_trans HB.out.size hbl); have HZd := Lib.hid (Nat.le_trans HD.out.size hbl); have HFd := Lib.hid (fun p (hp : Ad = some p) => Nat.le_trans HD.out.size (hfa p hp))
  have hcd : ¬ bd = bc := by have := HCc.out.x.lt; omega
  replace HCc := Lib.hid (HCc.out.below hb)
  clear hcur hbl hfa
  replace HD := Lib.hid (HD.out.trans (hb.mono HD.out.size))
  replace HTt := Lib.hid (HTt.out.below hb)
  replace HTu := Lib.hid (HTu.out.below hb)
  replace HEM := Lib.hid (HEM.out.below hb)
  replace Xt := Lib.hid (Blk.below Xt.out hb Xt.out.lt)
  replace Xu := Lib.hid (Blk.below Xu.out hb Xu.out.lt)
  replace HB := Lib.hid (HB.out.trans (hb.mono HB.out.size))
  clear hb
  clear hS
  have hS : (fun W : World => (W.cell? ⟨bt, 0, none⟩ = some (.slice A0t m0 k0t) /\ W.cell? ⟨bt, 1, none⟩ = some (.slice A1t m1 k1t) /\ W.cell? ⟨bt, 2, none⟩ = some (.slice A2t m2 k2t) /\ W.cell? ⟨bt, 3, none⟩ = some (.slice A3t m3 k3t) /\ W.cell? ⟨bt, 4, none⟩ = some (.slice A4t m4 k4t) /\ W.cell? ⟨bt, 5, none⟩ = some (.slice A5t m5 k5t)) /\ (W.cell? ⟨bt + 1, 0, none⟩ = some (.slice A0u m0 k0u) /\ W.cell? ⟨bt + 1, 1, none⟩ = some (.slice A1u m1 k1u) /\ W.cell? ⟨bt + 1, 2, none⟩ = some (.slice A2u m2 k2u) /\ W.cell? ⟨bt + 1, 3, none⟩ = some (.slice A3u m3 k3u) /\ W.cell? ⟨bt + 1, 4, none⟩ = some (.slice A4u m4 k4u) /\ W.cell? ⟨bt + 1, 5, none⟩ = some (.slice A5u m5 k5u))) V9 := ⟨⟨Xt.out.cell 0, Xt.out.cell 1, Xt.out.cell 2, Xt.out.cell 3, Xt.out.cell 4, Xt.out.cell 5⟩, ⟨Xu.out.cell 0, Xu.out.cell 1, Xu.out.cell 2, Xu.out.cell 3, Xu.out.cell 4, Xu.out.cell 5⟩⟩
  refine ⟨_, rfl, ?_⟩
  refine hK _ _ hS ?_
  clear hK
  try simp only [Act.put, zq1, zq2, zq3, zq4, zq5, zq6]
  refine anyX_g (i := 7) (by kernel_rfl) (by decide) rfl (by rfl) ?_
  intro K hK
  try simp only [zq1, zq2, zq3]
  have hnew := rnew_fresh HTu.out HRT.out S (by omega)
  rw [HLE.out] at hnew
  unfold tabV at hnew
  refine wp_enterE #[.agg #[.slice A0u m0 k0u, .slice A1u m1 k1u, .slice A2u m2 k2u, .slice A3u m3 k3u, .slice A4u m4 k4u, .slice A5u m5 k5u], .string S] Try.func32 (by kernel_rfl) (by kernel_rfl) ?_ hnew ?_
  ·go_simp
  rintro e V10 ⟨bx, Ax, cx, rfl, hcur, hbl, hfa, hb⟩
  clear hnew
  have HCx := Lib.hid hcur; have HBx := Lib.hid (Nat.le_trans HB.out.size hbl); have HZx := Lib.hid (Nat.le_trans HD.out.size hbl); have HFx := Lib.hid (fun p (hp : Ax = some p) => Nat.le_trans HD.out.size (hfa p hp))
  have hcx : ¬ bx = bc := by have := HCc.out.x.lt; omega
  have hdx : ¬ bx = bd := by have := HCd.out.x.lt; omega
  replace HCc := Lib.hid (HCc.out.below hb)
  replace HCd := Lib.hid (HCd.out.below hb)
  have HQcd : Hid (∀ p, Ac = some p -> p.block ≠ bd) := Lib.hid (vrow_far HCc.out.r (by rw [HNL.out]; exact N1) HCd.out.x rfl)
  have HQcx : Hid (∀ p, Ac = some p -> p.block ≠ bx) := Lib.hid (vrow_far HCc.out.r (by rw [HNL.out]; exact N1) HCx.out.x rfl)
  have HQdc : Hid (∀ p, Ad = some p -> p.block ≠ bc) := Lib.hid (vrow_far HCd.out.r (by rw [HN2.out]; decide) HCc.out.x rfl)
  have HQdx : Hid (∀ p, Ad = some p -> p.block ≠ bx) := Lib.hid (vrow_far HCd.out.r (by rw [HN2.out]; decide) HCx.out.x rfl)
  have HQxc : Hid (∀ p, Ax = some p -> p.block ≠ bc) := Lib.hid (vrow_far HCx.out.r (by rw [HNL.out]; exact N1) HCc.out.x rfl)
  have HQxd : Hid (∀ p, Ax = some p -> p.block ≠ bd) := Lib.hid (vrow_far HCx.out.r (by rw [HNL.out]; exact N1) HCd.out.x rfl)
  clear hcur hbl hfa
  replace HD := Lib.hid (HD.out.trans (hb.mono HD.out.size))
  have hemV := HEM.out
  replace HTt := Lib.hid (HTt.out.below hb)
  replace HTu := Lib.hid (HTu.out.below hb)
  replace HEM := Lib.hid (HEM.out.below hb)
  replace Xt := Lib.hid (Blk.below Xt.out hb Xt.out.lt)
  replace Xu := Lib.hid (Blk.below Xu.out hb Xu.out.lt)
  replace HB := Lib.hid (HB.out.trans (hb.mono HB.out.size))
  clear hb
  clear hS hemV
  have hS : (fun W : World => (W.cell? ⟨bt, 0, none⟩ = some (.slice A0t m0 k0t) /\ W.cell? ⟨bt, 1, none⟩ = some (.slice A1t m1 k1t) /\ W.cell? ⟨bt, 2, none⟩ = some (.slice A2t m2 k2t) /\ W.cell? ⟨bt, 3, none⟩ = some (.slice A3t m3 k3t) /\ W.cell? ⟨bt, 4, none⟩ = some (.slice A4t m4 k4t) /\ W.cell? ⟨bt, 5, none⟩ = some (.slice A5t m5 k5t)) /\ (W.cell? ⟨bt + 1, 0, none⟩ = some (.slice A0u m0 k0u) /\ W.cell? ⟨bt + 1, 1, none⟩ = some (.slice A1u m1 k1u) /\ W.cell? ⟨bt + 1, 2, none⟩ = some (.slice A2u m2 k2u) /\ W.cell? ⟨bt + 1, 3, none⟩ = some (.slice A3u m3 k3u) /\ W.cell? ⟨bt + 1, 4, none⟩ = some (.slice A4u m4 k4u) /\ W.cell? ⟨bt + 1, 5, none⟩ = some (.slice A5u m5 k5u))) V10 := ⟨⟨Xt.out.cell 0, Xt.out.cell 1, Xt.out.cell 2, Xt.out.cell 3, Xt.out.cell 4, Xt.out.cell 5⟩, ⟨Xu.out.cell 0, Xu.out.cell 1, Xu.out.cell 2, Xu.out.cell 3, Xu.out.cell 4, Xu.out.cell 5⟩⟩
  refine ⟨_, rfl, ?_⟩
  refine hK _ _ hS ?_
  clear hK
  try simp only [Act.put, zq1, zq2, zq3, zq4, zq5, zq6]
  refine tkx (i := 8) (v := ?_) hS ?_ ?_
  rotate_left
  ·rintro w' ⟨⟨d0', d1', d2', d3', d4', d5'⟩, ⟨f0', f1', f2', f3', f4', f5'⟩⟩
   go_simp
   try with_reducible rfl
  try simp only [Act.put, zq1, zq2, zq3, zq4, zq5, zq6]
  refine tkx (i := 9) (v := ?_) hS ?_ ?_
  rotate_left
  ·rintro w' ⟨⟨d0', d1', d2', d3', d4', d5'⟩, ⟨f0', f1', f2', f3', f4', f5'⟩⟩
   go_simp
   try with_reducible rfl
  try simp only [Act.put, zq1, zq2, zq3, zq4, zq5, zq6]
  refine anyX_last (by kernel_rfl) (by kernel_rfl) rfl rfl ?_
  try simp only [zq1, zq2, zq3]
  go_simp
  try apply_assumption
  clear hS HEM Xt Xu HTt HTu
  go_wp2_with fail
  go_loopw [21] (fun vi wr => ∃ (i k q : Nat), vi = .int .i64 (i : Int) /\ i <= len6 /\ k < N /\ Hid (CurS wr bc Ac cc L (k : Int)) /\ Hid (CurS wr bd Ad cd L2 (q : Int)) /\ Hid (RCurS wr bx Ax cx L (k : Int)) /\ Hid (Below V7.heap.size V7 wr) /\ Hid (Below w.heap.size w wr)) (fun vi _ => len6 - (intOf vi).toNat)
  case atStart => exact ⟨0, 0, 0, rfl, Nat.zero_le _, N1, HCc, HCd, HCx, HD, HB⟩
  case round =>
   clear HCc HCd HCx HB HD
   obtain ⟨i, kk, q, rfl, hi, hkN, HCc, HCd, HCx, HD, HB⟩ := hrel
   have i0 : (0 : Int) <= (i : Int) := Int.natCast_nonneg _
   by_cases hgo : i < len6 /\ i < 30
   ·obtain ⟨hlt, h60⟩ := hgo
    have i1 : (i : Int) < (len6 : Int) := by omega
    have i2 : (i : Int) < 30 := by omega
    have hcd2 : ¬ bc = bd := fun e => hcd e.symm
    have hdc2 : ¬ bc = bd := hcd2
    have hcx2 : ¬ bc = bx := fun e => hcx e.symm
    have hdx2 : ¬ bd = bx := fun e => hdx e.symm
    obtain ⟨g, o, ea, hgl, hca, hwa⟩ := I6.out.at i hlt
    subst ea
    have hcl := hca i hlt
    have hwf := hwa i hlt
    clear hca hwa
    obtain ⟨x6, hx6⟩ : ∃ x, z6.getD i 0 = x := ⟨_, rfl⟩
    rw [hx6] at hcl hwf
    clear hx6
    have wq : IntKind.i64.wrap (x6.tdiv 4) = x6.tdiv 4 := IntWalk.i64_in _ (bounds_i64 (tdiv_wf _ 4 (by omega) hwf))
    clear hwf
    have HCL := Lib.hid hcl
    replace hcl := bel_m HB.out hcl
    go_wp2_with fail
    refine (swithin_any x6 4 (by omega) (by omega) _).mono ?_
    rintro e w6 ⟨rfl, hw⟩
    subst w6
    obtain ⟨y4, hy4⟩ : ∃ zz : Nat, x6 % 4 = (zz : Int) := ⟨(x6 % 4).toNat, by omega⟩
    have hy49 : y4 < 4 := by omega
    rw [hy4]
    clear hy4 hcl
    go_wp2_with fail
    refine (sseek_any (y := (y4 : Int)) HCd.out).mono ?_
    intro e D1 hse
    unfold SeekO at hse
    obtain ⟨r, rfl, hr, hcur, hf⟩ := hse
    have hr1 : r = true := hr.2 ⟨by omega, by rw [HN2.out]; omega⟩
    subst hr1
    rw [if_pos rfl] at hcur
    replace HCc := Lib.hid (HCc.out.other hf hdc2 HQcd.out)
    replace HCx := Lib.hid (HCx.out.other hf hdx HQxd.out)
    replace HB := Lib.hid (seek_below HB.out HBd.out hf)
    replace HD := Lib.hid (seek_below HD.out HZd.out hf)
    replace HCd := Lib.hid hcur
    clear hr hcur hf
    obtain ⟨D2, hD2⟩ : ∃ D, D1.drew = D := ⟨_, rfl⟩
    have hb : Below D1.heap.size D1 D2 := by rw [<- hD2]; exact (Below.refl _ _).drew
    replace HCc := Lib.hid (HCc.out.below hb); replace HCd := Lib.hid (HCd.out.below hb); replace HCx := Lib.hid (HCx.out.below hb); replace HD := Lib.hid (HD.out.trans (hb.mono HD.out.size))
    replace HB := Lib.hid (HB.out.trans (hb.mono HB.out.size))
    clear hb
    have hS : (fun W : World => W.cell? ⟨g, o + i, none⟩ = some (.int .i64 x6)) D2 := bel_m HB.out HCL.out
    go_wp2_with fail
    refine region_y 16 (fun W : World => W.cell? ⟨g, o + i, none⟩ = some (.int .i64 x6)) (by kernel_rfl) ?_
    rw [hD2]
    clear hD2
    refine tkyg [7] (i := 0) (v := ?_) hS ?_ ?_
    rotate_left
    ·rintro w' d0'
     go_simp
     try with_reducible rfl
    try simp only [Act.put, zq1, zq2, zq3, zq4, zq5, zq6]
    refine tkyg [7, 6, 5, 4, 3] (i := 1) (v := ?_) hS ?_ ?_
    rotate_left
    ·rintro w' d0'
     go_simp
     try with_reducible rfl
    try simp only [Act.put, zq1, zq2, zq3, zq4, zq5, zq6]
    refine tkyg [7, 6, 5, 4, 3] (i := 2) (v := ?_) hS ?_ ?_
    rotate_left
    ·rintro w' d0'
     go_simp
     try with_reducible rfl
    try simp only [Act.put, zq1, zq2, zq3, zq4, zq5, zq6]
    refine tkyg [7, 6, 5, 4] (i := 3) (v := ?_) hS ?_ ?_
    rotate_left
    ·rintro w' d0'
     go_simp
     try with_reducible rfl
    try simp only [Act.put, zq1, zq2, zq3, zq4, zq5, zq6]
    refine tkyg [7, 6, 5] (i := 4) (v := ?_) hS ?_ ?_
    rotate_left
    ·rintro w' d0'
     go_simp
     try with_reducible rfl
    try simp only [Act.put, zq1, zq2, zq3, zq4, zq5, zq6]
    refine tkyg [7, 6] (i := 5) (v := ?_) hS ?_ ?_
    rotate_left
    ·rintro w' d0'
     go_simp
     try with_reducible rfl
    try simp only [Act.put, zq1, zq2, zq3, zq4, zq5, zq6]
    refine tkyg [15] (i := 8) (v := ?_) hS ?_ ?_
    rotate_left
    ·rintro w' d0'
     go_simp
     try with_reducible rfl
    try simp only [Act.put, zq1, zq2, zq3, zq4, zq5, zq6]
    refine tkyg [15, 14, 13, 12, 11] (i := 9) (v := ?_) hS ?_ ?_
    rotate_left
    ·rintro w' d0'
     go_simp
     try with_reducible rfl
    try simp only [Act.put, zq1, zq2, zq3, zq4, zq5, zq6]
    refine tkyg [15, 14, 13, 12, 11] (i := 10) (v := ?_) hS ?_ ?_
    rotate_left
    ·rintro w' d0'
     go_simp
     try with_reducible rfl
    try simp only [Act.put, zq1, zq2, zq3, zq4, zq5, zq6]
    refine tkyg [15, 14, 13, 12] (i := 11) (v := ?_) hS ?_ ?_
    rotate_left
    ·rintro w' d0'
     go_simp
     try with_reducible rfl
    try simp only [Act.put, zq1, zq2, zq3, zq4, zq5, zq6]
    refine tkyg [15, 14, 13] (i := 12) (v := ?_) hS ?_ ?_
    rotate_left
    ·rintro w' d0'
     go_simp
     try with_reducible rfl
    try simp only [Act.put, zq1, zq2, zq3, zq4, zq5, zq6]
    refine tkyg [15, 14] (i := 13) (v := ?_) hS ?_ ?_
    rotate_left
    ·rintro w' d0'
     go_simp
     try with_reducible rfl
    try simp only [Act.put, zq1, zq2, zq3, zq4, zq5, zq6]
    refine anyY_gw (i := 6) (by kernel_rfl) rfl (by rfl) ?_
    intro K hK
    try simp only [zq1, zq2, zq3]
    refine wp_enterE #[.int .i64 (x6.tdiv 4), .int .i64 50] Try.func22 (by kernel_rfl) (by kernel_rfl) ?_ (swithin_any (x6.tdiv 4) 50 (by omega) (by omega) _) ?_
    ·go_simp
    rintro e w6 ⟨rfl, hw⟩
    subst w6
    refine ⟨_, rfl, ?_⟩
    refine hK _ _ hS ?_
    clear hK
    try simp only [Act.put, zq1, zq2, zq3, zq4, zq5, zq6]
    refine anyY_gw (i := 7) (by kernel_rfl) rfl (by rfl) ?_
    intro K hK
    try simp only [zq1, zq2, zq3]
    refine wp_enterE #[.pointer (some ⟨bc, 0, none⟩), .int .i64 (x6.tdiv 4 % 50)] Try.func31 (by kernel_rfl) (by kernel_rfl) ?_ (sseek_any (y := x6.tdiv 4 % 50) HCc.out) ?_
    ·go_simp
    intro e D3 hse
    unfold SeekO at hse
    obtain ⟨r, rfl, hr, hcur, hf⟩ := hse
    rw [HNL.out] at hr
    replace HCd := Lib.hid (HCd.out.other hf hcd HQdc.out)
    replace HCx := Lib.hid (HCx.out.other hf hcx HQxc.out)
    replace HB := Lib.hid (seek_below HB.out HBc.out hf)
    replace HD := Lib.hid (seek_below HD.out HZc.out hf)
    have HR9 := Lib.hid hr; have HCU := Lib.hid hcur
    clear hr hcur hf hS
    have hS : (fun W : World => W.cell? ⟨g, o + i, none⟩ = some (.int .i64 x6)) D3 := bel_m HB.out HCL.out
    refine ⟨_, rfl, ?_⟩
    refine hK _ _ hS ?_
    clear hK
    try simp only [Act.put, zq1, zq2, zq3, zq4, zq5, zq6]
    refine anyY_gw (i := 14) (by kernel_rfl) rfl (by rfl) ?_
    intro K hK
    try simp only [zq1, zq2, zq3]
    refine wp_enterE #[.int .i64 (x6.tdiv 4), .int .i64 50] Try.func22 (by kernel_rfl) (by kernel_rfl) ?_ (swithin_any (x6.tdiv 4) 50 (by omega) (by omega) _) ?_
    ·go_simp
    rintro e w6 ⟨rfl, hw⟩
    subst w6
    refine ⟨_, rfl, ?_⟩
    refine hK _ _ hS ?_
    clear hK
    try simp only [Act.put, zq1, zq2, zq3, zq4, zq5, zq6]
    refine anyY_gw (i := 15) (by kernel_rfl) rfl (by rfl) ?_
    intro K hK
    try simp only [zq1, zq2, zq3]
    refine wp_enterE #[.pointer (some ⟨bx, 0, none⟩), .int .i64 (x6.tdiv 4 % 50)] Try.func35 (by kernel_rfl) (by kernel_rfl) ?_ (rseek_any (y := x6.tdiv 4 % 50) HCx.out) ?_
    ·go_simp
    intro e D4 hse
    unfold RSeekO at hse
    obtain ⟨s, rfl, hs, hcur2, hf⟩ := hse
    rw [HNL.out] at hs
    have hsr := bool_same hs HR9.out
    subst hsr
    obtain ⟨k2, hk2, hk2N⟩ := place_in hs hkN
    have hcur := HCU.out
    rw [hk2] at hcur hcur2
    replace HCc := Lib.hid hcur
    replace HCc := Lib.hid (HCc.out.other hf hcx2 HQcx.out)
    replace HCd := Lib.hid (HCd.out.other hf hdx2 HQdx.out)
    replace HB := Lib.hid (seek_below HB.out HBx.out hf)
    replace HD := Lib.hid (seek_below HD.out HZx.out hf)
    replace HCx := Lib.hid hcur2
    clear hs hcur hcur2 hf hk2 HR9 HCU hS
    have hS : (fun W : World => W.cell? ⟨g, o + i, none⟩ = some (.int .i64 x6)) D4 := bel_m HB.out HCL.out
    have bq : ∀ s : Bool, (s == s) = true := fun s => by cases s <;> rfl
    refine ⟨_, rfl, ?_⟩
    refine hK _ _ hS ?_
    clear hK
    try simp only [Act.put, zq1, zq2, zq3, zq4, zq5, zq6]
    refine anyY_last (i := 16) (by kernel_rfl) (by kernel_rfl) (by kernel_rfl) rfl rfl ?_
    try simp only [zq1, zq2, zq3]
    go_simp
    try apply_assumption
    clear hS
    go_wp2_with fail
    first | exact ⟨⟨i + 1, k2, y4, by go_num, by omega, hk2N, HCc, HCd, HCx, HD, HB⟩, by simp [intOf]; omega⟩ | exact ⟨⟨i + 1, by go_num, by omega, k2, hk2N, HCc, y4, HCd, HCx⟩, by simp [intOf]; omega⟩ | exact ⟨⟨i + 1, by go_num, by omega, k2, hk2N, HCc, ⟨y4, HCd⟩, HCx⟩, by simp [intOf]; omega⟩
   ·have hd : (len6 <= i /\ decide ((i : Int) < (len6 : Int)) = false) \/ (i < len6 /\ 30 <= i /\ decide ((i : Int) < 30) = false) := by simp; omega
    clear hgo hi
    rcases hd with ⟨d1, d2⟩ | ⟨d1, d2, d3⟩
    ·go_wp2_with fail
     clear d1 d2
     obtain ⟨W7, hW7⟩ : ∃ W, W = wr := ⟨_, rfl⟩
     subst hW7
     have hE9 : Hid (EmS W7 V2.heap.size V1.heap.size (.slice A5t m5 k5t) k vals) := Lib.hid (HE7.out.below HD.out)
     have hX9 : Hid (Blk W7 bt 32 #[.slice A0t m0 k0t, .slice A1t m1 k1t, .slice A2t m2 k2t, .slice A3t m3 k3t, .slice A4t m4 k4t, .slice A5t m5 k5t]) := Lib.hid (Blk.below X7.out HD.out X7.out.lt)
     go_loopw [22] (fun vi wr => ∃ j : Nat, vi = .int .i64 (j : Int) /\ j <= k /\ Hid (EmS wr V2.heap.size V1.heap.size (.slice A5t m5 k5t) k vals) /\ Hid (Blk wr bt 32 #[.slice A0t m0 k0t, .slice A1t m1 k1t, .slice A2t m2 k2t, .slice A3t m3 k3t, .slice A4t m4 k4t, .slice A5t m5 k5t]) /\ Hid (CurS wr bc Ac cc L (kk : Int)) /\ Hid (CurS wr bd Ad cd L2 (q : Int)) /\ Hid (RCurS wr bx Ax cx L (kk : Int)) /\ Hid (Below w.heap.size w wr)) (fun vi _ => k - (intOf vi).toNat)
     case atStart => exact ⟨0, rfl, Nat.zero_le _, hE9, hX9, HCc, HCd, HCx, HB⟩
     case round =>
      clear hE9 hX9 HCc HCd HCx HB
      obtain ⟨j, rfl, hj, HE, HX, HCc, HCd, HCx, HB⟩ := hrel
      have j0 : (0 : Int) <= (j : Int) := Int.natCast_nonneg _
      have hmk := HM5K.out
      have c5 := HX.out.cell 5
      simp only [List.getElem?_toArray, List.getElem?_cons_zero, List.getElem?_cons_succ] at c5
      rw [hmk] at c5 le5t
      by_cases hlt : j < k
      ·have j1 : (j : Int) < (k : Int) := by omega
       obtain ⟨g1, cap1, m, g2, cap2, e1, l1, l2, hv, l3, l4, d1, hm2, hm9, hg2B, hg2Z, hst⟩ := HE.out.at_ hlt
       simp only [Value.slice.injEq] at e1
       obtain ⟨e1, -, e2⟩ := e1
       rw [e1] at c5
       clear e1 e2
       obtain ⟨⟨x0, o0⟩, f0, t0⟩ := hst 0 (by decide)
       obtain ⟨⟨x1, o1⟩, f1, -⟩ := hst 1 (by decide)
       obtain ⟨⟨x2, o2⟩, f2, -⟩ := hst 2 (by decide)
       have mp1 : (0 : Int) < (m : Int) := by omega
       have hE1 := HE.out.turn (t0 9)
       obtain ⟨_, _, m', g3, cap3, -, -, -, hv3, -, -, -, -, -, -, -, hst3⟩ := hE1.at_ hlt
       rw [hv] at hv3
       simp only [Value.slice.injEq, Option.some.injEq, Addr.mk.injEq, and_true] at hv3
       obtain ⟨rfl, rfl, rfl⟩ := hv3
       obtain ⟨-, -, t1⟩ := hst3 1 (by decide)
       have hE2 := hE1.turn (t1 9)
       obtain ⟨_, _, m', g3, cap3, -, -, -, hv3, -, -, -, -, -, -, -, hst4⟩ := hE2.at_ hlt
       rw [hv] at hv3
       simp only [Value.slice.injEq, Option.some.injEq, Addr.mk.injEq, and_true] at hv3
       obtain ⟨rfl, rfl, rfl⟩ := hv3
       obtain ⟨-, -, t2⟩ := hst4 2 (by decide)
       have hE3 := hE2.turn (t2 9)
       obtain ⟨WW, hWW⟩ : ∃ W, ((wr.setCell ⟨g2, 0, none⟩ (.int .i64 9)).setCell ⟨g2, 1, none⟩ (.int .i64 9)).setCell ⟨g2, 2, none⟩ (.int .i64 9) = W := ⟨_, rfl⟩
       have hff : Fr (fun q => q = g2) wr WW := by rw [<- hWW]; exact (((Fr.refl (fun q => q = g2) wr).set_ (p := ⟨g2, 0, none⟩) (.inl rfl) _).set_ (p := ⟨g2, 1, none⟩) (.inl rfl) _).set_ (p := ⟨g2, 2, none⟩) (.inl rfl) _
       have hbtg : ¬ bt = g2 := fun e => by
        obtain ⟨cs, _, hc, -⟩ := (t0 9).at_
        have hx := HX.out
        rw [e] at hx
        have hx' : wr.heap[g2]? = _ := hx
        rw [hc] at hx'
        simp at hx'
       rw [hWW] at hE3
       have HE3 := Lib.hid hE3
       have HX3 : Hid (Blk WW bt 32 #[.slice A0t m0 k0t, .slice A1t m1 k1t, .slice A2t m2 k2t, .slice A3t m3 k3t, .slice A4t m4 k4t, .slice A5t m5 k5t]) := Lib.hid (hff.blk HX.out hbtg)
       have HC3 : Hid (CurS WW bc Ac cc L (kk : Int)) := Lib.hid (HCc.out.other hff (fun e => by have h1 := HZc.out; have h2 := hZ; omega) (fun p hp e => by have h1 := HFc.out p hp; have h2 := hZ; omega))
       have HD3 : Hid (CurS WW bd Ad cd L2 (q : Int)) := Lib.hid (HCd.out.other hff (fun e => by have h1 := HZd.out; have h2 := hZ; omega) (fun p hp e => by have h1 := HFd.out p hp; have h2 := hZ; omega))
       have HR3 : Hid (RCurS WW bx Ax cx L (kk : Int)) := Lib.hid (HCx.out.other hff (fun e => by have h1 := HZx.out; have h2 := hZ; omega) (fun p hp e => by have h1 := HFx.out p hp; have h2 := hZ; omega))
       have HB3 : Hid (Below w.heap.size w WW) := Lib.hid (seek_below HB.out (Nat.le_trans hwB hg2B) hff)
       have HWW := Lib.hid hWW
       clear hst hst3 hst4 t0 t1 t2 hE1 hE2 hE3 hff hbtg hWW hv hg2B hg2Z
       go_wp2_with fail
       try rw [HWW.out]
       first | exact ⟨⟨j + 1, by go_num, by omega, HE3, HX3, HC3, HD3, HR3, HB3⟩, by simp [intOf]; omega⟩ | exact ⟨⟨j + 1, by go_num, by omega⟩, by simp [intOf]; omega⟩
      ·have j1 : ¬ (j : Int) < (k : Int) := by omega
       clear HE HX
       go_wp2_with fail
       refine (sat_any HCc.out).mono ?_
       rintro e D3 ⟨rfl, hb⟩
       rw [rowAt_in (by rw [HNL.out]; exact hkN)]
       obtain ⟨⟨p1, p2, p3⟩, hu⟩ : ∃ u, L.getD kk (0, 0, 0) = u := ⟨_, rfl⟩
       rw [hu]
       unfold vcV
       dsimp only
       obtain ⟨b8, hb8⟩ : ∃ b, D3.heap.size = b := ⟨_, rfl⟩
       obtain ⟨D4, hD4⟩ : ∃ W, D3.alloc (.cells #[.int .i64 p1, .int .i64 p2, .int .i64 p3] 51) = W := ⟨_, rfl⟩
       have hb2 : Below D3.heap.size D3 D4 := by rw [<- hD4]; exact (Below.refl _ _).alloc (Nat.le_refl _) _
       have X8 : Hid (Blk D4 b8 51 #[.int .i64 p1, .int .i64 p2, .int .i64 p3]) := Lib.hid (by rw [<- hD4]; exact Blk.newAt _ hb8 _ _)
       replace hb := hb.trans (hb2.mono hb.size)
       replace HCd := Lib.hid (HCd.out.below hb)
       replace HCx := Lib.hid (HCx.out.below hb)
       replace HB := Lib.hid (HB.out.trans (hb.mono HB.out.size))
       have HD4 := Lib.hid hD4; have HB8 := Lib.hid hb8; have HU := Lib.hid hu
       clear hb hb2 hD4 hb8 hu c5
       go_wp2_with fail
       rw [HD4.out]
       try simp only [HB8.out]
       have hat := rat_any HCx.out (by rw [HNL.out]; exact hkN)
       rw [HU.out] at hat
       refine hat.mono ?_
       clear hat
       rintro e D5 ⟨rfl, hb⟩
       unfold vcV
       dsimp only
       have hb2 : Below D5.heap.size D5 (D5.alloc (.cells #[.int .i64 p1, .int .i64 p2, .int .i64 p3] 51)) := (Below.refl _ _).alloc (Nat.le_refl _) _
       replace hb := hb.trans (hb2.mono hb.size)
       have hx8 := Blk.below X8.out hb X8.out.lt
       have hx9 : Blk (D5.alloc (.cells #[.int .i64 p1, .int .i64 p2, .int .i64 p3] 51)) D5.heap.size 51 #[.int .i64 p1, .int .i64 p2, .int .i64 p3] := Blk.new _ _ _
       have x0 := hx8.cell 0; have x1 := hx8.cell 1; have x2 := hx8.cell 2; have y0 := hx9.cell 0; have y1 := hx9.cell 1; have y2 := hx9.cell 2
       simp only [List.getElem?_toArray, List.getElem?_cons_zero, List.getElem?_cons_succ] at x0 x1 x2 y0 y1 y2
       replace HCd := Lib.hid (HCd.out.below hb)
       replace HB := Lib.hid (HB.out.trans (hb.mono HB.out.size))
       have qv := seqVec p1 p2 p3 p1 p2 p3
       rw [sveq_refl] at qv
       clear hb hb2 hx8 hx9 HD4 HB8 HU X8 HCx HCc
       go_wp2_with fail
       refine (slen_any HCd.out).mono ?_
       rintro e w9 ⟨rfl, hw⟩
       subst w9
       rw [HN2.out]
       go_wp2_with fail
       go_ret
       exact ⟨rfl, HB.out⟩
    ·go_wp2_with fail
     clear d1 d2 d3
     obtain ⟨W7, hW7⟩ : ∃ W, W = wr := ⟨_, rfl⟩
     subst hW7
     have hE9 : Hid (EmS W7 V2.heap.size V1.heap.size (.slice A5t m5 k5t) k vals) := Lib.hid (HE7.out.below HD.out)
     have hX9 : Hid (Blk W7 bt 32 #[.slice A0t m0 k0t, .slice A1t m1 k1t, .slice A2t m2 k2t, .slice A3t m3 k3t, .slice A4t m4 k4t, .slice A5t m5 k5t]) := Lib.hid (Blk.below X7.out HD.out X7.out.lt)
     go_loopw [22] (fun vi wr => ∃ j : Nat, vi = .int .i64 (j : Int) /\ j <= k /\ Hid (EmS wr V2.heap.size V1.heap.size (.slice A5t m5 k5t) k vals) /\ Hid (Blk wr bt 32 #[.slice A0t m0 k0t, .slice A1t m1 k1t, .slice A2t m2 k2t, .slice A3t m3 k3t, .slice A4t m4 k4t, .slice A5t m5 k5t]) /\ Hid (CurS wr bc Ac cc L (kk : Int)) /\ Hid (CurS wr bd Ad cd L2 (q : Int)) /\ Hid (RCurS wr bx Ax cx L (kk : Int)) /\ Hid (Below w.heap.size w wr)) (fun vi _ => k - (intOf vi).toNat)
     case atStart => exact ⟨0, rfl, Nat.zero_le _, hE9, hX9, HCc, HCd, HCx, HB⟩
     case round =>
      clear hE9 hX9 HCc HCd HCx HB
      obtain ⟨j, rfl, hj, HE, HX, HCc, HCd, HCx, HB⟩ := hrel
      have j0 : (0 : Int) <= (j : Int) := Int.natCast_nonneg _
      have hmk := HM5K.out
      have c5 := HX.out.cell 5
      simp only [List.getElem?_toArray, List.getElem?_cons_zero, List.getElem?_cons_succ] at c5
      rw [hmk] at c5 le5t
      by_cases hlt : j < k
      ·have j1 : (j : Int) < (k : Int) := by omega
       obtain ⟨g1, cap1, m, g2, cap2, e1, l1, l2, hv, l3, l4, d1, hm2, hm9, hg2B, hg2Z, hst⟩ := HE.out.at_ hlt
       simp only [Value.slice.injEq] at e1
       obtain ⟨e1, -, e2⟩ := e1
       rw [e1] at c5
       clear e1 e2
       obtain ⟨⟨x0, o0⟩, f0, t0⟩ := hst 0 (by decide)
       obtain ⟨⟨x1, o1⟩, f1, -⟩ := hst 1 (by decide)
       obtain ⟨⟨x2, o2⟩, f2, -⟩ := hst 2 (by decide)
       have mp1 : (0 : Int) < (m : Int) := by omega
       have hE1 := HE.out.turn (t0 9)
       obtain ⟨_, _, m', g3, cap3, -, -, -, hv3, -, -, -, -, -, -, -, hst3⟩ := hE1.at_ hlt
       rw [hv] at hv3
       simp only [Value.slice.injEq, Option.some.injEq, Addr.mk.injEq, and_true] at hv3
       obtain ⟨rfl, rfl, rfl⟩ := hv3
       obtain ⟨-, -, t1⟩ := hst3 1 (by decide)
       have hE2 := hE1.turn (t1 9)
       obtain ⟨_, _, m', g3, cap3, -, -, -, hv3, -, -, -, -, -, -, -, hst4⟩ := hE2.at_ hlt
       rw [hv] at hv3
       simp only [Value.slice.injEq, Option.some.injEq, Addr.mk.injEq, and_true] at hv3
       obtain ⟨rfl, rfl, rfl⟩ := hv3
       obtain ⟨-, -, t2⟩ := hst4 2 (by decide)
       have hE3 := hE2.turn (t2 9)
       obtain ⟨WW, hWW⟩ : ∃ W, ((wr.setCell ⟨g2, 0, none⟩ (.int .i64 9)).setCell ⟨g2, 1, none⟩ (.int .i64 9)).setCell ⟨g2, 2, none⟩ (.int .i64 9) = W := ⟨_, rfl⟩
       have hff : Fr (fun q => q = g2) wr WW := by rw [<- hWW]; exact (((Fr.refl (fun q => q = g2) wr).set_ (p := ⟨g2, 0, none⟩) (.inl rfl) _).set_ (p := ⟨g2, 1, none⟩) (.inl rfl) _).set_ (p := ⟨g2, 2, none⟩) (.inl rfl) _
       have hbtg : ¬ bt = g2 := fun e => by
        obtain ⟨cs, _, hc, -⟩ := (t0 9).at_
        have hx := HX.out
        rw [e] at hx
        have hx' : wr.heap[g2]? = _ := hx
        rw [hc] at hx'
        simp at hx'
       rw [hWW] at hE3
       have HE3 := Lib.hid hE3
       have HX3 : Hid (Blk WW bt 32 #[.slice A0t m0 k0t, .slice A1t m1 k1t, .slice A2t m2 k2t, .slice A3t m3 k3t, .slice A4t m4 k4t, .slice A5t m5 k5t]) := Lib.hid (hff.blk HX.out hbtg)
       have HC3 : Hid (CurS WW bc Ac cc L (kk : Int)) := Lib.hid (HCc.out.other hff (fun e => by have h1 := HZc.out; have h2 := hZ; omega) (fun p hp e => by have h1 := HFc.out p hp; have h2 := hZ; omega))
       have HD3 : Hid (CurS WW bd Ad cd L2 (q : Int)) := Lib.hid (HCd.out.other hff (fun e => by have h1 := HZd.out; have h2 := hZ; omega) (fun p hp e => by have h1 := HFd.out p hp; have h2 := hZ; omega))
       have HR3 : Hid (RCurS WW bx Ax cx L (kk : Int)) := Lib.hid (HCx.out.other hff (fun e => by have h1 := HZx.out; have h2 := hZ; omega) (fun p hp e => by have h1 := HFx.out p hp; have h2 := hZ; omega))
       have HB3 : Hid (Below w.heap.size w WW) := Lib.hid (seek_below HB.out (Nat.le_trans hwB hg2B) hff)
       have HWW := Lib.hid hWW
       clear hst hst3 hst4 t0 t1 t2 hE1 hE2 hE3 hff hbtg hWW hv hg2B hg2Z
       go_wp2_with fail
       try rw [HWW.out]
       first | exact ⟨⟨j + 1, by go_num, by omega, HE3, HX3, HC3, HD3, HR3, HB3⟩, by simp [intOf]; omega⟩ | exact ⟨⟨j + 1, by go_num, by omega⟩, by simp [intOf]; omega⟩
      ·have j1 : ¬ (j : Int) < (k : Int) := by omega
       clear HE HX
       go_wp2_with fail
       refine (sat_any HCc.out).mono ?_
       rintro e D3 ⟨rfl, hb⟩
       rw [rowAt_in (by rw [HNL.out]; exact hkN)]
       obtain ⟨⟨p1, p2, p3⟩, hu⟩ : ∃ u, L.getD kk (0, 0, 0) = u := ⟨_, rfl⟩
       rw [hu]
       unfold vcV
       dsimp only
       obtain ⟨b8, hb8⟩ : ∃ b, D3.heap.size = b := ⟨_, rfl⟩
       obtain ⟨D4, hD4⟩ : ∃ W, D3.alloc (.cells #[.int .i64 p1, .int .i64 p2, .int .i64 p3] 51) = W := ⟨_, rfl⟩
       have hb2 : Below D3.heap.size D3 D4 := by rw [<- hD4]; exact (Below.refl _ _).alloc (Nat.le_refl _) _
       have X8 : Hid (Blk D4 b8 51 #[.int .i64 p1, .int .i64 p2, .int .i64 p3]) := Lib.hid (by rw [<- hD4]; exact Blk.newAt _ hb8 _ _)
       replace hb := hb.trans (hb2.mono hb.size)
       replace HCd := Lib.hid (HCd.out.below hb)
       replace HCx := Lib.hid (HCx.out.below hb)
       replace HB := Lib.hid (HB.out.trans (hb.mono HB.out.size))
       have HD4 := Lib.hid hD4; have HB8 := Lib.hid hb8; have HU := Lib.hid hu
       clear hb hb2 hD4 hb8 hu c5
       go_wp2_with fail
       rw [HD4.out]
       try simp only [HB8.out]
       have hat := rat_any HCx.out (by rw [HNL.out]; exact hkN)
       rw [HU.out] at hat
       refine hat.mono ?_
       clear hat
       rintro e D5 ⟨rfl, hb⟩
       unfold vcV
       dsimp only
       have hb2 : Below D5.heap.size D5 (D5.alloc (.cells #[.int .i64 p1, .int .i64 p2, .int .i64 p3] 51)) := (Below.refl _ _).alloc (Nat.le_refl _) _
       replace hb := hb.trans (hb2.mono hb.size)
       have hx8 := Blk.below X8.out hb X8.out.lt
       have hx9 : Blk (D5.alloc (.cells #[.int .i64 p1, .int .i64 p2, .int .i64 p3] 51)) D5.heap.size 51 #[.int .i64 p1, .int .i64 p2, .int .i64 p3] := Blk.new _ _ _
       have x0 := hx8.cell 0; have x1 := hx8.cell 1; have x2 := hx8.cell 2; have y0 := hx9.cell 0; have y1 := hx9.cell 1; have y2 := hx9.cell 2
       simp only [List.getElem?_toArray, List.getElem?_cons_zero, List.getElem?_cons_succ] at x0 x1 x2 y0 y1 y2
       replace HCd := Lib.hid (HCd.out.below hb)
       replace HB := Lib.hid (HB.out.trans (hb.mono HB.out.size))
       have qv := seqVec p1 p2 p3 p1 p2 p3
       rw [sveq_refl] at qv
       clear hb hb2 hx8 hx9 HD4 HB8 HU X8 HCx HCc
       go_wp2_with fail
       refine (slen_any HCd.out).mono ?_
       rintro e w9 ⟨rfl, hw⟩
       subst w9
       rw [HN2.out]
       go_wp2_with fail
       go_ret
       exact ⟨rfl, HB.out⟩
end Go.Proofs.Ytacgakkcpmhgmaa
