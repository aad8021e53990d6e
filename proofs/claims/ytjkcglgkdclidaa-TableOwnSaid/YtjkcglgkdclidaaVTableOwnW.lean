/- TableOwn: a table is not changed; one that was loaded may be. -/
import Derived.Test.YtjkcglgkdclidaaVTableTb
import Derived.Test.YtjkcglgkdclidaaVTableTa
set_option linter.unusedVariables false
set_option linter.unusedSimpArgs false
set_option maxRecDepth 100000
set_option maxHeartbeats 8000000
namespace Go.Proofs.Ytjkcglgkdclidaa
open Go Go.RowKit Go.Proofs
theorem tableOwn_walk (a0 : Int) (a1 : Int) (a2 : Option Addr) (len2 cap2 : Nat) (z2 : List Int) (a3 : Option Addr) (len3 cap3 : Nat) (z3 : List Int) (a4 : Option Addr) (len4 cap4 : Nat) (z4 : List Int) (w : World) (w0 : (Lit.int .i64 a0).wf = true) (w1 : (Lit.int .i64 a1).wf = true) (w2 : IsRow .i64 w a2 len2 cap2 z2) (w3 : IsRow .i64 w a3 len3 cap3 z3) (w4 : IsRow .i64 w a4 len4 cap4 z4) :
  Calls Try.prog 7 #[.int .i64 a0, .int .i64 a1, .slice a2 len2 cap2, .slice a3 len3 cap3, .slice a4 len4 cap4] w fun e w' => e = .returned (.bool true) /\ Below w.heap.size w w' := by
  have hk := kOf_is a0; have hn := nOf_is a1; have hk9 := kOf_lt a0; have hn9 := nOf_lt a1
  obtain ⟨k, ek⟩ : ∃ k, kOf a0 = k := ⟨_, rfl⟩
  obtain ⟨n, en⟩ : ∃ n, nOf a1 = n := ⟨_, rfl⟩
  rw [ek] at hk hk9
  rw [en] at hn hn9
  clear ek en
  obtain ⟨k0, k9⟩ := hk9
  obtain ⟨n0, n9⟩ := hn9
  have HK := Lib.hid hk; have HN := Lib.hid hn
  have R2 := Lib.hid w2.readsI
  have R3 := Lib.hid w3.readsI
  have R4 := Lib.hid w4.readsI
  clear hk hn w0 w1 w2 w3 w4
  go_enter Try.func7, Try.ntmps7
  go_wp2_with fail
  refine (tknown_any _).mono ?_
  rintro e V1 ⟨rfl, hb⟩
  replace R2 := Lib.hid (R2.out.below hb)
  replace R3 := Lib.hid (R3.out.below hb)
  replace R4 := Lib.hid (R4.out.below hb)
  have HB := Lib.hid hb
  clear hb
  have hrtt := lawTab_right (ns := (z2.take len2)) (ms := (z3.take len3)) (cs := (z4.take len4)) k0 (by omega) n0 (by omega)
  have helt := lawTab_len (ns := (z2.take len2)) (ms := (z3.take len3)) (cs := (z4.take len4)) k0 k9 n0 n9
  obtain ⟨tt, htt⟩ : ∃ t, lawTab (z2.take len2) (z3.take len3) (z4.take len4) k n = t := ⟨_, rfl⟩
  rw [htt] at hrtt helt
  have hlens := hrtt.lens helt
  obtain ⟨m0t, hm0t⟩ : ∃ m, tt.cuts.length = m := ⟨_, rfl⟩
  obtain ⟨m1t, hm1t⟩ : ∃ m, tt.letters.length = m := ⟨_, rfl⟩
  obtain ⟨m2t, hm2t⟩ : ∃ m, tt.bn.length = m := ⟨_, rfl⟩
  obtain ⟨m3t, hm3t⟩ : ∃ m, tt.bo.length = m := ⟨_, rfl⟩
  obtain ⟨m4t, hm4t⟩ : ∃ m, tt.fn.length = m := ⟨_, rfl⟩
  obtain ⟨m5t, hm5t⟩ : ∃ m, tt.fe.length = m := ⟨_, rfl⟩
  rw [hm0t, hm1t, hm2t, hm3t, hm4t, hm5t] at hlens
  obtain ⟨q0t, q1t, q2t, q3t, q4t, q5t⟩ := hlens
  have HRt := Lib.hid hrtt; have HEt := Lib.hid helt; have TEt := Lib.hid htt
  clear hrtt helt htt
  go_wp2_with fail
  refine (make_any R2.out R3.out R4.out a0 a1 HK.out HN.out).mono ?_
  rintro e V2 ⟨vc, vl, vbn, vbo, vfn, vfe, rfl, ht, hb⟩
  rw [TEt.out] at ht
  obtain ⟨A0t, k0t, rfl, -, -, -⟩ := ht.c.form
  obtain ⟨A1t, k1t, rfl, -, -, -⟩ := ht.l.form
  obtain ⟨A2t, k2t, ee, -, -⟩ := ht.bn.form
  subst ee
  obtain ⟨A3t, k3t, rfl, -, -, -⟩ := ht.bo.form
  obtain ⟨A4t, k4t, ee, -, -⟩ := ht.fn.form
  subst ee
  obtain ⟨A5t, k5t, ee, -, -⟩ := ht.fe.form
  subst ee
  rw [hm0t, hm1t, hm2t, hm3t, hm4t, hm5t] at ht ⊢
  replace R2 := Lib.hid (R2.out.below hb)
  replace R3 := Lib.hid (R3.out.below hb)
  replace R4 := Lib.hid (R4.out.below hb)
  have HTt := Lib.hid ht
  clear ht
  replace HB := Lib.hid (HB.out.trans (hb.mono HB.out.size))
  clear hb
  go_wp2_with fail
  refine (make_any R2.out R3.out R4.out a0 a1 HK.out HN.out).mono ?_
  rintro e V3 ⟨vc, vl, vbn, vbo, vfn, vfe, rfl, ht, hb⟩
  rw [TEt.out] at ht
  obtain ⟨A0u, k0u, rfl, -, -, -⟩ := ht.c.form
  obtain ⟨A1u, k1u, rfl, -, -, -⟩ := ht.l.form
  obtain ⟨A2u, k2u, ee, -, -⟩ := ht.bn.form
  subst ee
  obtain ⟨A3u, k3u, rfl, -, -, -⟩ := ht.bo.form
  obtain ⟨A4u, k4u, ee, -, -⟩ := ht.fn.form
  subst ee
  obtain ⟨A5u, k5u, ee, -, -⟩ := ht.fe.form
  subst ee
  rw [hm0t, hm1t, hm2t, hm3t, hm4t, hm5t] at ht ⊢
  replace HTt := Lib.hid (HTt.out.below hb)
  replace R2 := Lib.hid (R2.out.below hb)
  replace R3 := Lib.hid (R3.out.below hb)
  replace R4 := Lib.hid (R4.out.below hb)
  have HTu := Lib.hid ht
  clear ht
  replace HB := Lib.hid (HB.out.trans (hb.mono HB.out.size))
  clear hb
  have HMS : Hid (tt.cuts.length = m0t /\ tt.letters.length = m1t /\ tt.bn.length = m2t /\ tt.bo.length = m3t /\ tt.fn.length = m4t /\ tt.fe.length = m5t) := Lib.hid ⟨hm0t, hm1t, hm2t, hm3t, hm4t, hm5t⟩
  clear hm0t hm1t hm2t hm3t hm4t hm5t
  obtain ⟨bt, hbt⟩ : ∃ b, V3.heap.size = b := ⟨_, rfl⟩
  obtain ⟨W4, hW4⟩ : ∃ W, V3.alloc (.cells #[.slice A0t m0t k0t, .slice A1t m1t k1t, .slice A2t m2t k2t, .slice A3t m3t k3t, .slice A4t m4t k4t, .slice A5t m5t k5t] 31) = W := ⟨_, rfl⟩
  obtain ⟨V4, hV4⟩ : ∃ W, W4.alloc (.cells #[.slice A0u m0t k0u, .slice A1u m1t k1u, .slice A2u m2t k2u, .slice A3u m3t k3u, .slice A4u m4t k4u, .slice A5u m5t k5u] 31) = W := ⟨_, rfl⟩
  have hs1 : W4.heap.size = bt + 1 := by rw [<- hW4, World.size_alloc, hbt]
  have hb0 : Below V3.heap.size V3 W4 := by rw [<- hW4]; exact (Below.refl _ _).alloc (Nat.le_refl _) _
  have hb1 : Below W4.heap.size W4 V4 := by rw [<- hV4]; exact (Below.refl _ _).alloc (Nat.le_refl _) _
  have xt : Blk W4 bt 31 #[.slice A0t m0t k0t, .slice A1t m1t k1t, .slice A2t m2t k2t, .slice A3t m3t k3t, .slice A4t m4t k4t, .slice A5t m5t k5t] := by rw [<- hW4]; exact Blk.newAt _ hbt _ _
  have Xt : Hid (Blk V4 bt 31 #[.slice A0t m0t k0t, .slice A1t m1t k1t, .slice A2t m2t k2t, .slice A3t m3t k3t, .slice A4t m4t k4t, .slice A5t m5t k5t]) := Lib.hid (Blk.below xt hb1 xt.lt)
  have Xu : Hid (Blk V4 (bt + 1) 31 #[.slice A0u m0t k0u, .slice A1u m1t k1u, .slice A2u m2t k2u, .slice A3u m3t k3u, .slice A4u m4t k4u, .slice A5u m5t k5u]) := Lib.hid (by rw [<- hV4]; exact Blk.newAt _ hs1 _ _)
  have hb := hb0.trans (hb1.mono hb0.size)
  replace HTt := Lib.hid (HTt.out.below hb)
  replace HTu := Lib.hid (HTu.out.below hb)
  clear R2 R3 R4
  replace HB := Lib.hid (HB.out.trans (hb.mono HB.out.size))
  clear hb
  have HW4 := Lib.hid hW4; have HV4 := Lib.hid hV4; have HBT := Lib.hid hbt
  clear hW4 hV4 hbt hs1 hb0 hb1 xt
  have c0t := Xt.out.cell 0
  have c1t := Xt.out.cell 1
  have c2t := Xt.out.cell 2
  have c3t := Xt.out.cell 3
  have c4t := Xt.out.cell 4
  have c5t := Xt.out.cell 5
  simp only [List.getElem?_toArray, List.getElem?_cons_zero, List.getElem?_cons_succ] at c0t c1t c2t c3t c4t c5t
  rw [<- HV4.out, <- HW4.out, <- HBT.out] at c0t c1t c2t c3t c4t c5t
  go_wp2_with fail
  rw [HW4.out, HV4.out]
  try simp only [HBT.out]
  clear c0t c1t c2t c3t c4t c5t
  refine (tsave_any HTt.out (fun _ => (Nat.le_trans HEt.out (by decide)))).mono ?_
  rintro e V5 ⟨uu, rfl, hsv, -, hb⟩
  replace HTt := Lib.hid (HTt.out.below hb)
  replace Xt := Lib.hid (Blk.below Xt.out hb Xt.out.lt)
  replace HTu := Lib.hid (HTu.out.below hb)
  replace Xu := Lib.hid (Blk.below Xu.out hb Xu.out.lt)
  have HU := Lib.hid (hsv HRt.out)
  clear hsv HW4 HV4 HBT
  replace HB := Lib.hid (HB.out.trans (hb.mono HB.out.size))
  clear hb
  obtain ⟨A7, c7, e7, -, -⟩ := HU.out.slice
  subst e7
  obtain ⟨n7, hn7⟩ : ∃ n, (saveT tt).length = n := ⟨_, rfl⟩
  have hn79 : n7 <= 8000000 := by rw [<- hn7, saveT_len]; have := HEt.out; omega
  have HBY := Lib.hid (HU.out.bytes (saveT_byte tt))
  rw [hn7] at HU HBY ⊢
  clear hn7
  go_wp2_with fail
  refine (tload_any HBY.out hn79).mono ?_
  rintro e V6 ⟨hld, hb⟩
  obtain ⟨vc, vl, vbn, vbo, vfn, vfe, rfl, hto, -⟩ := load_save hld HRt.out
  clear hld
  have HBL := Lib.hid hb
  obtain ⟨hm0, hm1, hm2, hm3, hm4, hm5⟩ := HMS.out
  obtain ⟨gC, eC, oC⟩ := hto.c
  obtain ⟨gL, eL, oL⟩ := hto.l
  obtain ⟨gN, fN, eN, hgN, xN, oN⟩ := hto.bn
  obtain ⟨gO, eO, oO⟩ := hto.bo
  obtain ⟨gF, fF, eF, hgF, xF, oF⟩ := hto.fn
  obtain ⟨gE, fE, eE, hgE, xE, oE⟩ := hto.fe
  have p0 : 1 <= m0t := by rw [<- hm0]; exact HRt.out.len.1
  have p2 : 1 <= m2t := by rw [<- hm2]; exact HRt.out.back.1
  have p5 : 1 <= m5t := by rw [<- hm5, HRt.out.emits.1]; exact HRt.out.fwd.1
  have hcnt : 0 < cntL tt.letters := cntL_pos HRt.out.lettered (by have := HRt.out.lets; have := HRt.out.len.1; omega)
  have hmx := maxL_le (m := 99999) (by decide) (fun o ho => (HRt.out.outs.2 o ho).2)
  have hr0 : (tt.bn.getD 0 []).length = cntL tt.letters := by
   have hl : 0 < tt.bn.length := by omega
   rw [List.getD_eq_getElem?_getD, List.getElem?_eq_getElem hl]
   exact (HRt.out.back.2.2 _ (List.getElem_mem hl)).1
  have he0 : 1 <= (tt.fe.getD 0 []).length := by
   have hl : 0 < tt.fe.length := by omega
   have := (HRt.out.emits.2 _ (List.getElem_mem hl)).1
   rw [List.getD_eq_getElem?_getD, List.getElem?_eq_getElem hl]
   simp only [Option.getD_some]
   omega
  have oN0 := oN 0 (by omega)
  have oE0 := oE 0 (by omega)
  obtain ⟨gV, fV, eV, hgV, xV, -⟩ := oE0
  rcases oN0.form with ⟨-, e0, -⟩ | ⟨gR, cR, eR, hgR, -, hRc, -⟩
  ·omega
  have hgC : V5.heap.size <= gC := own_ge oC (by rw [eC]; rfl)
  have hfzR := (show Own V6 V5.heap.size (.slice (some ⟨gR, 0, none⟩) (tt.bn.getD 0 []).length cR) (tt.bn.getD 0 []).length (tt.bn.getD 0 []) by rw [<- eR]; exact oN0).frozen 0
  have hfzC := (show Own V6 V5.heap.size (sl gC tt.cuts.length tt.cuts.length) tt.cuts.length tt.cuts by rw [<- eC]; exact oC).frozen 0
  obtain ⟨yR, hcR⟩ : ∃ y, V6.cell? ⟨gR, 0, none⟩ = some y := by
   rw [eR] at oN0
   have h := World.ownsRow.cellAt oN0 0 (by omega)
   have hl : 0 < ((tt.bn.getD 0 []).map (Value.int .i64)).length := by rw [List.length_map]; omega
   rw [List.getElem?_eq_getElem hl] at h
   exact ⟨_, h⟩
  obtain ⟨yC, hcC⟩ : ∃ y, V6.cell? ⟨gC, 0, none⟩ = some y := by
   rw [eC] at oC
   have h := World.ownsRow.cellAt oC 0 (by omega)
   have hl : 0 < (tt.cuts.map (Value.int .i64)).length := by rw [List.length_map]; omega
   rw [List.getElem?_eq_getElem hl] at h
   exact ⟨_, h⟩
  obtain ⟨yV, hcV⟩ : ∃ y, V6.cell? ⟨gV, 0, none⟩ = some y := by
   have h := vcells_at (N := (tt.fe.getD 0 []).length) fV (i := 0) (c := 0) (by omega) (by omega)
   exact ⟨.int .i64 (fV 0).1, (xV.cell 0).trans h⟩
  have hfzV := xV.frozen 0
  have hcN := xN.cell 0
  have hcE := xE.cell 0
  rw [valsA_at (by omega)] at hcN hcE
  rw [eR] at hcN
  rw [eV] at hcE
  obtain ⟨mR, hmR⟩ : ∃ m, (tt.bn.getD 0 []).length = m := ⟨_, rfl⟩
  obtain ⟨mV, hmV⟩ : ∃ m, (tt.fe.getD 0 []).length = m := ⟨_, rfl⟩
  rw [hmR] at hcN hRc hr0
  rw [hmV] at hcE he0
  rw [hm0] at eC
  rw [hm1] at eL
  rw [hm2] at eN
  rw [hm3] at eO
  rw [hm4] at eF
  rw [hm5] at eE
  subst eC eL eN eO eF eE
  have pR : 1 <= mR := by omega
  clear hm0 hm1 hm2 hm3 hm4 hm5 oC oL xN oN oO xF oF xE oE hgF hgN hgE hto hb hcnt hmx hr0 oN0 eR xV eV hmR hmV
  obtain ⟨bx, hbe⟩ : ∃ b, V6.heap.size = b := ⟨_, rfl⟩
  obtain ⟨V7, hW⟩ : ∃ W, V6.alloc (.cells #[sl gC m0t m0t, sl gL m1t m1t, sl gN m2t m2t, sl gO m3t m3t, sl gF m4t m4t, sl gE m5t m5t] 31) = W := ⟨_, rfl⟩
  have hb : Below V6.heap.size V6 V7 := by rw [<- hW]; exact (Below.refl _ _).alloc (Nat.le_refl _) _
  have Xx : Hid (Blk V7 bx 31 #[sl gC m0t m0t, sl gL m1t m1t, sl gN m2t m2t, sl gO m3t m3t, sl gF m4t m4t, sl gE m5t m5t]) := Lib.hid (by rw [<- hW]; exact Blk.newAt _ hbe _ _)
  have ghcR := bel_m hb hcR
  have ghcC := bel_m hb hcC
  have ghcV := bel_m hb hcV
  have ghcN := bel_m hb hcN
  have ghcE := bel_m hb hcE
  have hgl : ∀ {g i : Nat} {y : Value}, V6.cell? ⟨g, i, none⟩ = some y -> V6.frozen? ⟨g, i, none⟩ = false -> V7.frozen? ⟨g, i, none⟩ = false := fun {g i y} hc hf => by rw [<- hf]; exact World.frozen?_of_block (hb.block g (World.block_lt_of_cell? V6 _ hc))
  have gfR := hgl hcR hfzR; have gfC := hgl hcC hfzC; have gfV := hgl hcV hfzV
  replace HBL := Lib.hid (HBL.out.trans (hb.mono HBL.out.size))
  have nRbx : ¬ gR = bx := by have := World.block_lt_of_cell? V6 _ hcR; have : gR < V6.heap.size := this; omega
  have nCbx : ¬ gC = bx := by have := World.block_lt_of_cell? V6 _ hcC; have : gC < V6.heap.size := this; omega
  have nVbx : ¬ gV = bx := by have := World.block_lt_of_cell? V6 _ hcV; have : gV < V6.heap.size := this; omega
  have HWx := Lib.hid hW; have HBEx := Lib.hid hbe
  clear hcR hcC hcV hcN hcE hfzR hfzC hfzV hgl hb hW hbe
  have d0 := Xx.out.cell 0; have d2 := Xx.out.cell 2; have d5 := Xx.out.cell 5
  simp only [List.getElem?_toArray, List.getElem?_cons_zero, List.getElem?_cons_succ] at d0 d2 d5
  have w0n : 0 < m0t := by omega
  have w2n : 0 < m2t := by omega
  have w5n : 0 < m5t := by omega
  have wRn : 0 < mR := by omega
  have wVn : 0 < mV := by omega
  have z0 : ¬ (m0t : Int) = 0 := by omega
  have z2 : ¬ (m2t : Int) = 0 := by omega
  have z5 : ¬ (m5t : Int) = 0 := by omega
  have zR : ¬ (mR : Int) = 0 := by omega
  have zV : ¬ (mV : Int) = 0 := by omega
  have y0 : ((m0t : Int) == 0) = false := by simpa using z0
  have y2 : ((m2t : Int) == 0) = false := by simpa using z2
  have y5 : ((m5t : Int) == 0) = false := by simpa using z5
  have yR' : ((mR : Int) == 0) = false := by simpa using zR
  have yV' : ((mV : Int) == 0) = false := by simpa using zV
  have o0 : (0 : Int) < (m0t : Int) := by omega
  have o2 : (0 : Int) < (m2t : Int) := by omega
  have o5 : (0 : Int) < (m5t : Int) := by omega
  have oR : (0 : Int) < (mR : Int) := by omega
  have oV : (0 : Int) < (mV : Int) := by omega
  rw [<- HWx.out] at d0 d2 d5 ghcN ghcE
  rw [<- HBEx.out] at d0 d2 d5
  go_wp2_with fail
  rw [HWx.out]
  try simp only [HBEx.out]
  rw [HWx.out, HBEx.out] at d0 d2 d5
  rw [HWx.out] at ghcN ghcE
  refine region_y 13 (fun W : World => W.cell? ⟨bx, 0, none⟩ = some (sl gC m0t m0t) /\ W.cell? ⟨bx, 2, none⟩ = some (sl gN m2t m2t) /\ W.cell? ⟨bx, 5, none⟩ = some (sl gE m5t m5t) /\ W.cell? ⟨gE, 0, none⟩ = some (sl gV mV mV) /\ W.cell? ⟨gN, 0, none⟩ = some (.slice (some ⟨gR, 0, none⟩) mR cR)) (by kernel_rfl) ?_
  have hd : Below V7.heap.size V7 V7.drew := (Below.refl _ _).drew
  have hS : (fun W : World => W.cell? ⟨bx, 0, none⟩ = some (sl gC m0t m0t) /\ W.cell? ⟨bx, 2, none⟩ = some (sl gN m2t m2t) /\ W.cell? ⟨bx, 5, none⟩ = some (sl gE m5t m5t) /\ W.cell? ⟨gE, 0, none⟩ = some (sl gV mV mV) /\ W.cell? ⟨gN, 0, none⟩ = some (.slice (some ⟨gR, 0, none⟩) mR cR)) V7.drew := ⟨d0, d2, d5, ghcE, ghcN⟩
  have e1 : V7.drew.cell? ⟨gC, 0, none⟩ = some yC := ghcC
  have e2 : V7.drew.cell? ⟨gV, 0, none⟩ = some yV := ghcV
  have e3 : V7.drew.cell? ⟨gR, 0, none⟩ = some yR := ghcR
  have f1 : V7.drew.frozen? ⟨gC, 0, none⟩ = false := gfC
  have f2 : V7.drew.frozen? ⟨gV, 0, none⟩ = false := gfV
  have f3 : V7.drew.frozen? ⟨gR, 0, none⟩ = false := gfR
  replace HBL : Hid (Below V5.heap.size V5 V7.drew) := Lib.hid (HBL.out.trans (hd.mono HBL.out.size))
  clear hd d0 d2 d5 ghcE ghcN ghcC ghcV ghcR gfC gfV gfR
  generalize V7.drew = V8 at *
  refine tky (i := 0) (v := ?_) hS ?_ ?_
  rotate_left
  ·rintro w' ⟨s0', s1', s2', s3', s4'⟩
   go_simp
   try with_reducible rfl
  try simp only [Act.put, zq1, zq2, zq3, zq4, zq5, zq6]
  refine tky (i := 1) (v := ?_) hS ?_ ?_
  rotate_left
  ·rintro w' ⟨s0', s1', s2', s3', s4'⟩
   go_simp
   try with_reducible rfl
  try simp only [Act.put, zq1, zq2, zq3, zq4, zq5, zq6]
  refine tkyg [6, 5, 4, 3] (i := 2) (v := ?_) hS ?_ ?_
  rotate_left
  ·rintro w' ⟨s0', s1', s2', s3', s4'⟩
   go_simp
   try with_reducible rfl
  try simp only [Act.put, zq1, zq2, zq3, zq4, zq5, zq6]
  refine tkyg [6, 5, 4] (i := 3) (v := ?_) hS ?_ ?_
  rotate_left
  ·rintro w' ⟨s0', s1', s2', s3', s4'⟩
   go_simp
   try with_reducible rfl
  try simp only [Act.put, zq1, zq2, zq3, zq4, zq5, zq6]
  refine tkyg [6, 5] (i := 4) (v := ?_) hS ?_ ?_
  rotate_left
  ·rintro w' ⟨s0', s1', s2', s3', s4'⟩
   go_simp
   try with_reducible rfl
  try simp only [Act.put, zq1, zq2, zq3, zq4, zq5, zq6]
  refine tkyg [6] (i := 5) (v := ?_) hS ?_ ?_
  rotate_left
  ·rintro w' ⟨s0', s1', s2', s3', s4'⟩
   go_simp
   try with_reducible rfl
  try simp only [Act.put, zq1, zq2, zq3, zq4, zq5, zq6]
  refine tky (i := 6) (v := ?_) hS ?_ ?_
  rotate_left
  ·rintro w' ⟨s0', s1', s2', s3', s4'⟩
   go_simp
   try with_reducible rfl
  try simp only [Act.put, zq1, zq2, zq3, zq4, zq5, zq6]
  refine tkyg [11, 10, 9, 8] (i := 7) (v := ?_) hS ?_ ?_
  rotate_left
  ·rintro w' ⟨s0', s1', s2', s3', s4'⟩
   go_simp
   try with_reducible rfl
  try simp only [Act.put, zq1, zq2, zq3, zq4, zq5, zq6]
  refine tkyg [11, 10, 9] (i := 8) (v := ?_) hS ?_ ?_
  rotate_left
  ·rintro w' ⟨s0', s1', s2', s3', s4'⟩
   go_simp
   try with_reducible rfl
  try simp only [Act.put, zq1, zq2, zq3, zq4, zq5, zq6]
  refine tkyg [11, 10] (i := 9) (v := ?_) hS ?_ ?_
  rotate_left
  ·rintro w' ⟨s0', s1', s2', s3', s4'⟩
   go_simp
   try with_reducible rfl
  try simp only [Act.put, zq1, zq2, zq3, zq4, zq5, zq6]
  refine tkyg [11] (i := 10) (v := ?_) hS ?_ ?_
  rotate_left
  ·rintro w' ⟨s0', s1', s2', s3', s4'⟩
   go_simp
   try with_reducible rfl
  try simp only [Act.put, zq1, zq2, zq3, zq4, zq5, zq6]
  refine tky (i := 11) (v := ?_) hS ?_ ?_
  rotate_left
  ·rintro w' ⟨s0', s1', s2', s3', s4'⟩
   go_simp
   try with_reducible rfl
  try simp only [Act.put, zq1, zq2, zq3, zq4, zq5, zq6]
  refine tky (i := 12) (v := ?_) hS ?_ ?_
  rotate_left
  ·rintro w' ⟨s0', s1', s2', s3', s4'⟩
   go_simp
   try with_reducible rfl
  try simp only [Act.put, zq1, zq2, zq3, zq4, zq5, zq6]
  refine tky0 (i := 14) (v := ?_) hS ?_ ?_
  rotate_left
  ·rintro w' -
   go_simp
   try with_reducible rfl
  try simp only [Act.put, zq1, zq2, zq3, zq4, zq5, zq6]
  clear hS
  refine anyY_h (i := 13) (by kernel_rfl) (by kernel_rfl) rfl rfl ?_
  intro K hK
  try simp only [zq1, zq2, zq3]
  go_simp
  obtain ⟨V9, hV9⟩ : ∃ W, V8.setCell ⟨gC, 0, none⟩ (.int .i64 77) = W := ⟨_, rfl⟩
  rw [hV9]
  obtain ⟨yV2, e2'⟩ := cell?_setCell_some (p := ⟨gC, 0, none⟩) (x := .int .i64 77) e2
  obtain ⟨yR2, e3'⟩ := cell?_setCell_some (p := ⟨gC, 0, none⟩) (x := .int .i64 77) e3
  have f2' : (V8.setCell ⟨gC, 0, none⟩ (.int .i64 77)).frozen? ⟨gV, 0, none⟩ = false := by rw [World.frozen?_setCell]; exact f2
  have f3' : (V8.setCell ⟨gC, 0, none⟩ (.int .i64 77)).frozen? ⟨gR, 0, none⟩ = false := by rw [World.frozen?_setCell]; exact f3
  rw [hV9] at e2' e3' f2' f3'
  replace HBL : Hid (Below V5.heap.size V5 V9) := Lib.hid (by rw [<- hV9]; exact HBL.out.setCell (p := ⟨gC, 0, none⟩) hgC _)
  clear hV9 e1 e2 e3 f1 f2 f3
  refine hK _ _ ?_
  clear hK
  try simp only [Act.put, zq1, zq2, zq3, zq4, zq5, zq6]
  refine anyY_h (i := 15) (by kernel_rfl) (by kernel_rfl) rfl rfl ?_
  intro K hK
  try simp only [zq1, zq2, zq3]
  go_simp
  refine hK _ _ ?_
  clear hK
  try simp only [Act.put, zq1, zq2, zq3, zq4, zq5, zq6]
  refine anyY_h (i := 16) (by kernel_rfl) (by kernel_rfl) rfl rfl ?_
  intro K hK
  try simp only [zq1, zq2, zq3]
  go_simp
  obtain ⟨V10, hV9⟩ : ∃ W, V9.setCell ⟨gV, 0, none⟩ (.int .i64 77) = W := ⟨_, rfl⟩
  rw [hV9]
  obtain ⟨yR3, e3⟩ := cell?_setCell_some (p := ⟨gV, 0, none⟩) (x := .int .i64 77) e3'
  have f3 : (V9.setCell ⟨gV, 0, none⟩ (.int .i64 77)).frozen? ⟨gR, 0, none⟩ = false := by rw [World.frozen?_setCell]; exact f3'
  rw [hV9] at e3 f3
  replace HBL : Hid (Below V5.heap.size V5 V10) := Lib.hid (by rw [<- hV9]; exact HBL.out.setCell (p := ⟨gV, 0, none⟩) hgV _)
  clear hV9 e2' e3' f2' f3'
  refine hK _ _ ?_
  clear hK
  try simp only [Act.put, zq1, zq2, zq3, zq4, zq5, zq6]
  have HBL2 : Hid (Below V5.heap.size V5 (V10.setCell ⟨gR, 0, none⟩ (.int .i64 77))) := Lib.hid (HBL.out.setCell (p := ⟨gR, 0, none⟩) hgR _)
  obtain ⟨V11, hV11⟩ : ∃ W, V10.setCell ⟨gR, 0, none⟩ (.int .i64 77) = W := ⟨_, rfl⟩
  have HV11 := Lib.hid hV11
  rw [hV11] at HBL2
  clear hV11
  refine anyY_h (i := 17) (by kernel_rfl) (by kernel_rfl) rfl rfl ?_
  intro K hK
  try simp only [zq1, zq2, zq3]
  go_simp
  refine hK _ _ ?_
  clear hK
  try simp only [Act.put, zq1, zq2, zq3, zq4, zq5, zq6]
  refine anyY_last (i := 18) (by kernel_rfl) (by kernel_rfl) (by kernel_rfl) rfl rfl ?_
  try simp only [zq1, zq2, zq3]
  go_simp
  try apply_assumption
  clear e3 f3
  go_wp2_with fail
  rw [HV11.out]
  have hb := HBL2.out
  replace HTt := Lib.hid (HTt.out.below hb)
  replace HTu := Lib.hid (HTu.out.below hb)
  replace Xt := Lib.hid (Blk.below Xt.out hb Xt.out.lt)
  replace Xu := Lib.hid (Blk.below Xu.out hb Xu.out.lt)
  replace HU := Lib.hid (HU.out.below hb)
  replace HBY := Lib.hid (HBY.out.below hb)
  replace HB := Lib.hid (HB.out.trans (hb.mono HB.out.size))
  clear hb
  refine (tload_any HBY.out hn79).mono ?_
  rintro e V12 ⟨hld, hb⟩
  obtain ⟨vc, vl, vbn, vbo, vfn, vfe, rfl, hto, htr⟩ := load_save hld HRt.out
  clear hld
  replace HTt := Lib.hid (HTt.out.below hb)
  replace Xt := Lib.hid (Blk.below Xt.out hb Xt.out.lt)
  replace HTu := Lib.hid (HTu.out.below hb)
  replace Xu := Lib.hid (Blk.below Xu.out hb Xu.out.lt)
  replace HU := Lib.hid (HU.out.below hb)
  replace HBY := Lib.hid (HBY.out.below hb)
  replace HB := Lib.hid (HB.out.trans (hb.mono HB.out.size))
  clear hb
  obtain ⟨A0v, k0v, rfl, -, -, -⟩ := htr.c.form
  obtain ⟨A1v, k1v, rfl, -, -, -⟩ := htr.l.form
  obtain ⟨A2v, k2v, ee, -, -⟩ := htr.bn.form
  subst ee
  obtain ⟨A3v, k3v, rfl, -, -, -⟩ := htr.bo.form
  obtain ⟨A4v, k4v, ee, -, -⟩ := htr.fn.form
  subst ee
  obtain ⟨A5v, k5v, ee, -, -⟩ := htr.fe.form
  subst ee
  obtain ⟨m0v, hm0v⟩ : ∃ m, tt.cuts.length = m := ⟨_, rfl⟩
  obtain ⟨m1v, hm1v⟩ : ∃ m, tt.letters.length = m := ⟨_, rfl⟩
  obtain ⟨m2v, hm2v⟩ : ∃ m, tt.bn.length = m := ⟨_, rfl⟩
  obtain ⟨m3v, hm3v⟩ : ∃ m, tt.bo.length = m := ⟨_, rfl⟩
  obtain ⟨m4v, hm4v⟩ : ∃ m, tt.fn.length = m := ⟨_, rfl⟩
  obtain ⟨m5v, hm5v⟩ : ∃ m, tt.fe.length = m := ⟨_, rfl⟩
  rw [hm0v, hm1v, hm2v, hm3v, hm4v, hm5v] at htr hto
  rw [hm0v, hm1v, hm2v, hm3v, hm4v, hm5v]
  have HM0v := Lib.hid hm0v
  have HM1v := Lib.hid hm1v
  have HM2v := Lib.hid hm2v
  have HM3v := Lib.hid hm3v
  have HM4v := Lib.hid hm4v
  have HM5v := Lib.hid hm5v
  obtain ⟨bv, hbe⟩ : ∃ b, V12.heap.size = b := ⟨_, rfl⟩
  obtain ⟨V13, hW⟩ : ∃ W, V12.alloc (.cells #[.slice A0v m0v k0v, .slice A1v m1v k1v, .slice A2v m2v k2v, .slice A3v m3v k3v, .slice A4v m4v k4v, .slice A5v m5v k5v] 31) = W := ⟨_, rfl⟩
  have hb : Below V12.heap.size V12 V13 := by rw [<- hW]; exact (Below.refl _ _).alloc (Nat.le_refl _) _
  have Xv : Hid (Blk V13 bv 31 #[.slice A0v m0v k0v, .slice A1v m1v k1v, .slice A2v m2v k2v, .slice A3v m3v k3v, .slice A4v m4v k4v, .slice A5v m5v k5v]) := Lib.hid (by rw [<- hW]; exact Blk.newAt _ hbe _ _)
  replace HTt := Lib.hid (HTt.out.below hb)
  replace Xt := Lib.hid (Blk.below Xt.out hb Xt.out.lt)
  replace HTu := Lib.hid (HTu.out.below hb)
  replace Xu := Lib.hid (Blk.below Xu.out hb Xu.out.lt)
  replace HU := Lib.hid (HU.out.below hb)
  replace HBY := Lib.hid (HBY.out.below hb)
  have HTv := Lib.hid (htr.below hb)
  have HTOv := Lib.hid (hto.below hb)
  replace HB := Lib.hid (HB.out.trans (hb.mono HB.out.size))
  have HWv := Lib.hid hW; have HBEv := Lib.hid hbe
  clear htr hto hW hb hbe hm0v hm1v hm2v hm3v hm4v hm5v
  obtain ⟨hm0, hm1, hm2, hm3, hm4, hm5⟩ := HMS.out
  rw [hm0] at HM0v; rw [hm1] at HM1v; rw [hm2] at HM2v; rw [hm3] at HM3v; rw [hm4] at HM4v; rw [hm5] at HM5v
  obtain rfl := HM0v.out
  obtain rfl := HM1v.out
  obtain rfl := HM2v.out
  obtain rfl := HM3v.out
  obtain rfl := HM4v.out
  obtain rfl := HM5v.out
  clear hm0 hm1 hm2 hm3 hm4 hm5
  have d0v := Xv.out.cell 0
  have d1v := Xv.out.cell 1
  have d2v := Xv.out.cell 2
  have d3v := Xv.out.cell 3
  have d4v := Xv.out.cell 4
  have d5v := Xv.out.cell 5
  simp only [List.getElem?_toArray, List.getElem?_cons_zero, List.getElem?_cons_succ] at d0v d1v d2v d3v d4v d5v
  have c0u := Xu.out.cell 0
  have c1u := Xu.out.cell 1
  have c2u := Xu.out.cell 2
  have c3u := Xu.out.cell 3
  have c4u := Xu.out.cell 4
  have c5u := Xu.out.cell 5
  simp only [List.getElem?_toArray, List.getElem?_cons_zero, List.getElem?_cons_succ] at c0u c1u c2u c3u c4u c5u
  have g0t := Xt.out.cell 0
  have g1t := Xt.out.cell 1
  have g2t := Xt.out.cell 2
  have g3t := Xt.out.cell 3
  have g4t := Xt.out.cell 4
  have g5t := Xt.out.cell 5
  simp only [List.getElem?_toArray, List.getElem?_cons_zero, List.getElem?_cons_succ] at g0t g1t g2t g3t g4t g5t
  rw [<- HWv.out, <- HBEv.out] at d0v d1v d2v d3v d4v d5v
  rw [<- HWv.out] at c0u c1u c2u c3u c4u c5u g0t g1t g2t g3t g4t g5t
  go_wp2_with fail
  rw [HWv.out]
  try simp only [HBEv.out]
  clear d0v c0u g0t d1v c1u g1t d2v c2u g2t d3v c3u g3t d4v c4u g4t d5v c5u g5t
  refine (rsame_any HTv.out HTu.out HRt.out.intsT HRt.out.intsT (Nat.le_trans HEt.out (by decide)) (Nat.le_trans HEt.out (by decide)) (r := true) ⟨fun _ => rfl, fun _ => rfl⟩).mono ?_
  rintro e V14 ⟨rfl, hb⟩
  replace HTt := Lib.hid (HTt.out.below hb)
  replace Xt := Lib.hid (Blk.below Xt.out hb Xt.out.lt)
  replace HTu := Lib.hid (HTu.out.below hb)
  replace Xu := Lib.hid (Blk.below Xu.out hb Xu.out.lt)
  replace HB := Lib.hid (HB.out.trans (hb.mono HB.out.size))
  clear hb
  have c0u := Xu.out.cell 0
  have c1u := Xu.out.cell 1
  have c2u := Xu.out.cell 2
  have c3u := Xu.out.cell 3
  have c4u := Xu.out.cell 4
  have c5u := Xu.out.cell 5
  simp only [List.getElem?_toArray, List.getElem?_cons_zero, List.getElem?_cons_succ] at c0u c1u c2u c3u c4u c5u
  have g0t := Xt.out.cell 0
  have g1t := Xt.out.cell 1
  have g2t := Xt.out.cell 2
  have g3t := Xt.out.cell 3
  have g4t := Xt.out.cell 4
  have g5t := Xt.out.cell 5
  simp only [List.getElem?_toArray, List.getElem?_cons_zero, List.getElem?_cons_succ] at g0t g1t g2t g3t g4t g5t
  go_wp2_with fail
  refine (rsame_any HTt.out HTu.out HRt.out.intsT HRt.out.intsT (Nat.le_trans HEt.out (by decide)) (Nat.le_trans HEt.out (by decide)) (r := true) ⟨fun _ => rfl, fun _ => rfl⟩).mono ?_
  rintro e V15 ⟨rfl, hb⟩
  replace HB := Lib.hid (HB.out.trans (hb.mono HB.out.size))
  clear hb
  go_wp2_with fail
  go_ret
  exact ⟨rfl, HB.out⟩
end Go.Proofs.Ytjkcglgkdclidaa
