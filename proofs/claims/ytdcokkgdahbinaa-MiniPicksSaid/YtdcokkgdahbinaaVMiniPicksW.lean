/- MiniPicks -/
import Derived.Test.YtdcokkgdahbinaaVMiniMa
import Derived.Test.YtdcokkgdahbinaaVMiniMj
set_option linter.unusedVariables false
set_option linter.unusedSimpArgs false
set_option maxRecDepth 100000
set_option maxHeartbeats 8000000
namespace Go.Proofs.Ytdcokkgdahbinaa
open Go Go.RowKit Go.Proofs
def modL (z : Int) (l : List Int) (i : Nat) : List Nat := (List.range i).map fun j => (l.getD j 0 % z).toNat
theorem modL_len (z : Int) (l : List Int) (i : Nat) : (modL z l i).length = i := by simp [modL]
theorem modL_succ (z : Int) (l : List Int) (i : Nat) : modL z l (i + 1) = modL z l i ++ [(l.getD i 0 % z).toNat] := by unfold modL; rw [List.range_succ, List.map_append]; rfl
theorem modL_two (l : List Int) (i : Nat) : ∀ a ∈ modL 2 l i, a < 2 := by
 intro a ha
 obtain ⟨j, -, rfl⟩ := List.mem_map.1 ha
 omega
def pickE (E : List (List V3)) (ls : List Nat) (n : Nat) : List (List V3) := (List.range n).map fun i => ls.map fun a => (E.getD i []).getD a zV
theorem pickE_len (E : List (List V3)) (ls : List Nat) (n : Nat) : (pickE E ls n).length = n := by simp [pickE]
theorem xssK_at (E : List (List V3)) {ls : List Nat} {l n i : Nat} (hl : ls.length = l) (h : i < n) : (xssK E ls l n).getD i (0, []) = (((pickE E ls n).getD i []).length, ((pickE E ls n).getD i []).flatMap encV) := by
 have e1 : (xssK E ls l n).getD i (0, []) = (l, (ls.map fun a => (E.getD i []).getD a zV).flatMap encV) := by simp [xssK, List.getD_eq_getElem?_getD, h]
 have e2 : (pickE E ls n).getD i [] = ls.map fun a => (E.getD i []).getD a zV := by simp [pickE, List.getD_eq_getElem?_getD, h]
 rw [e1, e2, List.length_map, hl]
theorem miniPicks_walk (a0 : Int) (a1 : Int) (a2 : Option Addr) (len2 cap2 : Nat) (z2 : List Int) (a3 : Option Addr) (len3 cap3 : Nat) (z3 : List Int) (w : World) (w0 : (Lit.int .i64 a0).wf = true) (w1 : (Lit.int .i64 a1).wf = true) (w2 : IsRow .i64 w a2 len2 cap2 z2) (w3 : IsRow .i64 w a3 len3 cap3 z3) :
  Calls Try.prog 7 #[.int .i64 a0, .int .i64 a1, .slice a2 len2 cap2, .slice a3 len3 cap3] w fun e w' => e = .returned (.bool true) /\ Below w.heap.size w w' := by
  have hk := kOf_is a0; have hn := nOf_is a1; have hk9 := kOf_lt a0; have hn9 := nOf_lt a1
  obtain ⟨k, ek⟩ : ∃ k, kOf a0 = k := ⟨_, rfl⟩
  obtain ⟨n, en⟩ : ∃ n, nOf a1 = n := ⟨_, rfl⟩
  rw [ek] at hk hk9
  rw [en] at hn hn9
  clear ek en
  obtain ⟨k0, k9⟩ := hk9
  obtain ⟨n0, n9⟩ := hn9
  have hT := law_rect (z2.take len2) (k := k) (n := n) k0
  have hTl := lawT_len (z2.take len2) k n
  have hOl := lawO_len (z2.take len2) k n
  have hO2 := lawO_lt (z2.take len2) k n
  obtain ⟨T, eT⟩ : ∃ T, lawT (z2.take len2) k n = T := ⟨_, rfl⟩
  obtain ⟨O, eO⟩ : ∃ O, lawO (z2.take len2) k n = O := ⟨_, rfl⟩
  rw [eT] at hT hTl
  rw [eO] at hOl hO2
  have RI := Lib.hid w2.readsI
  have HK := Lib.hid hk; have HN := Lib.hid hn; have HT := Lib.hid hT; have HTL := Lib.hid hTl; have HOL := Lib.hid hOl; have HO2 := Lib.hid hO2; have ET := Lib.hid eT; have EO := Lib.hid eO
  have RS := Lib.hid w3.readsI
  clear hk hn hT hTl hOl hO2 eT eO w0 w1 w2 w3
  have hE2 : ∀ i, i < k -> ((lawEs O).getD i []).length = 2 := fun i hi => lawE_two HOL.out hi
  have hEl : (lawEs O).length = k := by rw [lawEs_len, HOL.out]
  obtain ⟨E, eE⟩ : ∃ E, lawEs O = E := ⟨_, rfl⟩
  rw [eE] at hE2 hEl
  have HE2 := Lib.hid hE2; have HEL := Lib.hid hEl; have EE := Lib.hid eE
  clear hE2 hEl eE
  obtain ⟨SA, sc, e, l9, l10, -⟩ := RS.out.form
  simp only [Value.slice.injEq, true_and] at e
  obtain ⟨rfl, rfl⟩ := e
  go_enter Try.func7, Try.ntmps7
  go_wp2_with fail
  refine (known_any _).mono ?_
  rintro e w1 ⟨rfl, hb⟩
  replace RI := Lib.hid (RI.out.below hb)
  have BB := Lib.hid hb
  replace RS := Lib.hid (RS.out.below hb)
  clear hb
  go_wp2_with fail
  refine (lawF_mach RI.out a0 a1 HK.out HN.out).mono ?_
  rintro e w2 ⟨NF, nf, OF, of, rfl, hN, hO, l1, l2, l3, l4, hb⟩
  have RF := Lib.hid (hN)
  have RFE := Lib.hid (hO)
  replace RI := Lib.hid (RI.out.below hb)
  replace RS := Lib.hid (RS.out.below hb)
  replace BB := Lib.hid (BB.out.trans (hb.mono BB.out.size))
  rw [ET.out] at RF
  rw [EO.out, EE.out] at RFE
  clear hN hO hb
  obtain ⟨b9, hb9⟩ : ∃ b, b = w2.heap.size := ⟨_, rfl⟩
  obtain ⟨V9, hV9⟩ : ∃ V, w2.alloc (.cells #[.slice NF k nf, .slice OF k of] 30) = V := ⟨_, rfl⟩
  have hb' : Below w2.heap.size w2 V9 := by rw [<- hV9]; exact (Below.refl _ _).alloc (Nat.le_refl _) _
  have x' : Blk V9 b9 30 #[.slice NF k nf, .slice OF k of] := by rw [<- hV9, hb9]; exact Blk.new _ _ _
  replace RF := Lib.hid (RF.out.below hb')
  replace RFE := Lib.hid (RFE.out.below hb')
  replace RI := Lib.hid (RI.out.below hb')
  replace RS := Lib.hid (RS.out.below hb')
  replace BB := Lib.hid (BB.out.trans (hb'.mono BB.out.size))
  have Xb9 := Lib.hid x'
  have HV9 := Lib.hid hV9; have Eb9 := Lib.hid hb9
  clear hb' x' hV9 hb9
  have tsl : (z3.take len3).length = len3 := RS.out.1
  obtain ⟨ts, ets⟩ : ∃ ts, z3.take len3 = ts := ⟨_, rfl⟩
  rw [ets] at RS tsl
  have HTSL := Lib.hid tsl
  clear ets tsl
  go_wp2_with fail
  rw [HV9.out, <- Eb9.out]
  go_loopw [10, 11] (fun v10 vi wr => ∃ (i : Nat) (TA : Option Addr) (tc : Nat), vi = .int .i64 (i : Int) /\ i <= len3 /\ i <= 10 /\ v10 = .slice TA i tc /\ Hid (Own wr V9.heap.size (.slice TA i tc) i (intsN (modL 2 ts i))) /\ Hid (Below V9.heap.size V9 wr)) (fun _ vi _ => len3 - (intOf vi).toNat)
  case atStart => exact ⟨0, none, 0, rfl, Nat.zero_le _, Nat.zero_le _, rfl, Lib.hid (Own.nil _ _), Lib.hid (Below.refl _ _)⟩
  case round =>
   obtain ⟨i, TA, tc, rfl, hi, hi4, rfl, HO, HB⟩ := hrel
   have i0 : (0 : Int) <= (i : Int) := Int.natCast_nonneg _
   obtain ⟨_, _, e, q1, q2, -⟩ := HO.out.readsI.form
   simp only [Value.slice.injEq, true_and] at e
   obtain ⟨rfl, rfl⟩ := e
   by_cases hlt : i < len3 /\ i < 10
   ·obtain ⟨hl3, hl4⟩ := hlt
    have i1 : (i : Int) < (len3 : Int) := by omega
    have i2 : (i : Int) < 10 := by omega
    have t1 : decide (i < len3) = true := by simpa using hl3
    have t2 : decide (i < 10) = true := by simpa using hl4
    obtain ⟨g1, o1, e1, -, c1⟩ := (RS.out.below HB.out).at i hl3
    subst e1
    have hsn := modL_succ 2 ts i
    generalize ts.getD i 0 = y at *
    have hye : y % 2 = (((y % 2).toNat : Nat) : Int) := by omega
    generalize (y % 2).toNat = yn at *
    have HSN := Lib.hid hsn; have HYE := Lib.hid hye
    clear hsn hye
    have hbs := HB.out.size
    have hi9 : i <= 1000000000 := by omega
    go_wp2_with fail
    refine (within_any y 2 (by decide) (by decide) _).mono ?_
    rintro e w5 ⟨rfl, hw5⟩
    subst hw5
    rw [HYE.out]
    clear c1
    go_wp2_with (at_builtin; refine wpList_push rfl (.tmp 29) (.tmp 35) rfl V9.heap.size wr (.slice TA i tc) i (intsN (modL 2 ts i)) (yn : Int) (by rfl) HO.out (by rfl) hi9 hbs ?_; intro g9 cap9 w9 hp9; have HP := Lib.hid hp9; clear hp9)
    refine ⟨⟨i + 1, _, _, by go_num, by omega, by omega, rfl, Lib.hid ?_, Lib.hid (HP.out.below HB.out (Nat.le_refl _) hbs)⟩, by simp [intOf]; omega⟩
    rw [HSN.out]
    have e : intsN (modL 2 ts i ++ [yn]) = intsN (modL 2 ts i) ++ [(yn : Int)] := by simp [intsN]
    rw [e]
    exact HP.out.own
   ·have hend : i = len3 \/ i = 10 := by omega
    have HP2 : Hid (∀ a ∈ modL 2 ts i, a < 2) := Lib.hid (modL_two ts i)
    have RP := Lib.hid HO.out.readsI
    have HPL := Lib.hid (modL_len 2 ts i)
    generalize modL 2 ts i = p at *
    obtain ⟨M, rfl⟩ : ∃ M, M = i := ⟨i, rfl⟩
    have t1 : (decide (M < len3) = false) \/ (decide (M < len3) = true /\ decide (M < 10) = false /\ (M : Int) < (len3 : Int) /\ ¬ (M : Int) < 10) := by
     by_cases h : M < len3
     ·exact .inr ⟨by simpa using h, by simp; omega, by omega, by omega⟩
     ·exact .inl (by simpa using h)
    replace RF := Lib.hid (RF.out.below HB.out)
    replace RFE := Lib.hid (RFE.out.below HB.out)
    replace RI := Lib.hid (RI.out.below HB.out)
    replace Xb9 := Lib.hid (Blk.below Xb9.out HB.out Xb9.out.lt)
    replace BB := Lib.hid (BB.out.trans (HB.out.mono BB.out.size))
    clear hend hlt HO HB
    have c90 := Xb9.out.cell 0; have c91 := Xb9.out.cell 1
    simp only [List.getElem?_toArray, List.getElem?_cons_zero, List.getElem?_cons_succ] at c90 c91
    rcases t1 with t1 | ⟨t1, t2, t3, t4⟩
    all_goals
     go_wp2_with fail
     try clear t1
     try clear t2 t3 t4
     clear c90 c91
     refine (pick_any (q := 2) RF.out HTL.out HT.out RFE.out HEL.out HE2.out (by omega) RP.out HP2.out (by omega) (by omega) (by omega)).mono ?_
     rintro e w4 ⟨vn, vo, rfl, hn, ho, hb⟩
     replace RF := Lib.hid (RF.out.below hb)
     replace RFE := Lib.hid (RFE.out.below hb)
     replace RI := Lib.hid (RI.out.below hb)
     replace RP := Lib.hid (RP.out.below hb)
     replace BB := Lib.hid (BB.out.trans (hb.mono BB.out.size))
     have hNg : NextR w4 vn T := hn.nextR HTL.out (fun i hi => xssT_at T hi)
     have hEg : EmitR w4 vo (pickE E p k) := ho.emitR (pickE_len _ _ _) (fun i hi => xssK_at E HPL.out hi)
     obtain ⟨NG, ng, e, l20, l21⟩ := hNg.form
     rw [HTL.out] at e l20
     subst e
     obtain ⟨OG, og, e, l22, l23⟩ := hEg.form
     rw [pickE_len] at e l22
     subst e
     have RG := Lib.hid hNg; have RGE := Lib.hid hEg
     replace Xb9 := Lib.hid (Blk.below Xb9.out hb Xb9.out.lt)
     clear hn ho hb hNg hEg
     obtain ⟨b12, hb12⟩ : ∃ b, b = w4.heap.size := ⟨_, rfl⟩
     obtain ⟨W9, hW9⟩ : ∃ V, w4.alloc (.cells #[.slice NG k ng, .slice OG k og] 30) = V := ⟨_, rfl⟩
     have hb' : Below w4.heap.size w4 W9 := by rw [<- hW9]; exact (Below.refl _ _).alloc (Nat.le_refl _) _
     have x' : Blk W9 b12 30 #[.slice NG k ng, .slice OG k og] := by rw [<- hW9, hb12]; exact Blk.new _ _ _
     replace RF := Lib.hid (RF.out.below hb')
     replace RFE := Lib.hid (RFE.out.below hb')
     replace RI := Lib.hid (RI.out.below hb')
     replace RP := Lib.hid (RP.out.below hb')
     replace RG := Lib.hid (RG.out.below hb')
     replace RGE := Lib.hid (RGE.out.below hb')
     replace Xb9 := Lib.hid (Blk.below Xb9.out hb' Xb9.out.lt)
     replace BB := Lib.hid (BB.out.trans (hb'.mono BB.out.size))
     have Xb12 := Lib.hid x'
     have HW9 := Lib.hid hW9; have Eb12 := Lib.hid hb12
     clear hb' x' hW9 hb12
     have HKS : Hid (∀ W, Below W9.heap.size W9 W -> (fun W : World => W.cell? ⟨b12, 0, none⟩ = some (.slice NG k ng) /\ W.cell? ⟨b12, 1, none⟩ = some (.slice OG k og) /\ W.cell? ⟨b9, 0, none⟩ = some (.slice NF k nf) /\ W.cell? ⟨b9, 1, none⟩ = some (.slice OF k of)) W) := Lib.hid (fun W hW => ⟨bel_m hW (Xb12.out.cell 0), bel_m hW (Xb12.out.cell 1), bel_m hW (Xb9.out.cell 0), bel_m hW (Xb9.out.cell 1)⟩)
     go_wp2_with fail
     rw [HW9.out, <- Eb12.out]
     have hb : Below W9.heap.size W9 W9.drew := (Below.refl _ _).drew
     have hS := HKS.out _ hb
     refine region_x 13 (fun W : World => W.cell? ⟨b12, 0, none⟩ = some (.slice NG k ng) /\ W.cell? ⟨b12, 1, none⟩ = some (.slice OG k og) /\ W.cell? ⟨b9, 0, none⟩ = some (.slice NF k nf) /\ W.cell? ⟨b9, 1, none⟩ = some (.slice OF k of)) (by kernel_rfl) ?_
     generalize W9.drew = V0 at *
     refine tkx (i := 0) (v := ?_) hS ?_ ?_
     rotate_left
     ·rintro w' ⟨s0', s1', s2', s3'⟩
      go_simp
      try with_reducible rfl
     try simp only [Act.put, zq1, zq2, zq3, zq4, zq5, zq6]
     refine tkx (i := 1) (v := ?_) hS ?_ ?_
     rotate_left
     ·rintro w' ⟨s0', s1', s2', s3'⟩
      go_simp
      try with_reducible rfl
     try simp only [Act.put, zq1, zq2, zq3, zq4, zq5, zq6]
     refine tkx (i := 2) (v := ?_) hS ?_ ?_
     rotate_left
     ·rintro w' ⟨s0', s1', s2', s3'⟩
      go_simp
      try with_reducible rfl
     try simp only [Act.put, zq1, zq2, zq3, zq4, zq5, zq6]
     refine anyX_g (i := 3) (by kernel_rfl) (by decide) rfl (by rfl) ?_
     intro K hK
     try simp only [zq1, zq2, zq3]
     refine wp_enterE #[.agg #[.slice NF k nf, .slice OF k of], .slice TA M tc] Try.func29 (by kernel_rfl) (by kernel_rfl) ?_ (rpick_any (RF.out.below hb) HTL.out HT.out (RFE.out.below hb) HEL.out HE2.out (RP.out.below hb) HP2.out (by omega) (by omega) (by omega)) ?_
     ·go_simp
     rintro e V1 ⟨vn, vo, rfl, hn, ho, hbn⟩
     have hN2 : NextR V1 vn T := hn.nextR HTL.out (fun i hi => xssT_at T hi)
     have hE2 : EmitR V1 vo (pickE E p k) := ho.emitR (pickE_len _ _ _) (fun i hi => xssK_at E HPL.out hi)
     obtain ⟨NX, nx, e, l30, l31⟩ := hN2.form
     rw [HTL.out] at e l30
     subst e
     obtain ⟨OX, ox, e, l32, l33⟩ := hE2.form
     rw [pickE_len] at e l32
     subst e
     clear hn ho
     refine ⟨_, rfl, ?_⟩
     replace hb := hb.trans (hbn.mono hb.size)
     clear hbn
     replace hS := HKS.out _ hb
     refine hK _ _ hS ?_
     clear hK
     try simp only [Act.put, zq1, zq2, zq3, zq4, zq5, zq6]
     refine anyX_g (i := 4) (by kernel_rfl) (by decide) rfl (by rfl) ?_
     intro K hK
     try simp only [zq1, zq2, zq3]
     refine wp_enterE #[.agg #[.slice NG k ng, .slice OG k og], .agg #[.slice NX k nx, .slice OX k ox]] Try.func22 (by kernel_rfl) (by kernel_rfl) ?_ (fsame_true (RG.out.below hb) hN2 (RGE.out.below hb) hE2 HTL.out (pickE_len _ _ _)) ?_
     ·go_simp
     rintro e V2 ⟨rfl, hbn⟩
     refine ⟨_, rfl, ?_⟩
     replace hb := hb.trans (hbn.mono hb.size)
     clear hbn hN2 hE2
     replace hS := HKS.out _ hb
     refine hK _ _ hS ?_
     clear hK
     try simp only [Act.put, zq1, zq2, zq3, zq4, zq5, zq6]
     refine tkx (i := 5) (v := ?_) hS ?_ ?_
     rotate_left
     ·rintro w' ⟨s0', s1', s2', s3'⟩
      go_simp
      try with_reducible rfl
     try simp only [Act.put, zq1, zq2, zq3, zq4, zq5, zq6]
     refine tkx (i := 6) (v := ?_) hS ?_ ?_
     rotate_left
     ·rintro w' ⟨s0', s1', s2', s3'⟩
      go_simp
      try with_reducible rfl
     try simp only [Act.put, zq1, zq2, zq3, zq4, zq5, zq6]
     refine tkx (i := 7) (v := ?_) hS ?_ ?_
     rotate_left
     ·rintro w' ⟨s0', s1', s2', s3'⟩
      go_simp
      try with_reducible rfl
     try simp only [Act.put, zq1, zq2, zq3, zq4, zq5, zq6]
     refine tkx (i := 8) (v := ?_) hS ?_ ?_
     rotate_left
     ·rintro w' ⟨s0', s1', s2', s3'⟩
      go_simp
      try with_reducible rfl
     try simp only [Act.put, zq1, zq2, zq3, zq4, zq5, zq6]
     refine tkx (i := 9) (v := ?_) hS ?_ ?_
     rotate_left
     ·rintro w' ⟨s0', s1', s2', s3'⟩
      go_simp
      try with_reducible rfl
     try simp only [Act.put, zq1, zq2, zq3, zq4, zq5, zq6]
     refine anyX_g (i := 10) (by kernel_rfl) (by decide) rfl (by rfl) ?_
     intro K hK
     try simp only [zq1, zq2, zq3]
     refine wp_enterE #[.int .i64 a0, .int .i64 a1, .slice a2 len2 cap2] Try.func15 (by kernel_rfl) (by kernel_rfl) ?_ (lawF_mach (RI.out.below hb) a0 a1 HK.out HN.out) ?_
     ·go_simp
     rintro e V3 ⟨NY, ny, OY, oy, rfl, hN2, hE2, l34, l35, l36, l37, hbn⟩
     rw [ET.out] at hN2
     rw [EO.out, EE.out] at hE2
     refine ⟨_, rfl, ?_⟩
     replace hb := hb.trans (hbn.mono hb.size)
     clear hbn
     replace hS := HKS.out _ hb
     refine hK _ _ hS ?_
     clear hK
     try simp only [Act.put, zq1, zq2, zq3, zq4, zq5, zq6]
     refine anyX_g (i := 11) (by kernel_rfl) (by decide) rfl (by rfl) ?_
     intro K hK
     try simp only [zq1, zq2, zq3]
     refine wp_enterE #[.agg #[.slice NF k nf, .slice OF k of], .agg #[.slice NY k ny, .slice OY k oy]] Try.func22 (by kernel_rfl) (by kernel_rfl) ?_ (fsame_true (RF.out.below hb) hN2 (RFE.out.below hb) hE2 HTL.out HEL.out) ?_
     ·go_simp
     rintro e V4 ⟨rfl, hbn⟩
     refine ⟨_, rfl, ?_⟩
     replace hb := hb.trans (hbn.mono hb.size)
     clear hbn hN2 hE2
     replace hS := HKS.out _ hb
     refine hK _ _ hS ?_
     clear hK
     try simp only [Act.put, zq1, zq2, zq3, zq4, zq5, zq6]
     refine tkx (i := 12) (v := ?_) hS ?_ ?_
     rotate_left
     ·rintro w' ⟨s0', s1', s2', s3'⟩
      go_simp
      try with_reducible rfl
     try simp only [Act.put, zq1, zq2, zq3, zq4, zq5, zq6]
     have HBZ := Lib.hid (BB.out.trans (hb.mono BB.out.size))
     clear hS hb
     refine anyX_last (by kernel_rfl) (by kernel_rfl) rfl rfl ?_
     try simp only [zq1, zq2, zq3]
     go_simp
     try apply_assumption
     go_wp2_with fail
     go_ret
     exact ⟨by simp, HBZ.out⟩
end Go.Proofs.Ytdcokkgdahbinaa
