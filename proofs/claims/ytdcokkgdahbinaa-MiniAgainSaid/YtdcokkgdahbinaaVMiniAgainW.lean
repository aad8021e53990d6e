/- MiniAgain -/
import Derived.Test.YtdcokkgdahbinaaVMiniMa
import Derived.Test.YtdcokkgdahbinaaVMiniMg
set_option linter.unusedVariables false
set_option linter.unusedSimpArgs false
set_option maxRecDepth 100000
set_option maxHeartbeats 8000000
namespace Go.Proofs.Ytdcokkgdahbinaa
open Go Go.RowKit Go.Proofs
theorem miniAgain_walk (a0 : Int) (a1 : Int) (a2 : Option Addr) (len2 cap2 : Nat) (z2 : List Int) (w : World) (w0 : (Lit.int .i64 a0).wf = true) (w1 : (Lit.int .i64 a1).wf = true) (w2 : IsRow .i64 w a2 len2 cap2 z2) :
  Calls Try.prog 8 #[.int .i64 a0, .int .i64 a1, .slice a2 len2 cap2] w fun e w' => e = .returned (.bool true) /\ Below w.heap.size w w' := by
  have hk := kOf_is a0; have hn := nOf_is a1; have hk9 := kOf_lt a0; have hn9 := nOf_lt a1
  obtain ⟨k, ek⟩ : ∃ k, kOf a0 = k := ⟨_, rfl⟩
  obtain ⟨n, en⟩ : ∃ n, nOf a1 = n := ⟨_, rfl⟩
  rw [ek] at hk hk9
  rw [en] at hn hn9
  clear ek en
  obtain ⟨k0, k9⟩ := hk9
  obtain ⟨n0, n9⟩ := hn9
  have hT := law_rect (z2.take len2) (k := k) (n := n) k0
  have hTl := lawT_len (z2.take len2) k n
  have hOl := lawO_len (z2.take len2) k n
  have hO2 := lawO_lt (z2.take len2) k n
  obtain ⟨T, eT⟩ : ∃ T, lawT (z2.take len2) k n = T := ⟨_, rfl⟩
  obtain ⟨O, eO⟩ : ∃ O, lawO (z2.take len2) k n = O := ⟨_, rfl⟩
  rw [eT] at hT hTl
  rw [eO] at hOl hO2
  have RI := Lib.hid w2.readsI
  have HK := Lib.hid hk; have HN := Lib.hid hn; have HT := Lib.hid hT; have HTL := Lib.hid hTl; have HOL := Lib.hid hOl; have HO2 := Lib.hid hO2; have ET := Lib.hid eT; have EO := Lib.hid eO
  clear hk hn hT hTl hOl hO2 eT eO w0 w1 w2
  have hE2 : ∀ i, i < k -> ((lawEs O).getD i []).length = 2 := fun i hi => lawE_two HOL.out hi
  have hEi : ∀ i, i < k -> ∀ u ∈ (lawEs O).getD i [], ∀ c, In64 (atV u c) := fun i hi => lawE_in HOL.out HO2.out hi
  have hEl : (lawEs O).length = k := by rw [lawEs_len, HOL.out]
  obtain ⟨E, eE⟩ : ∃ E, lawEs O = E := ⟨_, rfl⟩
  rw [eE] at hE2 hEi hEl
  have HE2 := Lib.hid hE2; have HEI := Lib.hid hEi; have HEL := Lib.hid hEl; have EE := Lib.hid eE
  clear hE2 hEi hEl eE
  go_enter Try.func8, Try.ntmps8
  go_wp2_with fail
  refine (known_any _).mono ?_
  rintro e w1 ⟨rfl, hb⟩
  replace RI := Lib.hid (RI.out.below hb)
  have BB := Lib.hid hb
  clear hb
  go_wp2_with fail
  refine (lawB_mach RI.out a0 a1 HK.out HN.out).mono ?_
  rintro e w2 ⟨NA, nc, OA, oc, rfl, hN, hO, l1, l2, l3, l4, hb⟩
  have RN := Lib.hid (hN)
  have RO := Lib.hid (hO)
  replace RI := Lib.hid (RI.out.below hb)
  replace BB := Lib.hid (BB.out.trans (hb.mono BB.out.size))
  rw [ET.out] at RN
  rw [EO.out] at RO
  clear hN hO hb
  go_wp2_with fail
  refine (back_mach RN.out HTL.out HT.out RO.out (by omega) (by omega) (fun x => by have := HO2.out x; omega)).mono ?_
  rintro e w3 ⟨NB, nd, OB, od, gn, f, r, rfl, hM, hQ, hQO, hNM, l5, l6, l7, l8, hb⟩
  have MM := Lib.hid (hM)
  have RQ := Lib.hid (hQ)
  have RQO := Lib.hid (hQO)
  replace RI := Lib.hid (RI.out.below hb)
  replace BB := Lib.hid (BB.out.trans (hb.mono BB.out.size))
  have hr0 := hM.pos
  have hr9 : r <= k := by have := hM.le; rw [HTL.out] at this; exact this
  clear hM hQ hQO hNM hb RN RO
  obtain ⟨b7, hb7⟩ : ∃ b, b = w3.heap.size := ⟨_, rfl⟩
  obtain ⟨V7, hV7⟩ : ∃ V, w3.alloc (.cells #[.slice NB r nd, .slice OB r od] 26) = V := ⟨_, rfl⟩
  have hb' : Below w3.heap.size w3 V7 := by rw [<- hV7]; exact (Below.refl _ _).alloc (Nat.le_refl _) _
  have x' : Blk V7 b7 26 #[.slice NB r nd, .slice OB r od] := by rw [<- hV7, hb7]; exact Blk.new _ _ _
  replace RI := Lib.hid (RI.out.below hb')
  replace RQ := Lib.hid (RQ.out.below hb')
  replace RQO := Lib.hid (RQO.out.below hb')
  replace BB := Lib.hid (BB.out.trans (hb'.mono BB.out.size))
  have Xb7 := Lib.hid x'
  have HV7 := Lib.hid hV7; have Eb7 := Lib.hid hb7
  clear hb' x' hV7 hb7
  have rz : ¬ (r : Int) = 0 := by omega
  have rz2 : ((r : Int) == 0) = false := by simpa using rz
  go_wp2_with fail
  rw [HV7.out, <- Eb7.out]
  refine (back_mach RQ.out MM.out.qlen MM.out.quo RQO.out (by omega) (by omega) (quoO_le HO2.out)).mono ?_
  rintro e w4 ⟨NC, ne, OC, oe, gm, f2, r2, rfl, hM2, hQ2, hQO2, hNM2, l9, l10, l11, l12, hb⟩
  have MM2 := Lib.hid (hM2)
  have RQ2 := Lib.hid (hQ2)
  have RQO2 := Lib.hid (hQO2)
  have RM := Lib.hid (hNM2)
  replace RI := Lib.hid (RI.out.below hb)
  replace RQ := Lib.hid (RQ.out.below hb)
  replace RQO := Lib.hid (RQO.out.below hb)
  replace BB := Lib.hid (BB.out.trans (hb.mono BB.out.size))
  replace Xb7 := Lib.hid (Blk.below Xb7.out hb Xb7.out.lt)
  obtain ⟨er, eq2, erep, enm⟩ := again_of MM.out MM2.out (fun x hx => quoO_g T f O (by rw [MM.out.len]; exact hx))
  subst er
  have eqo : quoO (quoN T (EF f)) f2 (quoO T f O) = quoO T f O := by
   unfold quoO
   rw [erep]
   exact range_getD _ 0 (by rw [List.length_map, MM.out.len])
  have enz : rowZ r2 (nameN (quoN T (EF f)) (EF f2)) = rowZ r2 (fun s => (s : Int)) := rowZ_eq enm
  rw [eq2] at RQ2
  rw [eqo] at RQO2
  rw [enz] at RM
  have HQL := Lib.hid MM.out.qlen
  have HQOL := Lib.hid (quoO_len (T := T) (f := f) O)
  rw [MM.out.len] at HQOL
  generalize quoN T (EF f) = Q at *
  generalize quoO T f O = QO at *
  clear hM2 hQ2 hQO2 hNM2 hb eq2 erep enm eqo enz MM MM2
  obtain ⟨b9, hb9⟩ : ∃ b, b = w4.heap.size := ⟨_, rfl⟩
  obtain ⟨V9, hV9⟩ : ∃ V, w4.alloc (.cells #[.slice NC r2 ne, .slice OC r2 oe] 26) = V := ⟨_, rfl⟩
  have hb' : Below w4.heap.size w4 V9 := by rw [<- hV9]; exact (Below.refl _ _).alloc (Nat.le_refl _) _
  have x' : Blk V9 b9 26 #[.slice NC r2 ne, .slice OC r2 oe] := by rw [<- hV9, hb9]; exact Blk.new _ _ _
  replace RI := Lib.hid (RI.out.below hb')
  replace RQ := Lib.hid (RQ.out.below hb')
  replace RQO := Lib.hid (RQO.out.below hb')
  replace RQ2 := Lib.hid (RQ2.out.below hb')
  replace RQO2 := Lib.hid (RQO2.out.below hb')
  replace RM := Lib.hid (RM.out.below hb')
  replace Xb7 := Lib.hid (Blk.below Xb7.out hb' Xb7.out.lt)
  replace BB := Lib.hid (BB.out.trans (hb'.mono BB.out.size))
  have Xb9 := Lib.hid x'
  have HV9 := Lib.hid hV9; have Eb9 := Lib.hid hb9
  clear hb' x' hV9 hb9
  go_wp2_with fail
  rw [HV9.out, <- Eb9.out]
  refine (lawF_mach RI.out a0 a1 HK.out HN.out).mono ?_
  rintro e w5 ⟨ND, nf, OD, og, rfl, hN, hO, l1, l2, l3, l4, hb⟩
  have RN := Lib.hid (hN)
  have RO := Lib.hid (hO)
  replace RQ := Lib.hid (RQ.out.below hb)
  replace RQO := Lib.hid (RQO.out.below hb)
  replace RQ2 := Lib.hid (RQ2.out.below hb)
  replace RQO2 := Lib.hid (RQO2.out.below hb)
  replace RM := Lib.hid (RM.out.below hb)
  replace BB := Lib.hid (BB.out.trans (hb.mono BB.out.size))
  replace Xb7 := Lib.hid (Blk.below Xb7.out hb Xb7.out.lt)
  replace Xb9 := Lib.hid (Blk.below Xb9.out hb Xb9.out.lt)
  rw [ET.out] at RN
  rw [EO.out, EE.out] at RO
  clear hN hO hb RI
  go_wp2_with fail
  refine (fwd_mach RN.out HTL.out HT.out RO.out HEL.out HE2.out (by omega) HEI.out (by omega) (by omega)).mono ?_
  rintro e w6 ⟨NX, nx, OX, ox, gx, f, s, rfl, hM, hQ, hQO, hNM, l5, l6, l7, l8, hb⟩
  have MM := Lib.hid (hM)
  have RP := Lib.hid (hQ)
  have RPE := Lib.hid (hQO)
  replace RQ := Lib.hid (RQ.out.below hb)
  replace RQO := Lib.hid (RQO.out.below hb)
  replace RQ2 := Lib.hid (RQ2.out.below hb)
  replace RQO2 := Lib.hid (RQO2.out.below hb)
  replace RM := Lib.hid (RM.out.below hb)
  replace BB := Lib.hid (BB.out.trans (hb.mono BB.out.size))
  replace Xb7 := Lib.hid (Blk.below Xb7.out hb Xb7.out.lt)
  replace Xb9 := Lib.hid (Blk.below Xb9.out hb Xb9.out.lt)
  have hs0 := hM.pos
  have hs9 : s <= k := by have := hM.le; rw [HTL.out] at this; exact this
  clear hM hQ hQO hNM hb RN RO
  obtain ⟨b11, hb11⟩ : ∃ b, b = w6.heap.size := ⟨_, rfl⟩
  obtain ⟨V11, hV11⟩ : ∃ V, w6.alloc (.cells #[.slice NX s nx, .slice OX s ox] 30) = V := ⟨_, rfl⟩
  have hb' : Below w6.heap.size w6 V11 := by rw [<- hV11]; exact (Below.refl _ _).alloc (Nat.le_refl _) _
  have x' : Blk V11 b11 30 #[.slice NX s nx, .slice OX s ox] := by rw [<- hV11, hb11]; exact Blk.new _ _ _
  replace RQ := Lib.hid (RQ.out.below hb')
  replace RQO := Lib.hid (RQO.out.below hb')
  replace RQ2 := Lib.hid (RQ2.out.below hb')
  replace RQO2 := Lib.hid (RQO2.out.below hb')
  replace RM := Lib.hid (RM.out.below hb')
  replace RP := Lib.hid (RP.out.below hb')
  replace RPE := Lib.hid (RPE.out.below hb')
  replace Xb7 := Lib.hid (Blk.below Xb7.out hb' Xb7.out.lt)
  replace Xb9 := Lib.hid (Blk.below Xb9.out hb' Xb9.out.lt)
  replace BB := Lib.hid (BB.out.trans (hb'.mono BB.out.size))
  have Xb11 := Lib.hid x'
  have HV11 := Lib.hid hV11; have Eb11 := Lib.hid hb11
  clear hb' x' hV11 hb11
  have sz : ¬ (s : Int) = 0 := by omega
  have sz2 : ((s : Int) == 0) = false := by simpa using sz
  go_wp2_with fail
  rw [HV11.out, <- Eb11.out]
  refine (fwd_mach RP.out MM.out.qlen MM.out.quo RPE.out (by rw [quoE_len, MM.out.len]) (fun i hi => by rw [quoE_at _ _ _ (by rw [MM.out.len]; exact hi)]; exact quoG_ex MM.out hi (P := fun x => (E.getD x []).length = 2) (fun x hx => HE2.out x (by rw [<- HTL.out]; exact hx))) (by omega) (fun i hi => by rw [quoE_at _ _ _ (by rw [MM.out.len]; exact hi)]; exact quoG_ex MM.out hi (P := fun x => ∀ u ∈ E.getD x [], ∀ c, In64 (atV u c)) (fun x hx => HEI.out x (by rw [<- HTL.out]; exact hx))) (by omega) (by omega)).mono ?_
  rintro e w7 ⟨NY, ny, OY, oy, gy, f2, s2, rfl, hM2, hQ2, hQO2, hNM2, l9, l10, l11, l12, hb⟩
  have MM2 := Lib.hid (hM2)
  have RP2 := Lib.hid (hQ2)
  have RPE2 := Lib.hid (hQO2)
  have RN := Lib.hid (hNM2)
  replace RQ := Lib.hid (RQ.out.below hb)
  replace RQO := Lib.hid (RQO.out.below hb)
  replace RQ2 := Lib.hid (RQ2.out.below hb)
  replace RQO2 := Lib.hid (RQO2.out.below hb)
  replace RM := Lib.hid (RM.out.below hb)
  replace RP := Lib.hid (RP.out.below hb)
  replace RPE := Lib.hid (RPE.out.below hb)
  replace BB := Lib.hid (BB.out.trans (hb.mono BB.out.size))
  replace Xb7 := Lib.hid (Blk.below Xb7.out hb Xb7.out.lt)
  replace Xb9 := Lib.hid (Blk.below Xb9.out hb Xb9.out.lt)
  replace Xb11 := Lib.hid (Blk.below Xb11.out hb Xb11.out.lt)
  obtain ⟨er, eq2, erep, enm⟩ := again_of MM.out MM2.out (fun x hx => quoE_at T f E (by rw [MM.out.len]; exact hx))
  subst er
  have eqo : quoE (quoN T (EF f)) f2 (quoE T f E) = quoE T f E := by
   unfold quoE
   rw [erep]
   exact range_getD _ [] (by rw [List.length_map, MM.out.len])
  have enz : rowZ s2 (nameN (quoN T (EF f)) (EF f2)) = rowZ s2 (fun s => (s : Int)) := rowZ_eq enm
  rw [eq2] at RP2
  rw [eqo] at RPE2
  rw [enz] at RN
  have HPL := Lib.hid MM.out.qlen
  have HPEL := Lib.hid (quoE_len T f E)
  rw [MM.out.len] at HPEL
  generalize quoN T (EF f) = P at *
  generalize quoE T f E = PE at *
  clear hM2 hQ2 hQO2 hNM2 hb eq2 erep enm eqo enz MM MM2
  obtain ⟨b13, hb13⟩ : ∃ b, b = w7.heap.size := ⟨_, rfl⟩
  obtain ⟨V13, hV13⟩ : ∃ V, w7.alloc (.cells #[.slice NY s2 ny, .slice OY s2 oy] 30) = V := ⟨_, rfl⟩
  have hb' : Below w7.heap.size w7 V13 := by rw [<- hV13]; exact (Below.refl _ _).alloc (Nat.le_refl _) _
  have x' : Blk V13 b13 30 #[.slice NY s2 ny, .slice OY s2 oy] := by rw [<- hV13, hb13]; exact Blk.new _ _ _
  replace RQ := Lib.hid (RQ.out.below hb')
  replace RQO := Lib.hid (RQO.out.below hb')
  replace RQ2 := Lib.hid (RQ2.out.below hb')
  replace RQO2 := Lib.hid (RQO2.out.below hb')
  replace RM := Lib.hid (RM.out.below hb')
  replace RP := Lib.hid (RP.out.below hb')
  replace RPE := Lib.hid (RPE.out.below hb')
  replace RP2 := Lib.hid (RP2.out.below hb')
  replace RPE2 := Lib.hid (RPE2.out.below hb')
  replace RN := Lib.hid (RN.out.below hb')
  replace Xb7 := Lib.hid (Blk.below Xb7.out hb' Xb7.out.lt)
  replace Xb9 := Lib.hid (Blk.below Xb9.out hb' Xb9.out.lt)
  replace Xb11 := Lib.hid (Blk.below Xb11.out hb' Xb11.out.lt)
  replace BB := Lib.hid (BB.out.trans (hb'.mono BB.out.size))
  have Xb13 := Lib.hid x'
  have HV13 := Lib.hid hV13; have Eb13 := Lib.hid hb13
  clear hb' x' hV13 hb13
  go_wp2_with fail
  rw [HV13.out, <- Eb13.out]
  go_loopw [15] (fun vi wr => ∃ i : Nat, vi = .int .i64 (i : Int) /\ i <= r2 /\ wr = V13) (fun vi _ => r2 - (intOf vi).toNat)
  case atStart => exact ⟨0, rfl, Nat.zero_le _, rfl⟩
  case round =>
   obtain ⟨i, rfl, hi, hw⟩ := hrel
   subst hw
   have i0 : (0 : Int) <= (i : Int) := Int.natCast_nonneg _
   by_cases hlt : i < r2
   ·have i1 : (i : Int) < (r2 : Int) := by omega
    have t1 : decide (i < r2) = true := by simpa using hlt
    obtain ⟨g1, o1, e1, -, c1⟩ := RM.out.at i hlt
    simp only [sl, Option.some.injEq, Addr.mk.injEq, and_true] at e1
    obtain ⟨rfl, rfl⟩ := e1
    rw [rowZ_get _ hlt, Nat.zero_add] at c1
    go_wp2_with fail
    exact ⟨⟨i + 1, by go_num, by omega, by trivial⟩, by simp [intOf]; omega⟩
   ·go_wp2_with fail
    obtain ⟨V13, hV⟩ : ∃ V13, V13 = wr := ⟨_, rfl⟩
    subst hV
    go_loopw [16] (fun vi wr => ∃ i : Nat, vi = .int .i64 (i : Int) /\ i <= s2 /\ wr = V13) (fun vi _ => s2 - (intOf vi).toNat)
    case atStart => exact ⟨0, rfl, Nat.zero_le _, rfl⟩
    case round =>
     obtain ⟨j, rfl, hj, hw⟩ := hrel
     subst hw
     have j0 : (0 : Int) <= (j : Int) := Int.natCast_nonneg _
     by_cases hltj : j < s2
     ·have j1 : (j : Int) < (s2 : Int) := by omega
      have t2 : decide (j < s2) = true := by simpa using hltj
      obtain ⟨g1, o1, e1, -, c1⟩ := RN.out.at j hltj
      simp only [sl, Option.some.injEq, Addr.mk.injEq, and_true] at e1
      obtain ⟨rfl, rfl⟩ := e1
      rw [rowZ_get _ hltj, Nat.zero_add] at c1
      go_wp2_with fail
      exact ⟨⟨j + 1, by go_num, by omega, by trivial⟩, by simp [intOf]; omega⟩
     ·have c70 := Xb7.out.cell 0; have c71 := Xb7.out.cell 1; have c90 := Xb9.out.cell 0; have c91 := Xb9.out.cell 1
      have c110 := Xb11.out.cell 0; have c111 := Xb11.out.cell 1; have c130 := Xb13.out.cell 0; have c131 := Xb13.out.cell 1
      simp only [List.getElem?_toArray, List.getElem?_cons_zero, List.getElem?_cons_succ] at c70 c71 c90 c91 c110 c111 c130 c131
      go_wp2_with fail
      refine (bsame_true RQ.out RQ2.out RQO.out RQO2.out HQL.out).mono ?_
      rintro e w8 ⟨rfl, hb⟩
      replace RP := Lib.hid (RP.out.below hb)
      replace RPE := Lib.hid (RPE.out.below hb)
      replace RP2 := Lib.hid (RP2.out.below hb)
      replace RPE2 := Lib.hid (RPE2.out.below hb)
      replace BB := Lib.hid (BB.out.trans (hb.mono BB.out.size))
      have c70 := bel_m hb c70; have c110 := bel_m hb c110; have c111 := bel_m hb c111; have c130 := bel_m hb c130; have c131 := bel_m hb c131
      clear hb
      go_wp2_with fail
      refine (fsame_true RP.out RP2.out RPE.out RPE2.out HPL.out HPEL.out).mono ?_
      rintro e w9 ⟨rfl, hb⟩
      replace BB := Lib.hid (BB.out.trans (hb.mono BB.out.size))
      have c70 := bel_m hb c70; have c110 := bel_m hb c110
      clear hb
      go_wp2_with fail
      go_ret
      exact ⟨by simp, BB.out⟩
end Go.Proofs.Ytdcokkgdahbinaa
