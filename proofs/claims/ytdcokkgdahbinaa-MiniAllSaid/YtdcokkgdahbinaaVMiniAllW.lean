/- MiniAll -/
import Derived.Test.YtdcokkgdahbinaaVMiniMa
import Derived.Test.YtdcokkgdahbinaaVMiniRh
import Derived.Test.YtdcokkgdahbinaaVMiniP
import Derived.Test.YtdcokkgdahbinaaVMiniMg
set_option linter.unusedVariables false
set_option linter.unusedSimpArgs false
set_option maxRecDepth 100000
set_option maxHeartbeats 8000000
namespace Go.Proofs.Ytdcokkgdahbinaa
open Go Go.RowKit Go.Proofs
theorem mach_one {α : Type} {T : List (List Nat)} {k r r' : Nat} {g : Nat -> α} {f f' : Nat -> Nat} (h : MachF T k g f r) (h' : MachF T k g f' r') :
  r' = r /\ repN T (EF f') = repN T (EF f) /\ quoN T (EF f') = quoN T (EF f) /\ ∀ s, s < T.length -> nameN T (EF f') s = nameN T (EF f) s := by
  have hEE : ∀ x y, x < T.length -> y < T.length -> EF f x y = EF f' (id x) (id y) := fun x y hx hy => by
   unfold EF
   rw [Bool.eq_iff_iff]
   simp only [decide_eq_true_eq, id]
   exact (h.kern x y hx hy).trans (h'.kern x y hx hy).symm
  have hrep := rep_map (h := id) h.rect h.rect (EF.eqv f) (EF.eqv f') hEE rfl (fun x hx => hx) (fun x a _ _ => rfl)
  have hquo := quo_map (h := id) h.rect h.rect (EF.eqv f) (EF.eqv f') hEE rfl (fun x hx => hx) (fun x a _ _ => rfl)
  have hr : repN T (EF f') = repN T (EF f) := by rw [<- hrep]; simp
  refine ⟨by rw [<- h.len, <- h'.len, hr], hr, hquo.symm, fun s hs => ?_⟩
  have ho := of_map (h := id) h.rect hrep hEE hs
  unfold nameN
  split
  ·exact congrArg Int.ofNat ho
  ·rfl
theorem miniAll_walk (a0 : Int) (a1 : Int) (a2 : Option Addr) (len2 cap2 : Nat) (z2 : List Int) (w : World) (w0 : (Lit.int .i64 a0).wf = true) (w1 : (Lit.int .i64 a1).wf = true) (w2 : IsRow .i64 w a2 len2 cap2 z2) :
  Calls Try.prog 3 #[.int .i64 a0, .int .i64 a1, .slice a2 len2 cap2] w fun e w' => e = .returned (.bool true) /\ Below w.heap.size w w' := by
  have hk := kOf_is a0; have hn := nOf_is a1; have hk9 := kOf_lt a0; have hn9 := nOf_lt a1
  obtain ⟨k, ek⟩ : ∃ k, kOf a0 = k := ⟨_, rfl⟩
  obtain ⟨n, en⟩ : ∃ n, nOf a1 = n := ⟨_, rfl⟩
  rw [ek] at hk hk9
  rw [en] at hn hn9
  clear ek en
  obtain ⟨k0, k9⟩ := hk9
  obtain ⟨n0, n9⟩ := hn9
  have hT := law_rect (z2.take len2) (k := k) (n := n) k0
  have hTl := lawT_len (z2.take len2) k n
  have hOl := lawO_len (z2.take len2) k n
  have hO2 := lawO_lt (z2.take len2) k n
  obtain ⟨T, eT⟩ : ∃ T, lawT (z2.take len2) k n = T := ⟨_, rfl⟩
  obtain ⟨O, eO⟩ : ∃ O, lawO (z2.take len2) k n = O := ⟨_, rfl⟩
  rw [eT] at hT hTl
  rw [eO] at hOl hO2
  have RI := Lib.hid w2.readsI
  have HK := Lib.hid hk; have HN := Lib.hid hn; have HT := Lib.hid hT; have HTL := Lib.hid hTl; have HOL := Lib.hid hOl; have HO2 := Lib.hid hO2; have ET := Lib.hid eT; have EO := Lib.hid eO
  clear hk hn hT hTl hOl hO2 eT eO w0 w1 w2
  have hE2 : ∀ i, i < k -> ((lawEs O).getD i []).length = 2 := fun i hi => lawE_two HOL.out hi
  have hEi : ∀ i, i < k -> ∀ u ∈ (lawEs O).getD i [], ∀ c, In64 (atV u c) := fun i hi => lawE_in HOL.out HO2.out hi
  have hEl : (lawEs O).length = k := by rw [lawEs_len, HOL.out]
  obtain ⟨E, eE⟩ : ∃ E, lawEs O = E := ⟨_, rfl⟩
  rw [eE] at hE2 hEi hEl
  have HE2 := Lib.hid hE2; have HEI := Lib.hid hEi; have HEL := Lib.hid hEl; have EE := Lib.hid eE
  clear hE2 hEi hEl eE
  go_enter Try.func3, Try.ntmps3
  go_wp2_with fail
  refine (known_any _).mono ?_
  rintro e w1 ⟨rfl, hb⟩
  replace RI := Lib.hid (RI.out.below hb)
  have BB := Lib.hid hb
  clear hb
  go_wp2_with fail
  refine (lawB_mach RI.out a0 a1 HK.out HN.out).mono ?_
  rintro e w2 ⟨NA, nc, OA, oc, rfl, hN, hO, l1, l2, l3, l4, hb⟩
  have RN := Lib.hid (hN)
  have RO := Lib.hid (hO)
  replace RI := Lib.hid (RI.out.below hb)
  replace BB := Lib.hid (BB.out.trans (hb.mono BB.out.size))
  rw [ET.out] at RN
  rw [EO.out] at RO
  clear hN hO hb
  go_wp2_with fail
  refine (lawF_mach RI.out a0 a1 HK.out HN.out).mono ?_
  rintro e w3 ⟨NC, ne, OC, oe, rfl, hN, hO, m1, m2, m3, m4, hb⟩
  have RF := Lib.hid (hN)
  have RE := Lib.hid (hO)
  replace RN := Lib.hid (RN.out.below hb)
  replace RO := Lib.hid (RO.out.below hb)
  replace BB := Lib.hid (BB.out.trans (hb.mono BB.out.size))
  rw [ET.out] at RF
  rw [EO.out, EE.out] at RE
  clear hN hO hb RI
  obtain ⟨b7, hb7⟩ : ∃ b, b = w3.heap.size := ⟨_, rfl⟩
  obtain ⟨V7, hV7⟩ : ∃ V, w3.alloc (.cells #[.slice NA k nc, .slice OA k oc] 26) = V := ⟨_, rfl⟩
  have hb' : Below w3.heap.size w3 V7 := by rw [<- hV7]; exact (Below.refl _ _).alloc (Nat.le_refl _) _
  have x' : Blk V7 b7 26 #[.slice NA k nc, .slice OA k oc] := by rw [<- hV7, hb7]; exact Blk.new _ _ _
  replace RN := Lib.hid (RN.out.below hb')
  replace RO := Lib.hid (RO.out.below hb')
  replace RF := Lib.hid (RF.out.below hb')
  replace RE := Lib.hid (RE.out.below hb')
  replace BB := Lib.hid (BB.out.trans (hb'.mono BB.out.size))
  have Xb7 := Lib.hid x'
  have HV7 := Lib.hid hV7; have Eb7 := Lib.hid hb7
  clear hb' x' hV7 hb7
  obtain ⟨b8, hb8⟩ : ∃ b, b = V7.heap.size := ⟨_, rfl⟩
  obtain ⟨V8, hV8⟩ : ∃ V, V7.alloc (.cells #[.slice NC k ne, .slice OC k oe] 30) = V := ⟨_, rfl⟩
  have hb' : Below V7.heap.size V7 V8 := by rw [<- hV8]; exact (Below.refl _ _).alloc (Nat.le_refl _) _
  have x' : Blk V8 b8 30 #[.slice NC k ne, .slice OC k oe] := by rw [<- hV8, hb8]; exact Blk.new _ _ _
  replace RN := Lib.hid (RN.out.below hb')
  replace RO := Lib.hid (RO.out.below hb')
  replace RF := Lib.hid (RF.out.below hb')
  replace RE := Lib.hid (RE.out.below hb')
  replace Xb7 := Lib.hid (Blk.below Xb7.out hb' Xb7.out.lt)
  replace BB := Lib.hid (BB.out.trans (hb'.mono BB.out.size))
  have Xb8 := Lib.hid x'
  have HV8 := Lib.hid hV8; have Eb8 := Lib.hid hb8
  clear hb' x' hV8 hb8
  have e8 : b7 + 1 = b8 := by
   have := Eb8.out
   rw [<- HV7.out] at this
   rw [World.size_alloc, <- Eb7.out] at this
   exact this.symm
  go_wp2_with fail
  rw [HV7.out, HV8.out, <- Eb7.out, e8]
  refine (back_mach RN.out HTL.out HT.out RO.out (by omega) (by omega) (fun x => by have := HO2.out x; omega)).mono ?_
  rintro e w4 ⟨NB, nd, OB, od, gn, f, r, rfl, hM, hQ, hQO, hNM, l5, l6, l7, l8, hb⟩
  have MM := Lib.hid (hM)
  have RQ := Lib.hid (hQ)
  have RQO := Lib.hid (hQO)
  have RM := Lib.hid (hNM)
  replace RN := Lib.hid (RN.out.below hb)
  replace RO := Lib.hid (RO.out.below hb)
  replace RF := Lib.hid (RF.out.below hb)
  replace RE := Lib.hid (RE.out.below hb)
  replace BB := Lib.hid (BB.out.trans (hb.mono BB.out.size))
  replace Xb7 := Lib.hid (Blk.below Xb7.out hb Xb7.out.lt)
  replace Xb8 := Lib.hid (Blk.below Xb8.out hb Xb8.out.lt)
  have hr9 : r <= k := by have := hM.le; rw [HTL.out] at this; exact this
  have HQL := Lib.hid hM.qlen
  clear hM hQ hQO hNM hb
  obtain ⟨b9, hb9⟩ : ∃ b, b = w4.heap.size := ⟨_, rfl⟩
  obtain ⟨V9, hV9⟩ : ∃ V, w4.alloc (.cells #[.slice NB r nd, .slice OB r od] 26) = V := ⟨_, rfl⟩
  have hb' : Below w4.heap.size w4 V9 := by rw [<- hV9]; exact (Below.refl _ _).alloc (Nat.le_refl _) _
  have x' : Blk V9 b9 26 #[.slice NB r nd, .slice OB r od] := by rw [<- hV9, hb9]; exact Blk.new _ _ _
  replace RN := Lib.hid (RN.out.below hb')
  replace RO := Lib.hid (RO.out.below hb')
  replace RF := Lib.hid (RF.out.below hb')
  replace RE := Lib.hid (RE.out.below hb')
  replace RQ := Lib.hid (RQ.out.below hb')
  replace RQO := Lib.hid (RQO.out.below hb')
  replace RM := Lib.hid (RM.out.below hb')
  replace Xb7 := Lib.hid (Blk.below Xb7.out hb' Xb7.out.lt)
  replace Xb8 := Lib.hid (Blk.below Xb8.out hb' Xb8.out.lt)
  replace BB := Lib.hid (BB.out.trans (hb'.mono BB.out.size))
  have Xb9 := Lib.hid x'
  have HV9 := Lib.hid hV9; have Eb9 := Lib.hid hb9
  clear hb' x' hV9 hb9
  have cb70 := Xb7.out.cell 0; have cb71 := Xb7.out.cell 1
  simp only [List.getElem?_toArray, List.getElem?_cons_zero, List.getElem?_cons_succ] at cb70 cb71
  rw [<- HV9.out] at cb70 cb71
  go_wp2_with fail
  rw [HV9.out, <- Eb9.out]
  clear cb70 cb71
  refine (rback_mach RN.out HTL.out HT.out RO.out (by omega) (by omega) (by omega) (fun x => by have := HO2.out x; omega)).mono ?_
  rintro e w5 ⟨NX, nx, OX, ox, GX, gx, f', r', rfl, hM, hQ, hQO, hNM, m5, m6, m7, m8, hb⟩
  have SQ := Lib.hid (hQ)
  have SQO := Lib.hid (hQO)
  have SM := Lib.hid (hNM)
  replace RN := Lib.hid (RN.out.below hb)
  replace RO := Lib.hid (RO.out.below hb)
  replace RF := Lib.hid (RF.out.below hb)
  replace RE := Lib.hid (RE.out.below hb)
  replace RQ := Lib.hid (RQ.out.below hb)
  replace RQO := Lib.hid (RQO.out.below hb)
  replace RM := Lib.hid (RM.out.below hb)
  replace BB := Lib.hid (BB.out.trans (hb.mono BB.out.size))
  replace Xb7 := Lib.hid (Blk.below Xb7.out hb Xb7.out.lt)
  replace Xb8 := Lib.hid (Blk.below Xb8.out hb Xb8.out.lt)
  replace Xb9 := Lib.hid (Blk.below Xb9.out hb Xb9.out.lt)
  obtain ⟨er, erep, equo, enm⟩ := mach_one MM.out hM
  subst er
  rw [equo] at SQ
  have eqo : quoO T f' O = quoO T f O := by unfold quoO; rw [erep]
  rw [eqo] at SQO
  have enz : rowZ k (nameN T (EF f')) = rowZ k (nameN T (EF f)) := rowZ_eq fun s hs => enm s (by rw [HTL.out]; exact hs)
  rw [enz] at SM
  have HQOL := Lib.hid (quoO_len (T := T) (f := f) O)
  rw [MM.out.len] at HQOL
  generalize quoN T (EF f) = Q at *
  generalize quoO T f O = QO at *
  generalize nameN T (EF f) = nm at *
  clear hM hQ hQO hNM hb erep equo enm eqo enz MM RN RO
  obtain ⟨b11, hb11⟩ : ∃ b, b = w5.heap.size := ⟨_, rfl⟩
  obtain ⟨V11, hV11⟩ : ∃ V, w5.alloc (.cells #[.slice NX r' nx, .slice OX r' ox] 26) = V := ⟨_, rfl⟩
  have hb' : Below w5.heap.size w5 V11 := by rw [<- hV11]; exact (Below.refl _ _).alloc (Nat.le_refl _) _
  have x' : Blk V11 b11 26 #[.slice NX r' nx, .slice OX r' ox] := by rw [<- hV11, hb11]; exact Blk.new _ _ _
  replace RF := Lib.hid (RF.out.below hb')
  replace RE := Lib.hid (RE.out.below hb')
  replace RQ := Lib.hid (RQ.out.below hb')
  replace RQO := Lib.hid (RQO.out.below hb')
  replace RM := Lib.hid (RM.out.below hb')
  replace SQ := Lib.hid (SQ.out.below hb')
  replace SQO := Lib.hid (SQO.out.below hb')
  replace SM := Lib.hid (SM.out.below hb')
  replace Xb7 := Lib.hid (Blk.below Xb7.out hb' Xb7.out.lt)
  replace Xb8 := Lib.hid (Blk.below Xb8.out hb' Xb8.out.lt)
  replace Xb9 := Lib.hid (Blk.below Xb9.out hb' Xb9.out.lt)
  replace BB := Lib.hid (BB.out.trans (hb'.mono BB.out.size))
  have Xb11 := Lib.hid x'
  have HV11 := Lib.hid hV11; have Eb11 := Lib.hid hb11
  clear hb' x' hV11 hb11
  have cb80 := Xb8.out.cell 0; have cb81 := Xb8.out.cell 1
  simp only [List.getElem?_toArray, List.getElem?_cons_zero, List.getElem?_cons_succ] at cb80 cb81
  rw [<- HV11.out] at cb80 cb81
  go_wp2_with fail
  rw [HV11.out, <- Eb11.out]
  clear cb80 cb81
  refine (fwd_mach RF.out HTL.out HT.out RE.out HEL.out HE2.out (by omega) HEI.out (by omega) (by omega)).mono ?_
  rintro e w6 ⟨ND, nf, OD, og, gm, f2, s, rfl, hM, hQ, hQO, hNM, p5, p6, p7, p8, hb⟩
  have MM := Lib.hid (hM)
  have FQ := Lib.hid (hQ)
  have FQE := Lib.hid (hQO)
  have FM := Lib.hid (hNM)
  replace RF := Lib.hid (RF.out.below hb)
  replace RE := Lib.hid (RE.out.below hb)
  replace RQ := Lib.hid (RQ.out.below hb)
  replace RQO := Lib.hid (RQO.out.below hb)
  replace RM := Lib.hid (RM.out.below hb)
  replace SQ := Lib.hid (SQ.out.below hb)
  replace SQO := Lib.hid (SQO.out.below hb)
  replace SM := Lib.hid (SM.out.below hb)
  replace BB := Lib.hid (BB.out.trans (hb.mono BB.out.size))
  replace Xb7 := Lib.hid (Blk.below Xb7.out hb Xb7.out.lt)
  replace Xb8 := Lib.hid (Blk.below Xb8.out hb Xb8.out.lt)
  replace Xb9 := Lib.hid (Blk.below Xb9.out hb Xb9.out.lt)
  replace Xb11 := Lib.hid (Blk.below Xb11.out hb Xb11.out.lt)
  have HFL := Lib.hid hM.qlen
  have hs9 : s <= k := by have := hM.le; rw [HTL.out] at this; exact this
  clear hM hQ hQO hNM hb
  obtain ⟨b13, hb13⟩ : ∃ b, b = w6.heap.size := ⟨_, rfl⟩
  obtain ⟨V13, hV13⟩ : ∃ V, w6.alloc (.cells #[.slice ND s nf, .slice OD s og] 30) = V := ⟨_, rfl⟩
  have hb' : Below w6.heap.size w6 V13 := by rw [<- hV13]; exact (Below.refl _ _).alloc (Nat.le_refl _) _
  have x' : Blk V13 b13 30 #[.slice ND s nf, .slice OD s og] := by rw [<- hV13, hb13]; exact Blk.new _ _ _
  replace RF := Lib.hid (RF.out.below hb')
  replace RE := Lib.hid (RE.out.below hb')
  replace RQ := Lib.hid (RQ.out.below hb')
  replace RQO := Lib.hid (RQO.out.below hb')
  replace RM := Lib.hid (RM.out.below hb')
  replace SQ := Lib.hid (SQ.out.below hb')
  replace SQO := Lib.hid (SQO.out.below hb')
  replace SM := Lib.hid (SM.out.below hb')
  replace FQ := Lib.hid (FQ.out.below hb')
  replace FQE := Lib.hid (FQE.out.below hb')
  replace FM := Lib.hid (FM.out.below hb')
  replace Xb7 := Lib.hid (Blk.below Xb7.out hb' Xb7.out.lt)
  replace Xb8 := Lib.hid (Blk.below Xb8.out hb' Xb8.out.lt)
  replace Xb9 := Lib.hid (Blk.below Xb9.out hb' Xb9.out.lt)
  replace Xb11 := Lib.hid (Blk.below Xb11.out hb' Xb11.out.lt)
  replace BB := Lib.hid (BB.out.trans (hb'.mono BB.out.size))
  have Xb13 := Lib.hid x'
  have HV13 := Lib.hid hV13; have Eb13 := Lib.hid hb13
  clear hb' x' hV13 hb13
  have cb80 := Xb8.out.cell 0; have cb81 := Xb8.out.cell 1
  simp only [List.getElem?_toArray, List.getElem?_cons_zero, List.getElem?_cons_succ] at cb80 cb81
  rw [<- HV13.out] at cb80 cb81
  go_wp2_with fail
  rw [HV13.out, <- Eb13.out]
  clear cb80 cb81
  refine (rfwd_mach RF.out HTL.out HT.out RE.out HEL.out HE2.out (by omega) (by omega) (by omega) (by omega)).mono ?_
  rintro e w7 ⟨NY, ny, OY, oy, GY, gy, f2', s', rfl, hM, hQ, hQO, hNM, q5, q6, q7, q8, hb⟩
  have TQ := Lib.hid (hQ)
  have TQE := Lib.hid (hQO)
  have TM := Lib.hid (hNM)
  replace RQ := Lib.hid (RQ.out.below hb)
  replace RQO := Lib.hid (RQO.out.below hb)
  replace RM := Lib.hid (RM.out.below hb)
  replace SQ := Lib.hid (SQ.out.below hb)
  replace SQO := Lib.hid (SQO.out.below hb)
  replace SM := Lib.hid (SM.out.below hb)
  replace FQ := Lib.hid (FQ.out.below hb)
  replace FQE := Lib.hid (FQE.out.below hb)
  replace FM := Lib.hid (FM.out.below hb)
  replace BB := Lib.hid (BB.out.trans (hb.mono BB.out.size))
  replace Xb7 := Lib.hid (Blk.below Xb7.out hb Xb7.out.lt)
  replace Xb8 := Lib.hid (Blk.below Xb8.out hb Xb8.out.lt)
  replace Xb9 := Lib.hid (Blk.below Xb9.out hb Xb9.out.lt)
  replace Xb11 := Lib.hid (Blk.below Xb11.out hb Xb11.out.lt)
  replace Xb13 := Lib.hid (Blk.below Xb13.out hb Xb13.out.lt)
  obtain ⟨er, erep, equo, enm⟩ := mach_one MM.out hM
  subst er
  rw [equo] at TQ
  have eqo : quoE T f2' E = quoE T f2 E := by unfold quoE; rw [erep]
  rw [eqo] at TQE
  have enz : rowZ k (nameN T (EF f2')) = rowZ k (nameN T (EF f2)) := rowZ_eq fun s hs => enm s (by rw [HTL.out]; exact hs)
  rw [enz] at TM
  have HQEL := Lib.hid (quoE_len T f2 E)
  rw [MM.out.len] at HQEL
  generalize quoN T (EF f2) = P at *
  generalize quoE T f2 E = PE at *
  generalize nameN T (EF f2) = nm2 at *
  clear hM hQ hQO hNM hb erep equo enm eqo enz MM RF RE
  obtain ⟨b15, hb15⟩ : ∃ b, b = w7.heap.size := ⟨_, rfl⟩
  obtain ⟨V15, hV15⟩ : ∃ V, w7.alloc (.cells #[.slice NY s' ny, .slice OY s' oy] 30) = V := ⟨_, rfl⟩
  have hb' : Below w7.heap.size w7 V15 := by rw [<- hV15]; exact (Below.refl _ _).alloc (Nat.le_refl _) _
  have x' : Blk V15 b15 30 #[.slice NY s' ny, .slice OY s' oy] := by rw [<- hV15, hb15]; exact Blk.new _ _ _
  replace RQ := Lib.hid (RQ.out.below hb')
  replace RQO := Lib.hid (RQO.out.below hb')
  replace RM := Lib.hid (RM.out.below hb')
  replace SQ := Lib.hid (SQ.out.below hb')
  replace SQO := Lib.hid (SQO.out.below hb')
  replace SM := Lib.hid (SM.out.below hb')
  replace FQ := Lib.hid (FQ.out.below hb')
  replace FQE := Lib.hid (FQE.out.below hb')
  replace FM := Lib.hid (FM.out.below hb')
  replace TQ := Lib.hid (TQ.out.below hb')
  replace TQE := Lib.hid (TQE.out.below hb')
  replace TM := Lib.hid (TM.out.below hb')
  replace Xb7 := Lib.hid (Blk.below Xb7.out hb' Xb7.out.lt)
  replace Xb8 := Lib.hid (Blk.below Xb8.out hb' Xb8.out.lt)
  replace Xb9 := Lib.hid (Blk.below Xb9.out hb' Xb9.out.lt)
  replace Xb11 := Lib.hid (Blk.below Xb11.out hb' Xb11.out.lt)
  replace Xb13 := Lib.hid (Blk.below Xb13.out hb' Xb13.out.lt)
  replace BB := Lib.hid (BB.out.trans (hb'.mono BB.out.size))
  have Xb15 := Lib.hid x'
  have HV15 := Lib.hid hV15; have Eb15 := Lib.hid hb15
  clear hb' x' hV15 hb15
  have cb90 := Xb9.out.cell 0; have cb91 := Xb9.out.cell 1
  simp only [List.getElem?_toArray, List.getElem?_cons_zero, List.getElem?_cons_succ] at cb90 cb91
  rw [<- HV15.out] at cb90 cb91
  have cb110 := Xb11.out.cell 0; have cb111 := Xb11.out.cell 1
  simp only [List.getElem?_toArray, List.getElem?_cons_zero, List.getElem?_cons_succ] at cb110 cb111
  rw [<- HV15.out] at cb110 cb111
  go_wp2_with fail
  rw [HV15.out, <- Eb15.out]
  clear cb90 cb91 cb110 cb111
  refine (bsame_true RQ.out SQ.out RQO.out SQO.out HQL.out).mono ?_
  rintro e w8 ⟨rfl, hb⟩
  replace RM := Lib.hid (RM.out.below hb)
  replace SM := Lib.hid (SM.out.below hb)
  replace FQ := Lib.hid (FQ.out.below hb)
  replace FQE := Lib.hid (FQE.out.below hb)
  replace FM := Lib.hid (FM.out.below hb)
  replace TQ := Lib.hid (TQ.out.below hb)
  replace TQE := Lib.hid (TQE.out.below hb)
  replace TM := Lib.hid (TM.out.below hb)
  replace BB := Lib.hid (BB.out.trans (hb.mono BB.out.size))
  replace Xb13 := Lib.hid (Blk.below Xb13.out hb Xb13.out.lt)
  replace Xb15 := Lib.hid (Blk.below Xb15.out hb Xb15.out.lt)
  clear hb
  go_wp2_with fail
  refine (ints_true RM.out SM.out).mono ?_
  rintro e w9 ⟨rfl, d, rfl⟩
  replace FQ := Lib.hid (FQ.out.below (below_drewN (Below.refl _ _) d)); replace FQE := Lib.hid (FQE.out.below (below_drewN (Below.refl _ _) d)); replace TQ := Lib.hid (TQ.out.below (below_drewN (Below.refl _ _) d)); replace TQE := Lib.hid (TQE.out.below (below_drewN (Below.refl _ _) d)); replace FM := Lib.hid (FM.out.below (below_drewN (Below.refl _ _) d)); replace TM := Lib.hid (TM.out.below (below_drewN (Below.refl _ _) d))
  have hx13 := Xb13.out.drewN d; have hx15 := Xb15.out.drewN d
  replace BB := Lib.hid (below_drewN BB.out d)
  have c30 := hx13.cell 0; have c31 := hx13.cell 1; have c50 := hx15.cell 0; have c51 := hx15.cell 1
  simp only [List.getElem?_toArray, List.getElem?_cons_zero, List.getElem?_cons_succ] at c30 c31 c50 c51
  generalize w8.drewN d = W9 at *
  go_wp2_with fail
  refine (fsame_true FQ.out TQ.out FQE.out TQE.out HFL.out HQEL.out).mono ?_
  rintro e w10 ⟨rfl, hb⟩
  replace FM := Lib.hid (FM.out.below hb)
  replace TM := Lib.hid (TM.out.below hb)
  replace BB := Lib.hid (BB.out.trans (hb.mono BB.out.size))
  go_wp2_with fail
  refine (ints_true FM.out TM.out).mono ?_
  rintro e w11 ⟨rfl, d, rfl⟩
  go_wp2_with fail
  go_ret
  exact ⟨rfl, below_drewN BB.out d⟩
end Go.Proofs.Ytdcokkgdahbinaa
