/- SegWalks: on from the first to the last, and back, a cursor tells each place's costs. -/
import Derived.Test.YtacgakkcpmhgmaaVSegQ
set_option linter.unusedVariables false
set_option linter.unusedSimpArgs false
set_option maxRecDepth 100000
set_option maxHeartbeats 8000000
namespace Go.Proofs.Ytacgakkcpmhgmaa
open Go Go.RowKit Go.Proofs
def posN (N x : Nat) : Int := if x < N then (x : Int) else (N : Int) - 1
def posZ (y : Int) : Int := if 0 <= y then y else 0
theorem posN_lt {N x : Nat} (h : x < N) : posN N x = (x : Int) := if_pos h
theorem posN_end {N : Nat} : posN N N = (N : Int) - 1 := if_neg (Nat.lt_irrefl _)
theorem posZ_in {y : Int} (h : 0 <= y) : posZ y = y := if_pos h
theorem row_cells {w : World} {A : Option Addr} {n cap : Nat} {l : List V3} (h : ReadsE encV 3 w (.slice A n cap) n l) (hl : l.length = n) (hn : 1 <= n) : ∃ g o, A = some ⟨g, o, none⟩ /\ ∀ x, x < n -> ∀ c, c < 3 -> w.cell? ⟨g, o + x * 3 + c, none⟩ = some (.int .i64 (costAt l c x)) := by
 obtain ⟨g, o, e, -, -⟩ := h.at encV_len (by decide) 0 _ (sgetD_at (d := ((0, 0, 0) : V3)) (by omega))
 refine ⟨g, o, e, fun x hx c hc => ?_⟩
 obtain ⟨g', o', e', -, hcc⟩ := h.at encV_len (by decide) x _ (sgetD_at (d := ((0, 0, 0) : V3)) (by omega))
 rw [e] at e'
 cases e'
 refine hcc c _ ?_
 unfold costAt
 rcases (show c = 0 \/ c = 1 \/ c = 2 by omega) with rfl | rfl | rfl <;> rfl
theorem segWalks_walk (a0 : Int) (a1 : Int) (a2 : Option Addr) (len2 cap2 : Nat) (z2 : List Int) (a3 : Option Addr) (len3 cap3 : Nat) (z3 : List Int) (a4 : Option Addr) (len4 cap4 : Nat) (z4 : List Int) (a5 : Option Addr) (len5 cap5 : Nat) (z5 : List Int) (w : World) (w0 : (Lit.int .i64 a0).wf = true) (w1 : (Lit.int .i64 a1).wf = true) (w2 : IsRow .i64 w a2 len2 cap2 z2) (w3 : IsRow .i64 w a3 len3 cap3 z3) (w4 : IsRow .i64 w a4 len4 cap4 z4) (w5 : IsRow .i64 w a5 len5 cap5 z5) :
  Calls Try.prog 7 #[.int .i64 a0, .int .i64 a1, .slice a2 len2 cap2, .slice a3 len3 cap3, .slice a4 len4 cap4, .slice a5 len5 cap5] w fun e w' => e = .returned (.bool true) /\ Below w.heap.size w w' := by
  have hk := kOf_is a0; have hn := nOf_is a1; have hk9 := kOf_lt a0; have hn9 := nOf_lt a1
  obtain ⟨k, ek⟩ : ∃ k, kOf a0 = k := ⟨_, rfl⟩
  obtain ⟨n, en⟩ : ∃ n, nOf a1 = n := ⟨_, rfl⟩
  rw [ek] at hk hk9
  rw [en] at hn hn9
  clear ek en
  obtain ⟨k0, k9⟩ := hk9
  obtain ⟨n0, n9⟩ := hn9
  have HK := Lib.hid hk; have HN := Lib.hid hn
  have R2 := Lib.hid w2.readsI
  have R3 := Lib.hid w3.readsI
  have R4 := Lib.hid w4.readsI
  have I5 := Lib.hid w5
  clear hk hn w0 w1 w2 w3 w4 w5
  go_enter Try.func7, Try.ntmps7
  go_wp2_with fail
  refine (sknown_any _).mono ?_
  rintro e V1 ⟨rfl, hb⟩
  replace R2 := Lib.hid (R2.out.below hb)
  replace R3 := Lib.hid (R3.out.below hb)
  replace R4 := Lib.hid (R4.out.below hb)
  have HB := Lib.hid hb
  clear hb
  go_wp2_with fail
  refine (make_any R2.out R3.out R4.out a0 a1 HK.out HN.out).mono ?_
  rintro e V2 ⟨vc, vl, vbn, vbo, vfn, vfe, rfl, ht, hb⟩
  replace R2 := Lib.hid (R2.out.below hb)
  replace R3 := Lib.hid (R3.out.below hb)
  replace R4 := Lib.hid (R4.out.below hb)
  replace HB := Lib.hid (HB.out.trans (hb.mono HB.out.size))
  clear hb
  have hrtt := lawTab_right (ns := (z2.take len2)) (ms := (z3.take len3)) (cs := (z4.take len4)) k0 (by omega) n0 (by omega)
  have helt := lawTab_len (ns := (z2.take len2)) (ms := (z3.take len3)) (cs := (z4.take len4)) k0 k9 n0 n9
  obtain ⟨tt, htt⟩ : ∃ t, lawTab (z2.take len2) (z3.take len3) (z4.take len4) k n = t := ⟨_, rfl⟩
  rw [htt] at ht hrtt helt
  have hlens := hrtt.lens helt
  obtain ⟨A0t, k0t, rfl, le0t, lt0t, -⟩ := ht.c.form
  obtain ⟨A1t, k1t, rfl, le1t, lt1t, -⟩ := ht.l.form
  obtain ⟨A2t, k2t, ee, le2t, lt2t⟩ := ht.bn.form
  subst ee
  obtain ⟨A3t, k3t, rfl, le3t, lt3t, -⟩ := ht.bo.form
  obtain ⟨A4t, k4t, ee, le4t, lt4t⟩ := ht.fn.form
  subst ee
  obtain ⟨A5t, k5t, ee, le5t, lt5t⟩ := ht.fe.form
  subst ee
  obtain ⟨m0t, hm0t⟩ : ∃ m, tt.cuts.length = m := ⟨_, rfl⟩
  obtain ⟨m1t, hm1t⟩ : ∃ m, tt.letters.length = m := ⟨_, rfl⟩
  obtain ⟨m2t, hm2t⟩ : ∃ m, tt.bn.length = m := ⟨_, rfl⟩
  obtain ⟨m3t, hm3t⟩ : ∃ m, tt.bo.length = m := ⟨_, rfl⟩
  obtain ⟨m4t, hm4t⟩ : ∃ m, tt.fn.length = m := ⟨_, rfl⟩
  obtain ⟨m5t, hm5t⟩ : ∃ m, tt.fe.length = m := ⟨_, rfl⟩
  rw [hm0t, hm1t, hm2t, hm3t, hm4t, hm5t] at ht hlens
  rw [hm0t] at le0t
  rw [hm1t] at le1t
  rw [hm2t] at le2t
  rw [hm3t] at le3t
  rw [hm4t] at le4t
  rw [hm5t] at le5t
  rw [hm0t, hm1t, hm2t, hm3t, hm4t, hm5t]
  obtain ⟨q0t, q1t, q2t, q3t, q4t, q5t⟩ := hlens
  have HM0t := Lib.hid hm0t
  have HM1t := Lib.hid hm1t
  have HM2t := Lib.hid hm2t
  have HM3t := Lib.hid hm3t
  have HM4t := Lib.hid hm4t
  have HM5t := Lib.hid hm5t
  obtain ⟨bt, hbe⟩ : ∃ b, V2.heap.size = b := ⟨_, rfl⟩
  obtain ⟨V3, hW⟩ : ∃ W, V2.alloc (.cells #[.slice A0t m0t k0t, .slice A1t m1t k1t, .slice A2t m2t k2t, .slice A3t m3t k3t, .slice A4t m4t k4t, .slice A5t m5t k5t] 32) = W := ⟨_, rfl⟩
  have hb : Below V2.heap.size V2 V3 := by rw [<- hW]; exact (Below.refl _ _).alloc (Nat.le_refl _) _
  have Xt : Hid (Blk V3 bt 32 #[.slice A0t m0t k0t, .slice A1t m1t k1t, .slice A2t m2t k2t, .slice A3t m3t k3t, .slice A4t m4t k4t, .slice A5t m5t k5t]) := Lib.hid (by rw [<- hW]; exact Blk.newAt _ hbe _ _)
  replace R2 := Lib.hid (R2.out.below hb)
  replace R3 := Lib.hid (R3.out.below hb)
  replace R4 := Lib.hid (R4.out.below hb)
  have HTt := Lib.hid (ht.below hb)
  replace HB := Lib.hid (HB.out.trans (hb.mono HB.out.size))
  have HRt := Lib.hid hrtt; have HEt := Lib.hid helt; have TEt := Lib.hid htt; have HWt := Lib.hid hW; have HBEt := Lib.hid hbe
  clear ht hrtt helt htt hW hb hbe hm0t hm1t hm2t hm3t hm4t hm5t
  go_wp2_with fail
  rw [HWt.out]
  try simp only [HBEt.out]
  refine (bytes_any a5 len5 cap5 z5 none 0 0 [] w _ HB.out I5.out (.inl ⟨rfl, rfl, rfl, rfl⟩) (by omega)).mono ?_
  rintro e V4 ⟨S, rfl, S9, hb⟩
  replace HTt := Lib.hid (HTt.out.below hb)
  replace Xt := Lib.hid (Blk.below Xt.out hb Xt.out.lt)
  replace HB := Lib.hid (HB.out.trans (hb.mono HB.out.size))
  clear hb
  have hsl := segT_len tt S
  have hci := fun (i : Nat) (h : i < (segT tt S).length) => segT_in HRt.out h
  obtain ⟨L, hL⟩ : ∃ l, segT tt S = l := ⟨_, rfl⟩
  rw [hL] at hsl hci
  obtain ⟨N, hN⟩ : ∃ N, L.length = N := ⟨_, rfl⟩
  rw [hN] at hsl hci
  obtain ⟨N1, N9⟩ := hsl
  have HLE := Lib.hid hL; have HNL := Lib.hid hN; have HCI := Lib.hid hci
  clear hL hN hci
  have N9' : N <= 1301 := by omega
  clear N9
  have c0t := Xt.out.cell 0
  have c1t := Xt.out.cell 1
  have c2t := Xt.out.cell 2
  have c3t := Xt.out.cell 3
  have c4t := Xt.out.cell 4
  have c5t := Xt.out.cell 5
  simp only [List.getElem?_toArray, List.getElem?_cons_zero, List.getElem?_cons_succ] at c0t c1t c2t c3t c4t c5t
  have hnew := snew_any HTt.out S
  rw [segT_ok HRt.out (by omega), HLE.out] at hnew
  dsimp only at hnew
  unfold tabV at hnew
  have HNEW := Lib.hid hnew
  clear hnew
  go_wp2_with fail
  refine HNEW.out.mono ?_
  clear HNEW
  rintro e V5 ⟨bc, Ac, kc, rfl, hcur, hbl, hb⟩
  have HCc := Lib.hid hcur; have HBc := Lib.hid (Nat.le_trans HB.out.size hbl); have HDc := Lib.hid hbl; have HD := Lib.hid hb
  clear hcur hbl
  replace HB := Lib.hid (HB.out.trans (hb.mono HB.out.size))
  clear hb
  clear c0t c1t c2t c3t c4t c5t
  replace HTt := Lib.hid (HTt.out.below HD.out)
  replace Xt := Lib.hid (Blk.below Xt.out HD.out Xt.out.lt)
  have c0t := Xt.out.cell 0
  have c1t := Xt.out.cell 1
  have c2t := Xt.out.cell 2
  have c3t := Xt.out.cell 3
  have c4t := Xt.out.cell 4
  have c5t := Xt.out.cell 5
  simp only [List.getElem?_toArray, List.getElem?_cons_zero, List.getElem?_cons_succ] at c0t c1t c2t c3t c4t c5t
  have hseg := segment_any HTt.out S
  rw [segT_ok HRt.out (by omega), HLE.out] at hseg
  unfold tabV at hseg
  have HSEG := Lib.hid hseg
  clear hseg
  go_wp2_with fail
  refine HSEG.out.mono ?_
  clear HSEG
  rintro e V6 ⟨v, rfl, ⟨AL, cL, rfl, hL, hfar⟩, hb⟩
  dsimp only at hL ⊢
  rw [HNL.out] at hL ⊢
  have HSL := Lib.hid hL
  have HFAR : Hid (∀ p, AL = some p -> p.block ≠ bc) := Lib.hid (fun p hp e => by have h1 := (hfar p hp).1; have h2 := HCc.out.x.lt; omega)
  clear hL hfar
  replace HTt := Lib.hid (HTt.out.below hb)
  replace Xt := Lib.hid (Blk.below Xt.out hb Xt.out.lt)
  replace HCc := Lib.hid (HCc.out.below hb)
  replace HD := Lib.hid (HD.out.trans (hb.mono HD.out.size))
  replace HB := Lib.hid (HB.out.trans (hb.mono HB.out.size))
  clear hb
  clear c0t c1t c2t c3t c4t c5t
  have N1i : ¬ (N : Int) = 0 := by omega
  have N1n : ¬ N = 0 := by omega
  obtain ⟨g, o, eA, hcl⟩ : ∃ g o, AL = some ⟨g, o, none⟩ /\ ∀ x, x < N -> ∀ c, c < 3 -> V6.cell? ⟨g, o + x * 3 + c, none⟩ = some (.int .i64 (costAt L c x)) := row_cells HSL.out HNL.out N1
  subst eA
  have HCL := Lib.hid hcl
  have hgb : ¬ g = bc := HFAR.out _ rfl
  clear hcl
  have HF : Hid (Fr (fun q => q = bc) V6 V6) := Lib.hid (Fr.refl _ _)
  go_wp2_with fail
  go_loopw [18] (fun vi wr => ∃ x : Nat, vi = .int .i64 (x : Int) /\ x <= N /\ Hid (CurS wr bc Ac kc L (posN N x)) /\ Hid (Fr (fun q => q = bc) V6 wr)) (fun vi _ => N - (intOf vi).toNat)
  case atStart => exact ⟨0, rfl, Nat.zero_le _, Lib.hid (by rw [posN_lt (by omega)]; exact HCc.out), HF⟩
  case round =>
   clear HF
   obtain ⟨x, rfl, hx, HC, HF⟩ := hrel
   have x0 : (0 : Int) <= (x : Int) := Int.natCast_nonneg _
   by_cases hlt : x < N
   ·have x1 : (x : Int) < (N : Int) := by omega
    have hwr : IntKind.i64.wrap ((x : Int) + 1) = (x : Int) + 1 := IntWalk.i64_in _ (by omega)
    rw [posN_lt hlt] at HC
    go_wp2_with fail
    refine (sat_any HC.out).mono ?_
    rintro e w1 ⟨rfl, hb⟩
    rw [rowAt_in (by rw [HNL.out]; exact hlt)]
    obtain ⟨⟨p1, p2, p3⟩, hu⟩ : ∃ u, L.getD x (0, 0, 0) = u := ⟨_, rfl⟩
    rw [hu]
    have q0 := HCL.out x hlt 0 (by decide); have q1 := HCL.out x hlt 1 (by decide); have q2 := HCL.out x hlt 2 (by decide)
    have e0 : costAt L 0 x = p1 := by unfold costAt; rw [hu]; rfl
    have e1 : costAt L 1 x = p2 := by unfold costAt; rw [hu]; rfl
    have e2 : costAt L 2 x = p3 := by unfold costAt; rw [hu]; rfl
    rw [e0, Nat.add_zero] at q0
    rw [e1] at q1
    rw [e2] at q2
    clear e0 e1 e2 hu
    unfold vcV
    dsimp only
    obtain ⟨bx, hbx⟩ : ∃ b, w1.heap.size = b := ⟨_, rfl⟩
    have hbb : ¬ bx = bc := by have h1 := HC.out.x.lt; have h2 := hb.size; omega
    obtain ⟨W2, hW2⟩ : ∃ W, w1.alloc (.cells #[.int .i64 p1, .int .i64 p2, .int .i64 p3] 51) = W := ⟨_, rfl⟩
    have hb2 : Below w1.heap.size w1 W2 := by rw [<- hW2]; exact (Below.refl _ _).alloc (Nat.le_refl _) _
    have hX := Blk.newAt w1 hbx #[.int .i64 p1, .int .i64 p2, .int .i64 p3] 51
    rw [hW2] at hX
    replace hb := (hb.trans (hb2.mono hb.size)).drew
    have hc2 := HC.out.below hb
    have hff : Fr (fun q => q = bc) V6 W2.drew := HF.out.trans (Fr.of_below hb)
    have hS : (fun W : World => (W.cell? ⟨bx, 0, none⟩ = some (.int .i64 p1) /\ W.cell? ⟨bx, 1, none⟩ = some (.int .i64 p2) /\ W.cell? ⟨bx, 2, none⟩ = some (.int .i64 p3)) /\ W.cell? ⟨g, o + x * 3, none⟩ = some (.int .i64 p1) /\ W.cell? ⟨g, o + x * 3 + 1, none⟩ = some (.int .i64 p2) /\ W.cell? ⟨g, o + x * 3 + 2, none⟩ = some (.int .i64 p3)) W2.drew := ⟨⟨hX.cell 0, hX.cell 1, hX.cell 2⟩, hff.cell q0 hgb, hff.cell q1 hgb, hff.cell q2 hgb⟩
    have HX := Lib.hid hX; have HC2 := Lib.hid hc2; have HFF := Lib.hid hff; have HQ0 := Lib.hid q0; have HQ1 := Lib.hid q1; have HQ2 := Lib.hid q2; have HW2 := Lib.hid hW2; have HBX := Lib.hid hbx
    clear hX hc2 hff q0 q1 q2 hW2 hbx hb hb2
    go_wp2_with fail
    rw [HW2.out]
    try simp only [HBX.out]
    have qv := seqVec p1 p2 p3 p1 p2 p3
    rw [sveq_refl] at qv
    refine region_y 20 (fun W : World => (W.cell? ⟨bx, 0, none⟩ = some (.int .i64 p1) /\ W.cell? ⟨bx, 1, none⟩ = some (.int .i64 p2) /\ W.cell? ⟨bx, 2, none⟩ = some (.int .i64 p3)) /\ W.cell? ⟨g, o + x * 3, none⟩ = some (.int .i64 p1) /\ W.cell? ⟨g, o + x * 3 + 1, none⟩ = some (.int .i64 p2) /\ W.cell? ⟨g, o + x * 3 + 2, none⟩ = some (.int .i64 p3)) (by kernel_rfl) ?_
    refine tkyg [11, 3, 2] (i := 0) (v := ?_) hS ?_ ?_
    rotate_left
    ·rintro w' ⟨⟨s1, s2, s3⟩, s4, s5, s6⟩
     go_simp
     try with_reducible rfl
    try simp only [Act.put, zq1, zq2, zq3, zq4, zq5, zq6]
    refine tkyg [11, 3, 2] (i := 1) (v := ?_) hS ?_ ?_
    rotate_left
    ·rintro w' ⟨⟨s1, s2, s3⟩, s4, s5, s6⟩
     go_simp
     try with_reducible rfl
    try simp only [Act.put, zq1, zq2, zq3, zq4, zq5, zq6]
    refine tkyg [11, 3] (i := 2) (v := ?_) hS ?_ ?_
    rotate_left
    ·rintro w' ⟨⟨s1, s2, s3⟩, s4, s5, s6⟩
     go_simp
     try with_reducible rfl
    try simp only [Act.put, zq1, zq2, zq3, zq4, zq5, zq6]
    refine tkyg [11] (i := 3) (v := ?_) hS ?_ ?_
    rotate_left
    ·rintro w' ⟨⟨s1, s2, s3⟩, s4, s5, s6⟩
     go_simp
     try with_reducible rfl
    try simp only [Act.put, zq1, zq2, zq3, zq4, zq5, zq6]
    refine tkyg [11, 10, 9] (i := 4) (v := ?_) hS ?_ ?_
    rotate_left
    ·rintro w' ⟨⟨s1, s2, s3⟩, s4, s5, s6⟩
     go_simp
     try with_reducible rfl
    try simp only [Act.put, zq1, zq2, zq3, zq4, zq5, zq6]
    refine tkyg [11, 10, 9, 8, 7] (i := 5) (v := ?_) hS ?_ ?_
    rotate_left
    ·rintro w' ⟨⟨s1, s2, s3⟩, s4, s5, s6⟩
     go_simp
     try with_reducible rfl
    try simp only [Act.put, zq1, zq2, zq3, zq4, zq5, zq6]
    refine tkyg [11, 10, 9, 8, 7] (i := 6) (v := ?_) hS ?_ ?_
    rotate_left
    ·rintro w' ⟨⟨s1, s2, s3⟩, s4, s5, s6⟩
     go_simp
     try with_reducible rfl
    try simp only [Act.put, zq1, zq2, zq3, zq4, zq5, zq6]
    refine tkyg [11, 10, 9, 8] (i := 7) (v := ?_) hS ?_ ?_
    rotate_left
    ·rintro w' ⟨⟨s1, s2, s3⟩, s4, s5, s6⟩
     go_simp
     try with_reducible rfl
    try simp only [Act.put, zq1, zq2, zq3, zq4, zq5, zq6]
    refine tkyg [11, 10, 9] (i := 8) (v := ?_) hS ?_ ?_
    rotate_left
    ·rintro w' ⟨⟨s1, s2, s3⟩, s4, s5, s6⟩
     go_simp
     try with_reducible rfl
    try simp only [Act.put, zq1, zq2, zq3, zq4, zq5, zq6]
    refine tkyg [11, 10] (i := 9) (v := ?_) hS ?_ ?_
    rotate_left
    ·rintro w' ⟨⟨s1, s2, s3⟩, s4, s5, s6⟩
     go_simp
     try with_reducible rfl
    try simp only [Act.put, zq1, zq2, zq3, zq4, zq5, zq6]
    refine tkyg [11] (i := 10) (v := ?_) hS ?_ ?_
    rotate_left
    ·rintro w' ⟨⟨s1, s2, s3⟩, s4, s5, s6⟩
     go_simp
     try with_reducible rfl
    try simp only [Act.put, zq1, zq2, zq3, zq4, zq5, zq6]
    refine tky (i := 11) (v := ?_) hS ?_ ?_
    rotate_left
    ·rintro w' ⟨⟨s1, s2, s3⟩, s4, s5, s6⟩
     go_simp
     try with_reducible rfl
    try simp only [Act.put, zq1, zq2, zq3, zq4, zq5, zq6]
    refine tkyg [19, 13] (i := 12) (v := ?_) hS ?_ ?_
    rotate_left
    ·rintro w' ⟨⟨s1, s2, s3⟩, s4, s5, s6⟩
     go_simp
     try with_reducible rfl
    try simp only [Act.put, zq1, zq2, zq3, zq4, zq5, zq6]
    refine tkyg [19, 18, 15] (i := 14) (v := ?_) hS ?_ ?_
    rotate_left
    ·rintro w' ⟨⟨s1, s2, s3⟩, s4, s5, s6⟩
     go_simp
     try with_reducible rfl
    try simp only [Act.put, zq1, zq2, zq3, zq4, zq5, zq6]
    refine tkyg [19, 18] (i := 15) (v := ?_) hS ?_ ?_
    rotate_left
    ·rintro w' ⟨⟨s1, s2, s3⟩, s4, s5, s6⟩
     go_simp
     try with_reducible rfl
    try simp only [Act.put, zq1, zq2, zq3, zq4, zq5, zq6]
    refine tkyg [19, 18, 17] (i := 16) (v := ?_) hS ?_ ?_
    rotate_left
    ·rintro w' ⟨⟨s1, s2, s3⟩, s4, s5, s6⟩
     go_simp
     try with_reducible rfl
    try simp only [Act.put, zq1, zq2, zq3, zq4, zq5, zq6]
    refine tkyg [19, 18] (i := 17) (v := ?_) hS ?_ ?_
    rotate_left
    ·rintro w' ⟨⟨s1, s2, s3⟩, s4, s5, s6⟩
     go_simp
     try with_reducible rfl
    try simp only [Act.put, zq1, zq2, zq3, zq4, zq5, zq6]
    refine tkyg [19] (i := 18) (v := ?_) hS ?_ ?_
    rotate_left
    ·rintro w' ⟨⟨s1, s2, s3⟩, s4, s5, s6⟩
     go_simp
     try with_reducible rfl
    try simp only [Act.put, zq1, zq2, zq3, zq4, zq5, zq6]
    refine anyY_gw (i := 13) (by kernel_rfl) rfl (by rfl) ?_
    intro K hK
    try simp only [zq1, zq2, zq3]
    refine wp_enterE #[.pointer (some ⟨bc, 0, none⟩)] Try.func29 (by kernel_rfl) (by kernel_rfl) ?_ (snext_any (show CurS W2.drew bc Ac kc L (x : Int) from HC2.out) (by omega) (by omega)) ?_
    ·go_simp
    intro e W3 hse
    unfold SeekO at hse
    obtain ⟨r, rfl, hr, hcur, hf⟩ := hse
    rw [HNL.out] at hr
    have hf3 := HFF.out.trans hf
    have hX3 := hf.blk (show Blk W2.drew bx _ _ from HX.out) hbb
    replace hS : (fun W : World => (W.cell? ⟨bx, 0, none⟩ = some (.int .i64 p1) /\ W.cell? ⟨bx, 1, none⟩ = some (.int .i64 p2) /\ W.cell? ⟨bx, 2, none⟩ = some (.int .i64 p3)) /\ W.cell? ⟨g, o + x * 3, none⟩ = some (.int .i64 p1) /\ W.cell? ⟨g, o + x * 3 + 1, none⟩ = some (.int .i64 p2) /\ W.cell? ⟨g, o + x * 3 + 2, none⟩ = some (.int .i64 p3)) W3 := ⟨⟨hX3.cell 0, hX3.cell 1, hX3.cell 2⟩, hf3.cell HQ0.out hgb, hf3.cell HQ1.out hgb, hf3.cell HQ2.out hgb⟩
    have hrr : r = decide ((x : Int) + 1 < (N : Int)) := by
     by_cases h : (x : Int) + 1 < (N : Int)
     ·rw [hr.2 ⟨by omega, h⟩]; simp [h]
     ·cases r with
      | false => simp [h]
      | true => exact absurd (hr.1 rfl).2 h
    have HCN : Hid (CurS W3 bc Ac kc L (posN N (x + 1))) := Lib.hid (by
     unfold posN
     by_cases h : x + 1 < N
     ·rw [if_pos h]; have h2 : r = true := by rw [hrr]; simp; omega
      rw [if_pos h2] at hcur; exact hcur
     ·rw [if_neg h]; have h2 : ¬ r = true := by rw [hrr]; simp; omega
      rw [if_neg h2] at hcur; rw [show (N : Int) - 1 = (x : Int) by omega]; exact hcur)
    subst hrr
    clear hr hcur
    have bq : ∀ s : Bool, (s == s) = true := fun s => by cases s <;> rfl
    have HF3 := Lib.hid hf3
    clear hf hf3 hX3
    refine ⟨_, rfl, ?_⟩
    refine hK _ _ hS ?_
    clear hK
    try simp only [Act.put, zq1, zq2, zq3, zq4, zq5, zq6]
    refine tky (i := 19) (v := ?_) hS ?_ ?_
    rotate_left
    ·rintro w' ⟨⟨s1, s2, s3⟩, s4, s5, s6⟩
     go_simp
     try with_reducible rfl
    try simp only [Act.put, zq1, zq2, zq3, zq4, zq5, zq6]
    refine anyY_last (i := 20) (by kernel_rfl) (by kernel_rfl) (by kernel_rfl) rfl rfl ?_
    try simp only [zq1, zq2, zq3]
    go_simp
    try apply_assumption
    go_wp2_with fail
    exact ⟨⟨x + 1, by go_num, by omega, HCN⟩, by simp [intOf]; omega⟩
   ·have hNx : x = N := by omega
    subst hNx
    rw [posN_end] at HC
    go_wp2_with fail
    obtain ⟨W7, hW7⟩ : ∃ W, W = wr := ⟨_, rfl⟩
    subst hW7
    go_loopw [21] (fun vi wr => ∃ y : Int, vi = .int .i64 y /\ -1 <= y /\ y < (x : Int) /\ Hid (CurS wr bc Ac kc L (posZ y)) /\ Hid (Fr (fun q => q = bc) V6 wr)) (fun vi _ => (intOf vi + 1).toNat)
    case atStart => exact ⟨(x : Int) - 1, by go_num, by omega, by omega, Lib.hid (by rw [posZ_in (by omega)]; exact HC.out), HF⟩
    case round =>
     clear HC HF hlt
     obtain ⟨y, rfl, hy1, hy2, HC, HF⟩ := hrel
     by_cases h0 : 0 <= y
     ·obtain ⟨N, hN⟩ : ∃ N, N = x := ⟨_, rfl⟩
      subst hN
      obtain ⟨x, hx9⟩ : ∃ x : Nat, y = (x : Int) := ⟨y.toNat, by omega⟩
      subst hx9
      have hlt : x < N := by omega
      rw [posZ_in h0] at HC
      have x1 : (x : Int) < (N : Int) := by omega
      go_wp2_with fail
      refine (sat_any HC.out).mono ?_
      rintro e w1 ⟨rfl, hb⟩
      rw [rowAt_in (by rw [HNL.out]; exact hlt)]
      obtain ⟨⟨p1, p2, p3⟩, hu⟩ : ∃ u, L.getD x (0, 0, 0) = u := ⟨_, rfl⟩
      rw [hu]
      have q0 := HCL.out x hlt 0 (by decide); have q1 := HCL.out x hlt 1 (by decide); have q2 := HCL.out x hlt 2 (by decide)
      have e0 : costAt L 0 x = p1 := by unfold costAt; rw [hu]; rfl
      have e1 : costAt L 1 x = p2 := by unfold costAt; rw [hu]; rfl
      have e2 : costAt L 2 x = p3 := by unfold costAt; rw [hu]; rfl
      rw [e0, Nat.add_zero] at q0
      rw [e1] at q1
      rw [e2] at q2
      clear e0 e1 e2 hu
      unfold vcV
      dsimp only
      obtain ⟨bx, hbx⟩ : ∃ b, w1.heap.size = b := ⟨_, rfl⟩
      have hbb : ¬ bx = bc := by have h1 := HC.out.x.lt; have h2 := hb.size; omega
      obtain ⟨W2, hW2⟩ : ∃ W, w1.alloc (.cells #[.int .i64 p1, .int .i64 p2, .int .i64 p3] 51) = W := ⟨_, rfl⟩
      have hb2 : Below w1.heap.size w1 W2 := by rw [<- hW2]; exact (Below.refl _ _).alloc (Nat.le_refl _) _
      have hX := Blk.newAt w1 hbx #[.int .i64 p1, .int .i64 p2, .int .i64 p3] 51
      rw [hW2] at hX
      replace hb := (hb.trans (hb2.mono hb.size)).drew
      have hc2 := HC.out.below hb
      have hff : Fr (fun q => q = bc) V6 W2.drew := HF.out.trans (Fr.of_below hb)
      have hS : (fun W : World => (W.cell? ⟨bx, 0, none⟩ = some (.int .i64 p1) /\ W.cell? ⟨bx, 1, none⟩ = some (.int .i64 p2) /\ W.cell? ⟨bx, 2, none⟩ = some (.int .i64 p3)) /\ W.cell? ⟨g, o + x * 3, none⟩ = some (.int .i64 p1) /\ W.cell? ⟨g, o + x * 3 + 1, none⟩ = some (.int .i64 p2) /\ W.cell? ⟨g, o + x * 3 + 2, none⟩ = some (.int .i64 p3)) W2.drew := ⟨⟨hX.cell 0, hX.cell 1, hX.cell 2⟩, hff.cell q0 hgb, hff.cell q1 hgb, hff.cell q2 hgb⟩
      have HX := Lib.hid hX; have HC2 := Lib.hid hc2; have HFF := Lib.hid hff; have HQ0 := Lib.hid q0; have HQ1 := Lib.hid q1; have HQ2 := Lib.hid q2; have HW2 := Lib.hid hW2; have HBX := Lib.hid hbx
      clear hX hc2 hff q0 q1 q2 hW2 hbx hb hb2
      go_wp2_with fail
      rw [HW2.out]
      try simp only [HBX.out]
      have qv := seqVec p1 p2 p3 p1 p2 p3
      rw [sveq_refl] at qv
      refine region_y 17 (fun W : World => (W.cell? ⟨bx, 0, none⟩ = some (.int .i64 p1) /\ W.cell? ⟨bx, 1, none⟩ = some (.int .i64 p2) /\ W.cell? ⟨bx, 2, none⟩ = some (.int .i64 p3)) /\ W.cell? ⟨g, o + x * 3, none⟩ = some (.int .i64 p1) /\ W.cell? ⟨g, o + x * 3 + 1, none⟩ = some (.int .i64 p2) /\ W.cell? ⟨g, o + x * 3 + 2, none⟩ = some (.int .i64 p3)) (by kernel_rfl) ?_
      refine tkyg [11, 3, 2] (i := 0) (v := ?_) hS ?_ ?_
      rotate_left
      ·rintro w' ⟨⟨s1, s2, s3⟩, s4, s5, s6⟩
       go_simp
       try with_reducible rfl
      try simp only [Act.put, zq1, zq2, zq3, zq4, zq5, zq6]
      refine tkyg [11, 3, 2] (i := 1) (v := ?_) hS ?_ ?_
      rotate_left
      ·rintro w' ⟨⟨s1, s2, s3⟩, s4, s5, s6⟩
       go_simp
       try with_reducible rfl
      try simp only [Act.put, zq1, zq2, zq3, zq4, zq5, zq6]
      refine tkyg [11, 3] (i := 2) (v := ?_) hS ?_ ?_
      rotate_left
      ·rintro w' ⟨⟨s1, s2, s3⟩, s4, s5, s6⟩
       go_simp
       try with_reducible rfl
      try simp only [Act.put, zq1, zq2, zq3, zq4, zq5, zq6]
      refine tkyg [11] (i := 3) (v := ?_) hS ?_ ?_
      rotate_left
      ·rintro w' ⟨⟨s1, s2, s3⟩, s4, s5, s6⟩
       go_simp
       try with_reducible rfl
      try simp only [Act.put, zq1, zq2, zq3, zq4, zq5, zq6]
      refine tkyg [11, 10, 9] (i := 4) (v := ?_) hS ?_ ?_
      rotate_left
      ·rintro w' ⟨⟨s1, s2, s3⟩, s4, s5, s6⟩
       go_simp
       try with_reducible rfl
      try simp only [Act.put, zq1, zq2, zq3, zq4, zq5, zq6]
      refine tkyg [11, 10, 9, 8, 7] (i := 5) (v := ?_) hS ?_ ?_
      rotate_left
      ·rintro w' ⟨⟨s1, s2, s3⟩, s4, s5, s6⟩
       go_simp
       try with_reducible rfl
      try simp only [Act.put, zq1, zq2, zq3, zq4, zq5, zq6]
      refine tkyg [11, 10, 9, 8, 7] (i := 6) (v := ?_) hS ?_ ?_
      rotate_left
      ·rintro w' ⟨⟨s1, s2, s3⟩, s4, s5, s6⟩
       go_simp
       try with_reducible rfl
      try simp only [Act.put, zq1, zq2, zq3, zq4, zq5, zq6]
      refine tkyg [11, 10, 9, 8] (i := 7) (v := ?_) hS ?_ ?_
      rotate_left
      ·rintro w' ⟨⟨s1, s2, s3⟩, s4, s5, s6⟩
       go_simp
       try with_reducible rfl
      try simp only [Act.put, zq1, zq2, zq3, zq4, zq5, zq6]
      refine tkyg [11, 10, 9] (i := 8) (v := ?_) hS ?_ ?_
      rotate_left
      ·rintro w' ⟨⟨s1, s2, s3⟩, s4, s5, s6⟩
       go_simp
       try with_reducible rfl
      try simp only [Act.put, zq1, zq2, zq3, zq4, zq5, zq6]
      refine tkyg [11, 10] (i := 9) (v := ?_) hS ?_ ?_
      rotate_left
      ·rintro w' ⟨⟨s1, s2, s3⟩, s4, s5, s6⟩
       go_simp
       try with_reducible rfl
      try simp only [Act.put, zq1, zq2, zq3, zq4, zq5, zq6]
      refine tkyg [11] (i := 10) (v := ?_) hS ?_ ?_
      rotate_left
      ·rintro w' ⟨⟨s1, s2, s3⟩, s4, s5, s6⟩
       go_simp
       try with_reducible rfl
      try simp only [Act.put, zq1, zq2, zq3, zq4, zq5, zq6]
      refine tky (i := 11) (v := ?_) hS ?_ ?_
      rotate_left
      ·rintro w' ⟨⟨s1, s2, s3⟩, s4, s5, s6⟩
       go_simp
       try with_reducible rfl
      try simp only [Act.put, zq1, zq2, zq3, zq4, zq5, zq6]
      refine tkyg [16, 13] (i := 12) (v := ?_) hS ?_ ?_
      rotate_left
      ·rintro w' ⟨⟨s1, s2, s3⟩, s4, s5, s6⟩
       go_simp
       try with_reducible rfl
      try simp only [Act.put, zq1, zq2, zq3, zq4, zq5, zq6]
      refine tkyg [16, 15] (i := 14) (v := ?_) hS ?_ ?_
      rotate_left
      ·rintro w' ⟨⟨s1, s2, s3⟩, s4, s5, s6⟩
       go_simp
       try with_reducible rfl
      try simp only [Act.put, zq1, zq2, zq3, zq4, zq5, zq6]
      refine tkyg [16] (i := 15) (v := ?_) hS ?_ ?_
      rotate_left
      ·rintro w' ⟨⟨s1, s2, s3⟩, s4, s5, s6⟩
       go_simp
       try with_reducible rfl
      try simp only [Act.put, zq1, zq2, zq3, zq4, zq5, zq6]
      refine anyY_gw (i := 13) (by kernel_rfl) rfl (by rfl) ?_
      intro K hK
      try simp only [zq1, zq2, zq3]
      refine wp_enterE #[.pointer (some ⟨bc, 0, none⟩)] Try.func30 (by kernel_rfl) (by kernel_rfl) ?_ (sprev_any (show CurS W2.drew bc Ac kc L (x : Int) from HC2.out) (by omega) (by omega)) ?_
      ·go_simp
      intro e W3 hse
      unfold SeekO at hse
      obtain ⟨r, rfl, hr, hcur, hf⟩ := hse
      rw [HNL.out] at hr
      have hf3 := HFF.out.trans hf
      have hX3 := hf.blk (show Blk W2.drew bx _ _ from HX.out) hbb
      replace hS : (fun W : World => (W.cell? ⟨bx, 0, none⟩ = some (.int .i64 p1) /\ W.cell? ⟨bx, 1, none⟩ = some (.int .i64 p2) /\ W.cell? ⟨bx, 2, none⟩ = some (.int .i64 p3)) /\ W.cell? ⟨g, o + x * 3, none⟩ = some (.int .i64 p1) /\ W.cell? ⟨g, o + x * 3 + 1, none⟩ = some (.int .i64 p2) /\ W.cell? ⟨g, o + x * 3 + 2, none⟩ = some (.int .i64 p3)) W3 := ⟨⟨hX3.cell 0, hX3.cell 1, hX3.cell 2⟩, hf3.cell HQ0.out hgb, hf3.cell HQ1.out hgb, hf3.cell HQ2.out hgb⟩
      have hrr : r = decide (0 < (x : Int)) := by
       by_cases h : 0 < (x : Int)
       ·rw [hr.2 ⟨by omega, by omega⟩]; exact (decide_eq_true h).symm
       ·cases r with
        | false => exact (decide_eq_false h).symm
        | true => exact absurd (hr.1 rfl).1 (by omega)
      have HCN : Hid (CurS W3 bc Ac kc L (posZ ((x : Int) - 1))) := Lib.hid (by
       unfold posZ
       by_cases h : 0 < (x : Int)
       ·rw [if_pos (by omega)]; have h2 : r = true := by rw [hrr]; simp; omega
        rw [if_pos h2] at hcur; exact hcur
       ·rw [if_neg (by omega)]; have h2 : ¬ r = true := by rw [hrr]; simp; omega
        rw [if_neg h2] at hcur; rw [show (0 : Int) = (x : Int) by omega]; exact hcur)
      subst hrr
      clear hr hcur
      have bq : ∀ s : Bool, (s == s) = true := fun s => by cases s <;> rfl
      have HF3 := Lib.hid hf3
      clear hf hf3 hX3
      refine ⟨_, rfl, ?_⟩
      refine hK _ _ hS ?_
      clear hK
      try simp only [Act.put, zq1, zq2, zq3, zq4, zq5, zq6]
      refine tky (i := 16) (v := ?_) hS ?_ ?_
      rotate_left
      ·rintro w' ⟨⟨s1, s2, s3⟩, s4, s5, s6⟩
       go_simp
       try with_reducible rfl
      try simp only [Act.put, zq1, zq2, zq3, zq4, zq5, zq6]
      refine anyY_last (i := 17) (by kernel_rfl) (by kernel_rfl) (by kernel_rfl) rfl rfl ?_
      try simp only [zq1, zq2, zq3]
      go_simp
      try apply_assumption
      go_wp2_with fail
      exact ⟨⟨by omega, by omega⟩, by simp only [intOf]; omega⟩
     ·have y1 : ¬ 0 <= y := h0
      have y2 : y < 0 := by omega
      go_wp2_with fail
      go_ret
      exact ⟨rfl, seek_below HB.out HBc.out HF.out⟩
end Go.Proofs.Ytacgakkcpmhgmaa
