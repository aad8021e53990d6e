/- MiniNames -/
import Derived.Test.YtdcokkgdahbinaaVMiniMa
set_option linter.unusedVariables false
set_option linter.unusedSimpArgs false
set_option maxRecDepth 100000
set_option maxHeartbeats 8000000
namespace Go.Proofs.Ytdcokkgdahbinaa
open Go Go.RowKit Go.Proofs
theorem miniNames_walk (a0 : Int) (a1 : Int) (a2 : Option Addr) (len2 cap2 : Nat) (z2 : List Int) (w : World) (w0 : (Lit.int .i64 a0).wf = true) (w1 : (Lit.int .i64 a1).wf = true) (w2 : IsRow .i64 w a2 len2 cap2 z2) :
  Calls Try.prog 9 #[.int .i64 a0, .int .i64 a1, .slice a2 len2 cap2] w fun e w' => e = .returned (.bool true) /\ Below w.heap.size w w' := by
  have hk := kOf_is a0; have hn := nOf_is a1; have hk9 := kOf_lt a0; have hn9 := nOf_lt a1
  obtain ⟨k, ek⟩ : ∃ k, kOf a0 = k := ⟨_, rfl⟩
  obtain ⟨n, en⟩ : ∃ n, nOf a1 = n := ⟨_, rfl⟩
  rw [ek] at hk hk9
  rw [en] at hn hn9
  clear ek en
  obtain ⟨k0, k9⟩ := hk9
  obtain ⟨n0, n9⟩ := hn9
  have hT := law_rect (z2.take len2) (k := k) (n := n) k0
  have hTl := lawT_len (z2.take len2) k n
  have hOl := lawO_len (z2.take len2) k n
  have hO2 := lawO_lt (z2.take len2) k n
  obtain ⟨T, eT⟩ : ∃ T, lawT (z2.take len2) k n = T := ⟨_, rfl⟩
  obtain ⟨O, eO⟩ : ∃ O, lawO (z2.take len2) k n = O := ⟨_, rfl⟩
  rw [eT] at hT hTl
  rw [eO] at hOl hO2
  have RI := Lib.hid w2.readsI
  have HK := Lib.hid hk; have HN := Lib.hid hn; have HT := Lib.hid hT; have HTL := Lib.hid hTl; have HOL := Lib.hid hOl; have HO2 := Lib.hid hO2; have ET := Lib.hid eT; have EO := Lib.hid eO
  clear hk hn hT hTl hOl hO2 eT eO w0 w1 w2
  go_enter Try.func9, Try.ntmps9
  go_wp2_with fail
  refine (known_any _).mono ?_
  rintro e w1 ⟨rfl, hb⟩
  replace RI := Lib.hid (RI.out.below hb)
  have BB := Lib.hid hb
  clear hb
  go_wp2_with fail
  refine (lawBack_any RI.out a0 a1 HK.out HN.out).mono ?_
  rintro e w2 ⟨vn, vo, rfl, hn, ho, hb⟩
  rw [ET.out] at hn
  rw [EO.out] at ho
  have hN : NextR w2 vn T := hn.nextR HTL.out (fun i hi => xssT_at T hi)
  have hO := ho.readsI
  obtain ⟨NA, nc, e, hnc, hnc2⟩ := hN.form
  rw [HTL.out] at e hnc
  subst e
  obtain ⟨OA, oc, rfl, hoc, hoc2, -⟩ := hO.form
  replace BB := Lib.hid (BB.out.trans (hb.mono BB.out.size))
  have RI2 := Lib.hid (RI.out.below hb)
  have RN := Lib.hid hN; have RO := Lib.hid hO
  clear hn ho hb hN hO RI
  obtain ⟨b7, hb7⟩ : ∃ b, b = w2.heap.size := ⟨_, rfl⟩
  obtain ⟨W3, hW3⟩ : ∃ W, w2.alloc (.cells #[.slice NA k nc, .slice OA k oc] 26) = W := ⟨_, rfl⟩
  have hb3 : Below w2.heap.size w2 W3 := by rw [<- hW3]; exact (Below.refl _ _).alloc (Nat.le_refl _) _
  have x7 : Blk W3 b7 26 #[.slice NA k nc, .slice OA k oc] := by rw [<- hW3, hb7]; exact Blk.new _ _ _
  replace BB := Lib.hid (BB.out.trans (hb3.mono BB.out.size))
  replace RI2 := Lib.hid (RI2.out.below hb3)
  replace RN := Lib.hid (RN.out.below hb3)
  replace RO := Lib.hid (RO.out.below hb3)
  have X7 := Lib.hid x7
  have HW3 := Lib.hid hW3; have HB7 := Lib.hid hb7
  clear hb3 x7 hW3 hb7
  go_wp2_with fail
  rw [HW3.out, <- HB7.out]
  refine (back_any RN.out HTL.out HT.out RO.out (by omega) (by omega) (fun x => by have := HO2.out x; omega)).mono ?_
  rintro e w4 ⟨vn, vo, gn, f, rfl, hf, hn, ho, hm, hb⟩
  have hS : StepN T n (EF f) := EF.step HT.out (fun x y hx hy => hf x y (by rw [<- HTL.out]; exact hx) (by rw [<- HTL.out]; exact hy))
  have hQ := quo_next HT.out hS hn
  have hQO := ho.readsI
  rw [quoO_is] at hQO
  have hNM := hm.readsI
  obtain ⟨r, hr⟩ : ∃ r, (repN T (EF f)).length = r := ⟨_, rfl⟩
  have hr9 : r <= k := by rw [<- hr, <- HTL.out]; exact rep_len HT.out (EF.eqv f)
  have hr0 : 0 < r := by rw [<- hr]; exact rep_pos
  have hQl : (quoN T (EF f)).length = r := by rw [quo_len, hr]
  rw [hr] at hQO
  obtain ⟨NB, nd, e, hnd, hnd2⟩ := hQ.form
  rw [hQl] at e hnd
  subst e
  obtain ⟨OB, od, rfl, hod, hod2, -⟩ := hQO.form
  have RQ := Lib.hid hQ; have RQO := Lib.hid hQO; have RM := Lib.hid hNM; have HF := Lib.hid hf; have HS := Lib.hid hS; have HR := Lib.hid hr; have HQL := Lib.hid hQl
  replace BB := Lib.hid (BB.out.trans (hb.mono BB.out.size))
  replace RI2 := Lib.hid (RI2.out.below hb)
  replace RN := Lib.hid (RN.out.below hb)
  replace RO := Lib.hid (RO.out.below hb)
  replace X7 := Lib.hid (Blk.below X7.out hb X7.out.lt)
  clear hf hn ho hm hb hS hQ hQO hNM hr hQl
  obtain ⟨W5, hW5⟩ : ∃ W, w4.alloc (.cells #[.slice NB r nd, .slice OB r od] 26) = W := ⟨_, rfl⟩
  obtain ⟨b8, hb8⟩ : ∃ b, b = w4.heap.size := ⟨_, rfl⟩
  have hb5 : Below w4.heap.size w4 W5 := by rw [<- hW5]; exact (Below.refl _ _).alloc (Nat.le_refl _) _
  have x8 : Blk W5 b8 26 #[.slice NB r nd, .slice OB r od] := by rw [<- hW5, hb8]; exact Blk.new _ _ _
  have x7 := Blk.below X7.out hb5 X7.out.lt
  have c70 := x7.cell 0; have c71 := x7.cell 1; have c80 := x8.cell 0; have c81 := x8.cell 1
  simp only [List.getElem?_toArray, List.getElem?_cons_zero, List.getElem?_cons_succ] at c70 c71 c80 c81
  replace BB := Lib.hid (BB.out.trans (hb5.mono BB.out.size))
  replace RI2 := Lib.hid (RI2.out.below hb5)
  replace RN := Lib.hid (RN.out.below hb5)
  replace RO := Lib.hid (RO.out.below hb5)
  replace RQ := Lib.hid (RQ.out.below hb5)
  replace RQO := Lib.hid (RQO.out.below hb5)
  replace RM := Lib.hid (RM.out.below hb5)
  replace X7 := Lib.hid x7
  have X8 := Lib.hid x8
  have HW5 := Lib.hid hW5; have HB8 := Lib.hid hb8
  clear hb5 x8 x7 hb8 hW5
  have c90 := RM.out.at 0 (by omega)
  obtain ⟨g9, o9, e9, -, c90⟩ := c90
  simp only [sl, Option.some.injEq, Addr.mk.injEq, and_true] at e9
  obtain ⟨rfl, rfl⟩ := e9
  rw [rowZ_get _ (by omega), name_zero (EF.eqv f), Nat.zero_add] at c90
  have kn1 : ((k : Int) == (k : Int)) = true := by simp
  rw [<- HW5.out] at c70 c71 c80 c81 c90
  go_wp2_with fail
  rw [HW5.out, <- HB8.out]
  clear c70 c71 c80 c81 c90 kn1
  have c70 := X7.out.cell 0; have c71 := X7.out.cell 1; have c80 := X8.out.cell 0; have c81 := X8.out.cell 1
  simp only [List.getElem?_toArray, List.getElem?_cons_zero, List.getElem?_cons_succ] at c70 c71 c80 c81
  go_loopw [10] (fun i wr => ∃ (a d : Nat), a <= k /\ i = .int .i64 a /\ wr = W5.drewN d) (fun i _ => k - (intOf i).toNat)
  case atStart => exact ⟨0, 0, Nat.zero_le _, rfl, rfl⟩
  case round =>
   obtain ⟨a, d, ha, rfl, rfl⟩ := hrel
   have i0 : (0 : Int) <= (a : Int) := Int.natCast_nonneg _
   by_cases hlt : a < k
   ·have i1 : (a : Int) < (k : Int) := by omega
    have t1 : decide (a < k) = true := by simpa using hlt
    obtain ⟨g1, o1, e1, -, m1⟩ := RM.out.at a hlt
    simp only [sl, Option.some.injEq, Addr.mk.injEq, and_true] at e1
    obtain ⟨rfl, rfl⟩ := e1
    rw [rowZ_get _ hlt, Nat.zero_add] at m1
    by_cases hm : a ∈ metN T
    ·rw [name_of hm] at m1
     obtain ⟨u, hu, hE, hum⟩ := rep_of HT.out (EF.eqv f) HS.out hm
     have hj : ofN T (EF f) a < r := by rw [<- HR.out]; exact of_lt HT.out (EF.eqv f) HS.out hm
     have hq : ∀ b, b < n -> trN (quoN T (EF f)) (ofN T (EF f) a) b = ofN T (EF f) (trN T a b) := fun b hb => quo_of HT.out (EF.eqv f) HS.out hm hb
     have ho : (quoO T f O).getD (ofN T (EF f) a) 0 = O.getD a 0 := by
      rw [quoO_at hu]
      have h1 : ((O.getD u 0 : Nat) : Int) = ((O.getD a 0 : Nat) : Int) := ((HF.out u a (by rw [<- HTL.out]; exact met_lt HT.out hum) hlt).1 (by simpa [EF] using hE)).out
      omega
     obtain ⟨j, ej⟩ : ∃ j, ofN T (EF f) a = j := ⟨_, rfl⟩
     rw [ej] at m1 hj hq ho
     have HQ := Lib.hid hq
     have j0 : (0 : Int) <= (j : Int) := Int.natCast_nonneg _
     have j1 : (j : Int) < (r : Int) := by omega
     have j2 : ¬ (j : Int) < 0 := by omega
     have j3 : ¬ r <= j := by omega
     have j4 : decide (r <= j) = false := by simpa using j3
     have j5 : ¬ (r : Int) <= (j : Int) := by omega
     obtain ⟨go, oo, eo, -, co⟩ := RQO.out.at j hj
     obtain ⟨gp, op, ep, -, cp⟩ := RO.out.at a hlt
     subst eo ep
     rw [intsN_at, ho] at co
     rw [intsN_at] at cp
     obtain ⟨g2, o2, A2, m2, q2, eA2, hm2, d2, r2, l2, l3⟩ := RQ.out.at_ (i := j) (by rw [HQL.out]; exact hj)
     obtain ⟨g3, o3, A3, m3, q3, eA3, hm3, d3, r3, l4, l5⟩ := RN.out.at_ (i := a) (by rw [HTL.out]; exact hlt)
     subst eA2 eA3
     have e2 : n = m2 := by rw [hm2]; exact ((quo_rect HT.out (EF.eqv f) HS.out).len j (by rw [HQL.out]; exact hj)).symm
     have e3 : n = m3 := by rw [hm3]; exact (HT.out.len a (by rw [HTL.out]; exact hlt)).symm
     subst e2
     subst e3
     have R2 := Lib.hid r2; have R3 := Lib.hid r3; have HM := Lib.hid hm
     obtain ⟨y, ey⟩ : ∃ y : Int, ((O.getD a 0 : Nat) : Int) = y := ⟨_, rfl⟩
     rw [ey] at co cp
     clear hq ho ej hm2 hm3 r2 r3 hm ey hu hE hum
     go_wp2_with fail
     go_big_quiet (fail)
     go_wp2_with fail
     clear co cp
     go_loopw [11] (fun i wr => ∃ (b d : Nat), b <= n /\ i = .int .i64 b /\ wr = W5.drewN d) (fun i _ => n - (intOf i).toNat)
     case atStart => exact ⟨0, _, Nat.zero_le _, rfl, World.drewN_drewN _ _ _⟩
     case round =>
      obtain ⟨b, d, hb, rfl, rfl⟩ := hrel
      have y0 : (0 : Int) <= (b : Int) := Int.natCast_nonneg _
      by_cases hltb : b < n
      ·have y1 : (b : Int) < (n : Int) := by omega
       have t2 : decide (b < n) = true := by simpa using hltb
       have y2 : decide (n <= b) = false := by simpa using hltb
       obtain ⟨gx, ox, ex, -, cx⟩ := R2.out.at b hltb
       obtain ⟨gy, oy, ey, -, cy⟩ := R3.out.at b hltb
       subst ex ey
       have hz := HT.out.lt a b (by rw [HTL.out]; exact hlt) hltb
       have hq := HQ.out b hltb
       have hmz := met_all HT.out a HM.out b hltb
       have ez1 : (intsN ((quoN T (EF f)).getD j [])).getD b 0 = ((ofN T (EF f) (trN T a b) : Nat) : Int) := by rw [intsN_at, <- hq]; rfl
       have ez2 : (intsN (T.getD a [])).getD b 0 = ((trN T a b : Nat) : Int) := by rw [intsN_at]; rfl
       rw [ez1] at cx
       rw [ez2] at cy
       rw [HTL.out] at hz
       obtain ⟨g4, o4, e4, -, m4⟩ := RM.out.at (trN T a b) hz
       simp only [sl, Option.some.injEq, Addr.mk.injEq, and_true] at e4
       obtain ⟨rfl, rfl⟩ := e4
       rw [rowZ_get _ hz, Nat.zero_add, name_of hmz] at m4
       generalize trN T a b = z at *
       generalize ofN T (EF f) z = q at *
       have z0 : (0 : Int) <= (z : Int) := Int.natCast_nonneg _
       have z1 : (z : Int) < (k : Int) := by omega
       clear hq hmz ez1 ez2
       go_wp2_with fail
       go_big_quiet (fail)
       go_wp2_with fail
       exact ⟨⟨b + 1, _, by omega, by go_num, rfl⟩, by simp [intOf]; omega⟩
      ·obtain rfl : b = n := by omega
       go_wp2_with fail
       exact ⟨⟨a + 1, d, by omega, by go_num, rfl⟩, by simp [intOf]; omega⟩
    ·have hneg : nameN T (EF f) a = -1 := by unfold nameN; rw [if_neg hm]
     rw [hneg] at m1
     clear hm hneg
     go_wp2_with fail
     exact ⟨⟨a + 1, d, by omega, by go_num, rfl⟩, by simp [intOf]; omega⟩
   ·go_wp2_with fail
    go_ret
    exact ⟨rfl, below_drewN BB.out d⟩
end Go.Proofs.Ytdcokkgdahbinaa
