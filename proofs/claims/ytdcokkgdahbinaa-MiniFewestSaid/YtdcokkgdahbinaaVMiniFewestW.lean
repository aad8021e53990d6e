/- MiniFewest -/
import Derived.Test.YtdcokkgdahbinaaVMiniMa
import Derived.Test.YtdcokkgdahbinaaVMiniMb
import Derived.BigRegion
import Derived.StillTailTactics
set_option linter.unusedVariables false
set_option linter.unusedSimpArgs false
set_option maxRecDepth 100000
set_option maxHeartbeats 8000000
namespace Go.Proofs.Ytdcokkgdahbinaa
open Go Go.RowKit Go.Proofs
theorem miniFewest_walk (a0 : Int) (a1 : Int) (a2 : Option Addr) (len2 cap2 : Nat) (z2 : List Int) (w : World) (w0 : (Lit.int .i64 a0).wf = true) (w1 : (Lit.int .i64 a1).wf = true) (w2 : IsRow .i64 w a2 len2 cap2 z2) :
  Calls Try.prog 5 #[.int .i64 a0, .int .i64 a1, .slice a2 len2 cap2] w fun e w' => e = .returned (.bool true) /\ Below w.heap.size w w' := by
  have hk := kOf_is a0; have hn := nOf_is a1; have hk9 := kOf_lt a0; have hn9 := nOf_lt a1
  obtain ⟨k, ek⟩ : ∃ k, kOf a0 = k := ⟨_, rfl⟩
  obtain ⟨n, en⟩ : ∃ n, nOf a1 = n := ⟨_, rfl⟩
  rw [ek] at hk hk9
  rw [en] at hn hn9
  clear ek en
  obtain ⟨k0, k9⟩ := hk9
  obtain ⟨n0, n9⟩ := hn9
  have hT := law_rect (z2.take len2) (k := k) (n := n) k0
  have hTl := lawT_len (z2.take len2) k n
  have hOl := lawO_len (z2.take len2) k n
  have hO2 := lawO_lt (z2.take len2) k n
  obtain ⟨T, eT⟩ : ∃ T, lawT (z2.take len2) k n = T := ⟨_, rfl⟩
  obtain ⟨O, eO⟩ : ∃ O, lawO (z2.take len2) k n = O := ⟨_, rfl⟩
  rw [eT] at hT hTl
  rw [eO] at hOl hO2
  have RI := Lib.hid w2.readsI
  have HK := Lib.hid hk; have HN := Lib.hid hn; have HT := Lib.hid hT; have HTL := Lib.hid hTl; have HOL := Lib.hid hOl; have HO2 := Lib.hid hO2; have ET := Lib.hid eT; have EO := Lib.hid eO
  clear hk hn hT hTl hOl hO2 eT eO w0 w1 w2
  go_enter Try.func5, Try.ntmps5
  go_wp2_with fail
  refine (known_any _).mono ?_
  rintro e w1 ⟨rfl, hb⟩
  replace RI := Lib.hid (RI.out.below hb)
  have BB := Lib.hid hb
  clear hb
  go_wp2_with fail
  refine (lawBack_any RI.out a0 a1 HK.out HN.out).mono ?_
  rintro e w2 ⟨vn, vo, rfl, hn, ho, hb⟩
  rw [ET.out] at hn
  rw [EO.out] at ho
  have hN : NextR w2 vn T := hn.nextR HTL.out (fun i hi => xssT_at T hi)
  have hO := ho.readsI
  obtain ⟨NA, nc, e, hnc, hnc2⟩ := hN.form
  rw [HTL.out] at e hnc
  subst e
  obtain ⟨OA, oc, rfl, hoc, hoc2, -⟩ := hO.form
  replace BB := Lib.hid (BB.out.trans (hb.mono BB.out.size))
  have RI2 := Lib.hid (RI.out.below hb)
  have RN := Lib.hid hN; have RO := Lib.hid hO
  clear hn ho hb hN hO RI
  obtain ⟨b7, hb7⟩ : ∃ b, b = w2.heap.size := ⟨_, rfl⟩
  obtain ⟨W3, hW3⟩ : ∃ W, w2.alloc (.cells #[.slice NA k nc, .slice OA k oc] 26) = W := ⟨_, rfl⟩
  have hb3 : Below w2.heap.size w2 W3 := by rw [<- hW3]; exact (Below.refl _ _).alloc (Nat.le_refl _) _
  have x7 : Blk W3 b7 26 #[.slice NA k nc, .slice OA k oc] := by rw [<- hW3, hb7]; exact Blk.new _ _ _
  replace BB := Lib.hid (BB.out.trans (hb3.mono BB.out.size))
  replace RI2 := Lib.hid (RI2.out.below hb3)
  replace RN := Lib.hid (RN.out.below hb3)
  replace RO := Lib.hid (RO.out.below hb3)
  have X7 := Lib.hid x7
  have HW3 := Lib.hid hW3; have HB7 := Lib.hid hb7
  clear hb3 x7 hW3 hb7
  obtain ⟨g0, o0, A0, m0, q0, eA0, hm0, d0, r0, l0, l1⟩ := RN.out.at_ (i := 0) (by rw [HTL.out]; exact k0)
  subst eA0
  obtain rfl : n = m0 := by rw [hm0]; exact (HT.out.len 0 (by rw [HTL.out]; exact k0)).symm
  rw [<- HW3.out] at d0
  rw [Nat.add_zero] at d0
  clear hm0 r0
  go_wp2_with fail
  rw [HW3.out, <- HB7.out]
  refine (back_any RN.out HTL.out HT.out RO.out (by omega) (by omega) (fun x => by have := HO2.out x; omega)).mono ?_
  rintro e w4 ⟨vn, vo, gn, f, rfl, hf, hn, ho, hm, hb⟩
  have hS : StepN T n (EF f) := EF.step HT.out (fun x y hx hy => hf x y (by rw [<- HTL.out]; exact hx) (by rw [<- HTL.out]; exact hy))
  have hQ := quo_next HT.out hS hn
  have hQO := ho.readsI
  rw [quoO_is] at hQO
  have hNM := hm.readsI
  obtain ⟨r, hr⟩ : ∃ r, (repN T (EF f)).length = r := ⟨_, rfl⟩
  have hr9 : r <= k := by rw [<- hr, <- HTL.out]; exact rep_len HT.out (EF.eqv f)
  have hr0 : 0 < r := by rw [<- hr]; exact rep_pos
  have hQl : (quoN T (EF f)).length = r := by rw [quo_len, hr]
  rw [hr] at hQO
  obtain ⟨NB, nd, e, hnd, hnd2⟩ := hQ.form
  rw [hQl] at e hnd
  subst e
  obtain ⟨OB, od, rfl, hod, hod2, -⟩ := hQO.form
  have RQ := Lib.hid hQ; have RQO := Lib.hid hQO; have RM := Lib.hid hNM; have HF := Lib.hid hf; have HS := Lib.hid hS; have HR := Lib.hid hr; have HQL := Lib.hid hQl
  replace BB := Lib.hid (BB.out.trans (hb.mono BB.out.size))
  replace RI2 := Lib.hid (RI2.out.below hb)
  replace RN := Lib.hid (RN.out.below hb)
  replace RO := Lib.hid (RO.out.below hb)
  replace X7 := Lib.hid (Blk.below X7.out hb X7.out.lt)
  clear hf hn ho hm hb hS hQ hQO hNM hr hQl
  obtain ⟨W5, hW5⟩ : ∃ W, w4.alloc (.cells #[.slice NB r nd, .slice OB r od] 26) = W := ⟨_, rfl⟩
  obtain ⟨b8, hb8⟩ : ∃ b, b = w4.heap.size := ⟨_, rfl⟩
  have hb5 : Below w4.heap.size w4 W5 := by rw [<- hW5]; exact (Below.refl _ _).alloc (Nat.le_refl _) _
  have x8 : Blk W5 b8 26 #[.slice NB r nd, .slice OB r od] := by rw [<- hW5, hb8]; exact Blk.new _ _ _
  have x7 := Blk.below X7.out hb5 X7.out.lt
  have c70 := x7.cell 0; have c71 := x7.cell 1; have c80 := x8.cell 0; have c81 := x8.cell 1
  simp only [List.getElem?_toArray, List.getElem?_cons_zero, List.getElem?_cons_succ] at c70 c71 c80 c81
  replace BB := Lib.hid (BB.out.trans (hb5.mono BB.out.size))
  replace RI2 := Lib.hid (RI2.out.below hb5)
  replace RN := Lib.hid (RN.out.below hb5)
  replace RO := Lib.hid (RO.out.below hb5)
  replace RQ := Lib.hid (RQ.out.below hb5)
  replace RQO := Lib.hid (RQO.out.below hb5)
  replace RM := Lib.hid (RM.out.below hb5)
  replace X7 := Lib.hid x7
  have X8 := Lib.hid x8
  have HW5 := Lib.hid hW5; have HB8 := Lib.hid hb8
  clear hb5 x8 x7 hb8 hW5
  rw [<- HW5.out] at c70 c71 c80 c81
  clear d0
  go_wp2_with fail
  rw [HW5.out, <- HB8.out]
  refine (whole_any RQ.out HQL.out (quo_rect HT.out (EF.eqv f) HS.out) (by omega) (by omega)).mono ?_
  rintro e w6 ⟨rfl, hw6⟩
  subst hw6
  have hmk := mkTT_any r (by omega) W5
  have c70 := X7.out.cell 0; have c71 := X7.out.cell 1; have c80 := X8.out.cell 0; have c81 := X8.out.cell 1
  simp only [List.getElem?_toArray, List.getElem?_cons_zero, List.getElem?_cons_succ] at c70 c71 c80 c81
  have HQR := Lib.hid (quo_rect HT.out (EF.eqv f) HS.out)
  have HAP : Hid (∀ x y, x < r -> y < r -> x ≠ y -> ¬ AlikeN (quoN T (EF f)) n (fun x => (((quoO T f O).getD x 0 : Nat) : Int)) x y) := Lib.hid (fun x y hx hy => quo_apart HT.out HS.out (fun x y hx hy => HF.out x y (by rw [<- HTL.out]; exact hx) (by rw [<- HTL.out]; exact hy)) (by rw [HR.out]; exact hx) (by rw [HR.out]; exact hy))
  have hrep : ∀ i, i < r -> ∃ u, (repN T (EF f))[i]? = some u := fun i hi => ⟨_, List.getElem?_eq_getElem (by rw [HR.out]; exact hi)⟩
  have N0 : Hid (nextN T (EF f) 0 0 = 1) := Lib.hid (by rw [next_zero]; rfl)
  have NE : Hid (∀ i, i < r -> nextN T (EF f) i n = nextN T (EF f) (i + 1) 0) := Lib.hid (fun i hi => by obtain ⟨u, hu⟩ := hrep i hi; exact next_end HT.out (EF.eqv f) hu)
  have NS : Hid (∀ i a, i < r -> a < n -> (trN (quoN T (EF f)) i a < nextN T (EF f) i a /\ nextN T (EF f) i (a + 1) = nextN T (EF f) i a) \/ (trN (quoN T (EF f)) i a = nextN T (EF f) i a /\ nextN T (EF f) i (a + 1) = nextN T (EF f) i a + 1)) := Lib.hid (fun i a hi ha => by obtain ⟨u, hu⟩ := hrep i hi; exact next_step HT.out (EF.eqv f) hu ha)
  have NA' : Hid (∀ i a, i < r -> i < nextN T (EF f) i a) := Lib.hid (fun i a hi => by obtain ⟨u, hu⟩ := hrep i hi; exact next_ahead HT.out (EF.eqv f) hu)
  have NL : Hid (nextN T (EF f) r 0 = r) := Lib.hid (by rw [<- HR.out]; exact next_all HT.out (EF.eqv f))
  clear hrep
  generalize nextN T (EF f) = nx at *
  generalize quoN T (EF f) = Q at *
  generalize quoO T f O = QO at *
  have HRO : Hid (∀ x, x < r -> ∃ g o, OB = some ⟨g, o, none⟩ /\ W5.cell? ⟨g, o + x, none⟩ = some (.int .i64 ((QO.getD x 0 : Nat) : Int))) := Lib.hid (fun x hx => by
   obtain ⟨g, o, e, -, h⟩ := RQO.out.at x hx
   rw [intsN_at] at h
   exact ⟨g, o, e, h⟩)
  obtain ⟨ob, hob⟩ : ∃ ob : Nat -> Int, (fun x => ((QO.getD x 0 : Nat) : Int)) = ob := ⟨_, rfl⟩
  rw [hob] at HAP
  replace HRO : Hid (∀ x, x < r -> ∃ g o, OB = some ⟨g, o, none⟩ /\ W5.cell? ⟨g, o + x, none⟩ = some (.int .i64 (ob x))) := by rw [<- hob]; exact HRO
  clear hob RQO HR HF HS RM RN RO HT HTL HO2 ET EO HOL HK HN RI2 X7 c70 c71
  go_wp2_with fail
  clear hmk
  obtain ⟨P0, hP0⟩ : ∃ P, W5.alloc (.cells (repA r (.slice none 0 0)) 48) = P := ⟨_, rfl⟩
  obtain ⟨p, hp⟩ : ∃ p, W5.heap.size = p := ⟨_, rfl⟩
  have HP : Hid (Below p W5 P0) := Lib.hid (by rw [<- hP0, <- hp]; exact (Below.refl _ _).alloc (Nat.le_refl _) _)
  have HM : Hid (MatAt P0 p p r 0 (fun _ => 0) (mI ob 0 0)) := Lib.hid (by
   refine ⟨?_, fun i hi => absurd hi (Nat.not_lt_zero i), Nat.le_refl _, fun i hi => absurd hi (Nat.not_lt_zero i), fun i j hi => absurd hi (Nat.not_lt_zero i)⟩
   have e : rowsA r 0 (fun _ => 0) = repA r (.slice none 0 0) := by
    unfold rowsA repA
    apply Array.ext
    ·simp
    ·intro i h1 h2; simp
   rw [e, <- hP0, <- hp]
   exact Blk.new _ _ _)
  rw [hP0, hp]
  have HPZ := Lib.hid hp
  clear hP0 hp
  have HBX : Hid (∀ W, Below p W5 W -> W.cell? ⟨b8, 0, none⟩ = some (.slice NB r nd) /\ W.cell? ⟨b8, 1, none⟩ = some (.slice OB r od)) := Lib.hid (fun W hW => by
   have h := Blk.below X8.out hW (by rw [<- HPZ.out]; exact X8.out.lt)
   have h0 := h.cell 0; have h1 := h.cell 1
   simp only [List.getElem?_toArray, List.getElem?_cons_zero, List.getElem?_cons_succ] at h0 h1
   exact ⟨h0, h1⟩)
  have HQC : Hid (∀ W, Below p W5 W -> NextR W (.slice NB r nd) Q) := Lib.hid (fun W hW => RQ.out.below (by rw [HPZ.out]; exact hW))
  have HOC : Hid (∀ W, Below p W5 W -> ∀ x, x < r -> ∃ g o, OB = some ⟨g, o, none⟩ /\ W.cell? ⟨g, o + x, none⟩ = some (.int .i64 (ob x))) := Lib.hid (fun W hW x hx => by
   obtain ⟨g, o, e, h⟩ := HRO.out x hx
   exact ⟨g, o, e, bel_m (by rw [HPZ.out]; exact hW) h⟩)
  clear c80 c81 X8 RQ HRO
  have r1 : (0 : Int) < (r : Int) := by omega
  go_loopw [13] (fun vi wr => ∃ (i : Nat) (q : Nat -> Nat), vi = .int .i64 (i : Int) /\ i <= r /\ Hid (MatAt wr p p r i q (mI ob i 0)) /\ Hid (Below p W5 wr)) (fun vi _ => r - (intOf vi).toNat)
  case atStart => exact ⟨0, _, rfl, Nat.zero_le _, HM, HP⟩
  case round =>
   clear HM HP
   obtain ⟨i, q, rfl, hi, HM, HP⟩ := hrel
   have i0 : (0 : Int) <= (i : Int) := Int.natCast_nonneg _
   by_cases hlt : i < r
   ·have i1 : (i : Int) < (r : Int) := by omega
    have t1 : decide (i < r) = true := by simpa using hlt
    have hmk := mkT_any r (by omega) wr
    have hsz : p <= wr.heap.size := by have := HP.out.size; have := HPZ.out; omega
    have HMM := Lib.hid (HM.out.more hlt hsz (mI_new ob i))
    have k0' := (HM.out.rows.alloc (.cells (repA r (.bool false)) 4)).cell i
    rw [rowsA_at _ _ hlt, if_neg (Nat.lt_irrefl i)] at k0'
    have f0' := (HM.out.rows.alloc (.cells (repA r (.bool false)) 4)).frozen i
    have HPP := Lib.hid (((HP.out.alloc hsz (.cells (repA r (.bool false)) 4))).setCell (p := ⟨p, i, none⟩) (Nat.le_refl _) (.slice (some ⟨wr.heap.size, 0, none⟩) r r))
    go_wp2_with fail
    clear hmk k0' f0'
    generalize (wr.alloc (.cells (repA r (.bool false)) 4)).setCell ⟨p, i, none⟩ (.slice (some ⟨wr.heap.size, 0, none⟩) r r) = V at *
    generalize (fun x => if x = i then wr.heap.size else q x) = q' at *
    clear HM HP hsz
    obtain ⟨wo, hwo⟩ : ∃ wo, wo = wr := ⟨_, rfl⟩
    clear hwo
    go_loopw [14] (fun vj wr => ∃ j : Nat, vj = .int .i64 (j : Int) /\ j <= r /\ Hid (MatAt wr p p r (i + 1) q' (mI ob i j)) /\ Hid (Below p W5 wr)) (fun vj _ => r - (intOf vj).toNat)
    case atStart => exact ⟨0, rfl, Nat.zero_le _, HMM, HPP⟩
    case round =>
     clear HMM HPP
     obtain ⟨j, rfl, hj, HM, HP⟩ := hrel
     have j0 : (0 : Int) <= (j : Int) := Int.natCast_nonneg _
     by_cases hltj : j < r
     ·have j1 : (j : Int) < (r : Int) := by omega
      have t2 : decide (j < r) = true := by simpa using hltj
      obtain ⟨bx0, bx1⟩ := HBX.out _ HP.out
      obtain ⟨g1, o1, e1, c1⟩ := HOC.out _ HP.out i hlt
      obtain ⟨g2, o2, e2, c2⟩ := HOC.out _ HP.out j hltj
      subst e1
      simp only [Option.some.injEq, Addr.mk.injEq, and_true] at e2
      obtain ⟨rfl, rfl⟩ := e2
      have h1 := HM.out.head (Nat.lt_succ_self i) hlt
      have h2 := HM.out.drew.cell (Nat.lt_succ_self i) hltj
      have h3 : wr.drew.frozen? ⟨q' i, j, none⟩ = false := (HM.out.drew.row i (Nat.lt_succ_self i)).frozen j
      have HPUT := Lib.hid (HM.out.drew.put (j := j) (Nat.lt_succ_self i) (ob i != ob j))
      rw [mI_put] at HPUT
      have HPP := Lib.hid (HP.out.drew.setCell (p := ⟨q' i, j, none⟩) (HM.out.low i (Nat.lt_succ_self i)).1 (.bool (ob i != ob j)))
      go_wp2_with fail
      refine wp_region_still_tail 17 (by kernel_rfl) (by kernel_rfl) ?_
      simp only [List.take_succ_cons, List.take_zero, List.drop_succ_cons, List.drop_zero]
      repeat still_step
      refine wpStill_nil ?_
      change wpList _ _ _ _ _ wr.drew
      clear HM HP bx0 bx1 c1 c2 h1
      generalize wr.drew = W6 at *
      go_wp2_with fail
      exact ⟨⟨j + 1, by go_num, by omega, HPUT, HPP⟩, by simp [intOf]; omega⟩
     ·obtain rfl : j = r := by omega
      go_wp2_with fail
      exact ⟨⟨i + 1, q', by go_num, by omega, Lib.hid (HM.out.congr (fun x y _ hy => mI_row ob i hy)), HP⟩, by simp [intOf]; omega⟩
   ·obtain rfl : r = i := by omega
    go_wp2_with fail
    have HS : Hid (SwpN Q n ob 0 0 0 0 (mI ob r 0)) := Lib.hid (SwpN.zero (fun x y hx _ => mI_all ob (by rw [<- HQL.out]; exact hx)))
    generalize mI ob r 0 = M at *
    obtain ⟨wo, hwo⟩ : ∃ wo, wo = wr := ⟨_, rfl⟩
    subst hwo
    go_loopw [15] (fun vi wr => ∃ (c : Nat) (M : Nat -> Nat -> Bool), vi = .int .i64 (c : Int) /\ c <= r /\ Hid (MatAt wr p p r r q M) /\ Hid (SwpN Q n ob c 0 0 0 M) /\ Hid (Below p W5 wr)) (fun vi _ => r - (intOf vi).toNat)
    case atStart => exact ⟨0, M, rfl, Nat.zero_le _, HM, HS, HP⟩
    case round =>
     clear HM HS HP
     obtain ⟨c, M, rfl, hc, HM, HS, HP⟩ := hrel
     have x0 : (0 : Int) <= (c : Int) := Int.natCast_nonneg _
     by_cases hltc : c < r
     ·have x1 : (c : Int) < (r : Int) := by omega
      have t1 : decide (c < r) = true := by simpa using hltc
      go_wp2_with fail
      obtain ⟨wo, hwo⟩ : ∃ wo, wo = wr := ⟨_, rfl⟩
      subst hwo
      go_loopw [16] (fun vi wr => ∃ (i : Nat) (M : Nat -> Nat -> Bool), vi = .int .i64 (i : Int) /\ i <= r /\ Hid (MatAt wr p p r r q M) /\ Hid (SwpN Q n ob c i 0 0 M) /\ Hid (Below p W5 wr)) (fun vi _ => r - (intOf vi).toNat)
      case atStart => exact ⟨0, M, rfl, Nat.zero_le _, HM, HS, HP⟩
      case round =>
       clear HM HS HP
       obtain ⟨i, M, rfl, hi, HM, HS, HP⟩ := hrel
       have i0 : (0 : Int) <= (i : Int) := Int.natCast_nonneg _
       by_cases hlti : i < r
       ·have i1 : (i : Int) < (r : Int) := by omega
        have t2 : decide (i < r) = true := by simpa using hlti
        go_wp2_with fail
        obtain ⟨wo, hwo⟩ : ∃ wo, wo = wr := ⟨_, rfl⟩
        subst hwo
        go_loopw [17] (fun vi wr => ∃ (j : Nat) (M : Nat -> Nat -> Bool), vi = .int .i64 (j : Int) /\ j <= r /\ Hid (MatAt wr p p r r q M) /\ Hid (SwpN Q n ob c i j 0 M) /\ Hid (Below p W5 wr)) (fun vi _ => r - (intOf vi).toNat)
        case atStart => exact ⟨0, M, rfl, Nat.zero_le _, HM, HS, HP⟩
        case round =>
         clear HM HS HP
         obtain ⟨j, M, rfl, hj, HM, HS, HP⟩ := hrel
         have j0 : (0 : Int) <= (j : Int) := Int.natCast_nonneg _
         by_cases hltj : j < r
         ·have j1 : (j : Int) < (r : Int) := by omega
          have t3 : decide (j < r) = true := by simpa using hltj
          go_wp2_with fail
          obtain ⟨wo, hwo⟩ : ∃ wo, wo = wr := ⟨_, rfl⟩
          subst hwo
          go_loopw [18] (fun vi wr => ∃ (a : Nat) (M : Nat -> Nat -> Bool), vi = .int .i64 (a : Int) /\ a <= n /\ Hid (MatAt wr p p r r q M) /\ Hid (SwpN Q n ob c i j a M) /\ Hid (Below p W5 wr)) (fun vi _ => n - (intOf vi).toNat)
          case atStart => exact ⟨0, M, rfl, Nat.zero_le _, HM, HS, HP⟩
          case round =>
           clear HM HS HP
           obtain ⟨a, M, rfl, ha, HM, HS, HP⟩ := hrel
           have y0 : (0 : Int) <= (a : Int) := Int.natCast_nonneg _
           by_cases hlta : a < n
           ·have y1 : (a : Int) < (n : Int) := by omega
            have t4 : decide (a < n) = true := by simpa using hlta
            have hST := HS.out.step HQR.out (by rw [HQL.out]; exact hlti) (by rw [HQL.out]; exact hltj) hlta
            have hz1 := HQR.out.lt i a (by rw [HQL.out]; exact hlti) hlta
            have hz2 := HQR.out.lt j a (by rw [HQL.out]; exact hltj) hlta
            rw [HQL.out] at hz1 hz2
            obtain ⟨bx0, bx1⟩ := HBX.out _ HP.out
            obtain ⟨g1, o1, A1, m1, q1, e1, hm1, d1, s1, l1, l2⟩ := (HQC.out _ HP.out).at_ (i := i) (by rw [HQL.out]; exact hlti)
            obtain ⟨g2, o2, A2, m2, q2, e2, hm2, d2, s2, l3, l4⟩ := (HQC.out _ HP.out).at_ (i := j) (by rw [HQL.out]; exact hltj)
            subst e1
            simp only [Option.some.injEq, Addr.mk.injEq, and_true] at e2
            obtain ⟨rfl, rfl⟩ := e2
            obtain rfl : n = m1 := by rw [hm1]; exact (HQR.out.len i (by rw [HQL.out]; exact hlti)).symm
            obtain rfl : n = m2 := by rw [hm2]; exact (HQR.out.len j (by rw [HQL.out]; exact hltj)).symm
            obtain ⟨g3, o3, rfl, -, d3⟩ := s1.at a hlta
            obtain ⟨g4, o4, rfl, -, d4⟩ := s2.at a hlta
            have e3 : (intsN (Q.getD i [])).getD a 0 = ((trN Q i a : Nat) : Int) := by rw [intsN_at]; rfl
            have e4 : (intsN (Q.getD j [])).getD a 0 = ((trN Q j a : Nat) : Int) := by rw [intsN_at]; rfl
            rw [e3] at d3
            rw [e4] at d4
            have HQR' := HQR
            obtain ⟨z1, hz1e⟩ : ∃ z, trN Q i a = z := ⟨_, rfl⟩
            obtain ⟨z2, hz2e⟩ : ∃ z, trN Q j a = z := ⟨_, rfl⟩
            rw [hz1e] at d3 hST hz1
            rw [hz2e] at d4 hST hz2
            have u0 : (0 : Int) <= (z1 : Int) := Int.natCast_nonneg _
            have u1 : (z1 : Int) < (r : Int) := by omega
            have v0 : (0 : Int) <= (z2 : Int) := Int.natCast_nonneg _
            have v1 : (z2 : Int) < (r : Int) := by omega
            have h1 := HM.out.head hlti hlti
            have h2 := HM.out.head hz1 hz1
            have h3 := HM.out.cell hlti hltj
            have h4 := HM.out.cell hz1 hz2
            have k3 := HM.out.drew.cell hlti hltj
            have k4 : wr.drew.frozen? ⟨q i, j, none⟩ = false := (HM.out.drew.row i hlti).frozen j
            have HPUT := Lib.hid (HM.out.drew.put (j := j) hlti (M i j || M z1 z2))
            have HPP := Lib.hid (HP.out.drew.setCell (p := ⟨q i, j, none⟩) (HM.out.low i hlti).1 (.bool (M i j || M z1 z2)))
            have HST := Lib.hid hST
            clear hST e3 e4 hz1e hz2e hm1 hm2 s1 s2 HS HM HP bx1
            generalize M i j = b1 at *
            generalize M z1 z2 = b2 at *
            cases b1
            all_goals
             simp only [Bool.false_or, Bool.true_or] at HPUT HPP HST
             go_wp2_with fail
             go_region
             go_wp2_with fail
             exact ⟨⟨a + 1, _, by go_num, by omega, HPUT, HST, HPP⟩, by simp [intOf]; omega⟩
           ·obtain rfl : n = a := by omega
            go_wp2_with fail
            exact ⟨⟨j + 1, M, by go_num, by omega, HM, Lib.hid (HS.out.letters (by rw [HQL.out]; exact hlti) (by rw [HQL.out]; exact hltj)), HP⟩, by simp [intOf]; omega⟩
         ·obtain rfl : r = j := by omega
          go_wp2_with fail
          exact ⟨⟨i + 1, M, by go_num, by omega, HM, Lib.hid (SwpN.row (by rw [HQL.out]; exact HS.out)), HP⟩, by simp [intOf]; omega⟩
       ·obtain rfl : r = i := by omega
        go_wp2_with fail
        exact ⟨⟨c + 1, M, by go_num, by omega, HM, Lib.hid (SwpN.all (by rw [HQL.out]; exact HS.out)), HP⟩, by simp [intOf]; omega⟩
     ·obtain rfl : r = c := by omega
      have HE : Hid (∀ x y, x < r -> y < r -> M x y = decide (x ≠ y)) := Lib.hid (fun x y hx hy => SwpN.end_ HQR.out (by rw [HQL.out]; exact HS.out) (by rw [HQL.out]; exact HAP.out) (by rw [HQL.out]; exact hx) (by rw [HQL.out]; exact hy))
      obtain ⟨bx0, bx1⟩ := HBX.out _ HP.out
      have RQ := Lib.hid (HQC.out _ HP.out)
      have BB2 := Lib.hid (BB.out.trans (HP.out.mono (by have := BB.out.size; have := HPZ.out; omega)))
      obtain ⟨W9, hW9⟩ : ∃ W9, W9 = wr := ⟨_, rfl⟩
      subst hW9
      clear HS HAP HBX HQC HOC BB HP
      go_wp2_with fail
      have hn0 := N0.out
      go_loopw [19, 20] (fun vx vi wr => ∃ i : Nat, vi = .int .i64 (i : Int) /\ i <= r /\ vx = .int .i64 ((nx i 0 : Nat) : Int) /\ wr = W9) (fun _ vi _ => r - (intOf vi).toNat)
      case atStart => exact ⟨0, rfl, Nat.zero_le _, by rw [hn0]; rfl, rfl⟩
      case round =>
       clear hn0
       obtain ⟨i, rfl, hi, rfl, hw⟩ := hrel
       subst hw
       have i0 : (0 : Int) <= (i : Int) := Int.natCast_nonneg _
       by_cases hlti : i < r
       ·have i1 : (i : Int) < (r : Int) := by omega
        have t2 : decide (i < r) = true := by simpa using hlti
        have h1 := HM.out.head hlti hlti
        go_wp2_with fail
        obtain ⟨W9, hW9⟩ : ∃ W9, W9 = wr := ⟨_, rfl⟩
        subst hW9
        go_loopw [21] (fun vj wr => ∃ j : Nat, vj = .int .i64 (j : Int) /\ j <= r /\ wr = W9) (fun vj _ => r - (intOf vj).toNat)
        case atStart => exact ⟨0, rfl, Nat.zero_le _, rfl⟩
        case round =>
         obtain ⟨j, rfl, hj, hw⟩ := hrel
         subst hw
         have j0 : (0 : Int) <= (j : Int) := Int.natCast_nonneg _
         by_cases hltj : j < r
         ·have j1 : (j : Int) < (r : Int) := by omega
          have t3 : decide (j < r) = true := by simpa using hltj
          have h3 := HM.out.cell hlti hltj
          rw [HE.out i j hlti hltj] at h3
          by_cases hij : i = j
          ·subst hij
           simp only [ne_eq, not_true_eq_false, decide_false] at h3
           go_wp2_with fail
           exact ⟨⟨i + 1, by go_num, by omega, by trivial⟩, by simp [intOf]; omega⟩
          ·rw [decide_eq_true hij] at h3
           have b1 : ¬ (i : Int) = (j : Int) := by omega
           have b2 : ((i : Int) == (j : Int)) = false := by simpa using b1
           have b3 : (i == j) = false := by simpa using hij
           have b4 : ((i : Int) != (j : Int)) = true := by simpa using b1
           have b5 : (i != j) = true := by simpa using hij
           go_wp2_with fail
           exact ⟨⟨j + 1, by go_num, by omega, by trivial⟩, by simp [intOf]; omega⟩
         ·go_wp2_with fail
          obtain ⟨W9, hW9⟩ : ∃ W9, W9 = wr := ⟨_, rfl⟩
          subst hW9
          obtain ⟨g1, o1, A1, m1, q1, e1, hm1, d1, s1, l1, l2⟩ := RQ.out.at_ (i := i) (by rw [HQL.out]; exact hlti)
          subst e1
          obtain rfl : n = m1 := by rw [hm1]; exact (HQR.out.len i (by rw [HQL.out]; exact hlti)).symm
          have S1 := Lib.hid s1
          clear s1 hm1
          go_loopw [19, 22] (fun vx va wr => ∃ a : Nat, va = .int .i64 (a : Int) /\ a <= n /\ vx = .int .i64 ((nx i a : Nat) : Int) /\ wr = W9) (fun _ va _ => n - (intOf va).toNat)
          case atStart => exact ⟨0, rfl, Nat.zero_le _, rfl, rfl⟩
          case round =>
           obtain ⟨a, rfl, ha, rfl, hw⟩ := hrel
           subst hw
           have a0 : (0 : Int) <= (a : Int) := Int.natCast_nonneg _
           by_cases hlta : a < n
           ·have a1 : (a : Int) < (n : Int) := by omega
            have t4 : decide (a < n) = true := by simpa using hlta
            obtain ⟨g3, o3, rfl, -, d3⟩ := S1.out.at a hlta
            have e3 : (intsN (Q.getD i [])).getD a 0 = ((trN Q i a : Nat) : Int) := by rw [intsN_at]; rfl
            rw [e3] at d3
            have hs := NS.out i a hlti hlta
            have hahd := NA'.out i a hlti
            have hlz := HQR.out.lt i a (by rw [HQL.out]; exact hlti) hlta
            rw [HQL.out] at hlz
            obtain ⟨y, hy⟩ : ∃ y, nx i (a + 1) = y := ⟨_, rfl⟩
            have HY := Lib.hid hy
            rw [hy] at hs
            generalize nx i a = x at *
            generalize trN Q i a = z at *
            clear e3 hy
            have x0 : (0 : Int) <= (x : Int) := Int.natCast_nonneg _
            have z0 : (0 : Int) <= (z : Int) := Int.natCast_nonneg _
            have c1 : ¬ x < z := by omega
            have c2 : decide (x < z) = false := by simpa using c1
            have c3 : ¬ x <= i := by omega
            have c4 : decide (x <= i) = false := by simpa using c3
            have c5 : ¬ (x : Int) < (z : Int) := by omega
            have c6 : ¬ (x : Int) <= (i : Int) := by omega
            rcases hs with ⟨hs1, hs2⟩ | ⟨hs1, hs2⟩
            ·have HS2 := Lib.hid hs2
             have b1 : ¬ (z : Int) = (x : Int) := by omega
             have b2 : ((z : Int) == (x : Int)) = false := by simpa using b1
             have b3 : (z == x) = false := by simp; omega
             have b4 : ¬ z = x := by omega
             clear hs2 hahd hlz
             go_wp2_with fail
             exact ⟨⟨a + 1, by go_num, by omega, by rw [HY.out, HS2.out], by trivial⟩, by simp [intOf]; omega⟩
            ·have HS2 := Lib.hid hs2
             subst hs1
             have x9 : (z : Int) <= 1000 := by omega
             clear hs2 hahd hlz c1 c2 c5
             go_wp2_with fail
             exact ⟨⟨a + 1, by go_num, by omega, by rw [HY.out, HS2.out]; first | done | go_num, by trivial⟩, by simp [intOf]; omega⟩
           ·obtain rfl : n = a := by omega
            have hne := NE.out i hlti
            have HNE := Lib.hid hne
            clear hne
            go_wp2_with fail
            exact ⟨⟨i + 1, by go_num, by omega, by rw [HNE.out], by trivial⟩, by simp [intOf]; omega⟩
       ·obtain rfl : r = i := by omega
        have hnl := NL.out
        generalize nx r 0 = x at *
        subst hnl
        go_wp2_with fail
        go_ret
        exact ⟨by simp, BB2.out⟩
end Go.Proofs.Ytdcokkgdahbinaa
