/- SegErrs: tables that may not be, texts that are too long, are told so. -/
import Derived.Test.YtacgakkcpmhgmaaVSegZ
set_option linter.unusedVariables false
set_option linter.unusedSimpArgs false
set_option maxRecDepth 100000
set_option maxHeartbeats 8000000
namespace Go.Proofs.Ytacgakkcpmhgmaa
open Go Go.RowKit Go.Proofs
theorem segErrs_walk (a0 : Int) (a1 : Int) (a2 : Option Addr) (len2 cap2 : Nat) (z2 : List Int) (a3 : Option Addr) (len3 cap3 : Nat) (z3 : List Int) (a4 : Option Addr) (len4 cap4 : Nat) (z4 : List Int) (a5 : Int) (a6 : Int) (w : World) (w0 : (Lit.int .i64 a0).wf = true) (w1 : (Lit.int .i64 a1).wf = true) (w2 : IsRow .i64 w a2 len2 cap2 z2) (w3 : IsRow .i64 w a3 len3 cap3 z3) (w4 : IsRow .i64 w a4 len4 cap4 z4) (w5 : (Lit.int .i64 a5).wf = true) (w6 : (Lit.int .i64 a6).wf = true) :
  Calls Try.prog 4 #[.int .i64 a0, .int .i64 a1, .slice a2 len2 cap2, .slice a3 len3 cap3, .slice a4 len4 cap4, .int .i64 a5, .int .i64 a6] w fun e w' => e = .returned (.bool true) /\ Below w.heap.size w w' := by
  have hk := kOf_is a0; have hn := nOf_is a1; have hk9 := kOf_lt a0; have hn9 := nOf_lt a1
  obtain ⟨k, ek⟩ : ∃ k, kOf a0 = k := ⟨_, rfl⟩
  obtain ⟨n, en⟩ : ∃ n, nOf a1 = n := ⟨_, rfl⟩
  rw [ek] at hk hk9
  rw [en] at hn hn9
  clear ek en
  obtain ⟨k0, k9⟩ := hk9
  obtain ⟨n0, n9⟩ := hn9
  have HK := Lib.hid hk; have HN := Lib.hid hn
  have R2 := Lib.hid w2.readsI
  have R3 := Lib.hid w3.readsI
  have R4 := Lib.hid w4.readsI
  clear hk hn w0 w1 w2 w3 w4 w5 w6
  go_enter Try.func4, Try.ntmps4
  go_wp2_with fail
  refine (sknown_any _).mono ?_
  rintro e V1 ⟨rfl, hb⟩
  replace R2 := Lib.hid (R2.out.below hb)
  replace R3 := Lib.hid (R3.out.below hb)
  replace R4 := Lib.hid (R4.out.below hb)
  have HB := Lib.hid hb
  clear hb
  go_wp2_with fail
  refine (make_own R2.out R3.out R4.out a0 a1 HK.out HN.out).mono ?_
  rintro e V2 ⟨vc, vl, vbn, vbo, vfn, vfe, rfl, ht, ⟨m, hts⟩, hb⟩
  have hrt := lawTab_right (ns := (z2.take len2)) (ms := (z3.take len3)) (cs := (z4.take len4)) k0 (by omega) n0 (by omega)
  obtain ⟨tt, htt⟩ : ∃ t, lawTab (z2.take len2) (z3.take len3) (z4.take len4) k n = t := ⟨_, rfl⟩
  rw [htt] at ht hrt
  obtain ⟨CA, c0, ev, -, -, -⟩ := ht.c.form
  subst ev
  have hm := hts.c.len
  have hm1 : 1 <= m := by rw [<- hm]; exact hrt.len.1
  have hm9 : m <= 100000 := by rw [<- hm]; exact hrt.len.2
  rw [hm] at hts ⊢
  clear ht hrt htt hm
  obtain ⟨g0, c0', x0, e0, lc0, lc0', bg0, -, -⟩ := hts.c.at_ (o := 0) (by omega)
  obtain ⟨g1, c1, x1, e1, lc1, lc1', bg1, -, -⟩ := hts.l.at_ (o := 0) (by omega)
  obtain ⟨g2, c2, u2, m2, e2, lc2, lc2', bg2, -, -⟩ := hts.bn.at_ (i := 0) (by omega)
  obtain ⟨g3, c3, x3, e3, lc3, lc3', bg3, -, -⟩ := hts.bo.at_ (o := 0) (by omega)
  obtain ⟨g4, c4, u4, m4, e4, lc4, lc4', bg4, -, -⟩ := hts.fn.at_ (i := 0) (by omega)
  obtain ⟨g5, c5, u5, m5, e5, lc5, lc5', bg5, -, -⟩ := hts.fe.at_ (i := 0) (by omega)
  simp only [Value.slice.injEq, true_and] at e0
  obtain ⟨rfl, rfl⟩ := e0
  subst e1 e2 e3 e4 e5
  obtain ⟨B, hB⟩ : ∃ q, V1.heap.size = q := ⟨_, rfl⟩
  rw [hB] at hts hb bg0 bg1 bg2 bg3 bg4 bg5
  have hwB : w.heap.size <= B := by rw [<- hB]; exact HB.out.size
  have HWB := Lib.hid hwB
  replace HB := Lib.hid (HB.out.trans (hb.mono hwB))
  have HB0 := HB
  have hBV : B <= V2.heap.size := by rw [<- hB]; exact hb.size
  clear hb hB hwB R2 R3 R4
  obtain ⟨bt, hbt⟩ : ∃ q, V2.heap.size = q := ⟨_, rfl⟩
  obtain ⟨V3, hV3⟩ : ∃ W, V2.alloc (.cells #[.slice (some ⟨g0, 0, none⟩) m c0, .slice (some ⟨g1, 0, none⟩) m c1, .slice (some ⟨g2, 0, none⟩) k c2, .slice (some ⟨g3, 0, none⟩) k c3, .slice (some ⟨g4, 0, none⟩) k c4, .slice (some ⟨g5, 0, none⟩) k c5] 32) = W := ⟨_, rfl⟩
  have hb : Below V2.heap.size V2 V3 := by rw [<- hV3]; exact (Below.refl _ _).alloc (Nat.le_refl _) _
  have X : Hid (Blk V3 bt 32 #[.slice (some ⟨g0, 0, none⟩) m c0, .slice (some ⟨g1, 0, none⟩) m c1, .slice (some ⟨g2, 0, none⟩) k c2, .slice (some ⟨g3, 0, none⟩) k c3, .slice (some ⟨g4, 0, none⟩) k c4, .slice (some ⟨g5, 0, none⟩) k c5]) := Lib.hid (by rw [<- hV3]; exact Blk.newAt _ hbt _ _)
  have TS := Lib.hid (hts.below hb)
  replace HB := Lib.hid (HB.out.trans (hb.mono HB.out.size))
  have HBS : Hid (B <= V3.heap.size) := Lib.hid (Nat.le_trans hBV hb.size)
  have HV3 := Lib.hid hV3; have HBT := Lib.hid hbt
  clear hts hb hV3 hbt hBV
  go_wp2_with fail
  rw [HV3.out]
  try simp only [HBT.out]
  refine (swithin_any a6 3 (by omega) (by omega) _).mono ?_
  rintro e w6 ⟨rfl, hw⟩
  subst w6
  have hq0 := Int.emod_nonneg a6 (show (3 : Int) ≠ 0 by omega)
  obtain ⟨r3, hr3⟩ : ∃ r, a6 % 3 = r := ⟨_, rfl⟩
  rw [hr3] at hq0 ⊢
  clear hr3
  have HWBT : Hid (w.heap.size <= bt) := Lib.hid (by have h1 := HBT.out; have h2 := HB0.out.size; omega)
  by_cases hr0 : r3 = 0
  ·subst hr0
   obtain ⟨VA, hVA⟩ : ∃ W, V3.alloc (.cells #[.int .i64 9] 3) = W := ⟨_, rfl⟩
   obtain ⟨b9, hb9⟩ : ∃ q, V3.heap.size = q := ⟨_, rfl⟩
   have hb : Below V3.heap.size V3 VA := by rw [<- hVA]; exact (Below.refl _ _).alloc (Nat.le_refl _) _
   have HCB : Hid (Blk VA b9 3 #[.int .i64 9]) := Lib.hid (by rw [<- hVA]; exact Blk.newAt _ hb9 _ _)
   have XA := Lib.hid (Blk.below X.out hb X.out.lt)
   have TA := Lib.hid (TS.out.below hb)
   have TQA := Lib.hid (TA.out.q (by omega))
   have HBA : Hid (B <= VA.heap.size) := Lib.hid (Nat.le_trans HBS.out hb.size)
   have HBW : Hid (Below w.heap.size w VA) := Lib.hid (HB.out.trans (hb.mono HB.out.size))
   have HVA := Lib.hid hVA; have HB9 := Lib.hid hb9
   clear hVA hb9 hb
   have k0 := X.out.cell 0
   have k1 := X.out.cell 1
   have k2 := X.out.cell 2
   have k3 := X.out.cell 3
   have k4 := X.out.cell 4
   have k5 := X.out.cell 5
   simp only [List.getElem?_toArray, List.getElem?_cons_zero, List.getElem?_cons_succ] at k0 k1 k2 k3 k4 k5
   go_wp2_with (at_builtin; rw [HVA.out]; try simp only [HB9.out]; refine wpList_pushI rfl (.tmp 37) (.tmp 38) rfl B (.slice (some ⟨g1, 0, none⟩) m c1) m (by rfl) TA.out.l hm1 (by omega) b9 9 (by rfl) HCB.out HBA.out ?_; intro g9 cap9 W9 hown hchg hbl; have HOWN := Lib.hid hown; have X9 := Lib.hid (chg_box hchg XA.out (by decide)); have TQ9 := Lib.hid (chg_tab hchg TQA.out); have HBL := Lib.hid hbl; clear hown hchg hbl; have k1' := X9.out.cell 1; have f1' := X9.out.frozen 1; simp only [List.getElem?_toArray, List.getElem?_cons_zero, List.getElem?_cons_succ] at k1')
   obtain ⟨V9, hV9⟩ : ∃ W, W9.setCell ⟨bt, 1, none⟩ (.slice (some ⟨g9, 0, none⟩) (m + 1) cap9) = W := ⟨_, rfl⟩
   have X' : Hid (Blk V9 bt 32 #[.slice (some ⟨g0, 0, none⟩) m c0, .slice (some ⟨g9, 0, none⟩) (m + 1) cap9, .slice (some ⟨g2, 0, none⟩) k c2, .slice (some ⟨g3, 0, none⟩) k c3, .slice (some ⟨g4, 0, none⟩) k c4, .slice (some ⟨g5, 0, none⟩) k c5]) := Lib.hid (by rw [<- hV9]; simpa using X9.out.set_ 1 (.slice (some ⟨g9, 0, none⟩) (m + 1) cap9))
   have hq9 := TQ9.out.box (i := 1) (u := .slice (some ⟨g9, 0, none⟩) (m + 1) cap9) X9.out
   have hf9 := HOWN.out.flat.aside (aside_set (o := 1) X9.out (.slice (some ⟨g9, 0, none⟩) (m + 1) cap9)) (by decide)
   rw [hV9] at hq9 hf9
   have TQ : Hid (TabQ V9 (.slice (some ⟨g0, 0, none⟩) m c0) (.slice (some ⟨g9, 0, none⟩) (m + 1) cap9) (.slice (some ⟨g2, 0, none⟩) k c2) (.slice (some ⟨g3, 0, none⟩) k c3) (.slice (some ⟨g4, 0, none⟩) k c4) (.slice (some ⟨g5, 0, none⟩) k c5)) := Lib.hid ⟨hq9.c, ⟨m + 1, by omega, hf9⟩, hq9.bn, hq9.bo, hq9.fn, hq9.fe⟩
   have HB' : Hid (Below w.heap.size w V9) := Lib.hid (by rw [<- hV9]; exact (HBW.out.trans (HBL.out.mono HWB.out)).setCell (p := ⟨bt, 1, none⟩) HWBT.out _)
   try rw [hV9]
   clear hV9 hq9 hf9 X HB TS XA TA TQA HBA HBW HVA HB9 HCB HOWN X9 TQ9 HBL k0 k1 k2 k3 k4 k5
   try clear k1' f1'
   have X := X'; have HB := HB'
   clear X' HB'
   obtain ⟨tT, htT, hl9⟩ := TQ.out.tab
   have HT := Lib.hid htT
   clear htT TQ
   refine (swithin_any a5 10 (by omega) (by omega) _).mono ?_
   rintro e w6 ⟨rfl, hw⟩
   subst w6
   obtain ⟨q, hq⟩ : ∃ zz : Nat, a5 % 10 = (zz : Int) := ⟨(a5 % 10).toNat, by omega⟩
   have hq9 : q < 10 := by omega
   rw [hq]
   clear hq
   obtain ⟨nb, hnb⟩ : ∃ n, 3995 + q = n := ⟨_, rfl⟩
   have wq : IntKind.i64.wrap ((3995 : Int) + (q : Int)) = (nb : Int) := by rw [IntWalk.i64_in _ (by omega)]; omega
   have hnb9 : nb <= 4005 := by omega
   clear hnb
   obtain ⟨gb, hgb⟩ : ∃ g, V9.heap.size = g := ⟨_, rfl⟩
   obtain ⟨U1, hU1⟩ : ∃ W, V9.alloc (.cells (repA nb (.int .u8 0)) 5) = W := ⟨_, rfl⟩
   have hmk := mkU_big nb (by omega) V9
   rw [hgb, hU1] at hmk
   have hb : Below V9.heap.size V9 U1 := by rw [<- hU1]; exact (Below.refl _ _).alloc (Nat.le_refl _) _
   have XB : Hid (Blk U1 gb 5 (repA nb (.int .u8 0))) := Lib.hid (by rw [<- hU1]; exact Blk.newAt _ hgb _ _)
   replace X := Lib.hid (Blk.below X.out hb X.out.lt)
   replace HT := Lib.hid (HT.out.below hb)
   replace HB := Lib.hid (HB.out.trans (hb.mono HB.out.size))
   clear hb
   obtain ⟨Zs, hZs⟩ : ∃ Z, strOfNums (List.replicate nb 0) = Z := ⟨_, rfl⟩
   have hlz := segT_zeros tT nb
   have hzs : Zs.size = nb := by rw [<- hZs, strOfNums_size, List.length_replicate]
   rw [hZs] at hlz
   have HCV : Hid (∀ W, Below U1.heap.size U1 W -> (convert 23 9 (.slice (some ⟨gb, 0, none⟩) nb nb)).run Try.prog W = .ok (.string Zs) W) := Lib.hid (fun W hW => by rw [conv_zeros XB.out hW, hZs])
   have h3 := segR_three tT Zs
   rw [hzs] at h3
   have HLZ := Lib.hid hlz
   have HBU : Hid (Below U1.heap.size U1 U1) := Lib.hid (Below.refl _ _)
   clear hU1 hgb hZs hlz hzs XB
   have k0 := X.out.cell 0
   have k1 := X.out.cell 1
   have k2 := X.out.cell 2
   have k3 := X.out.cell 3
   have k4 := X.out.cell 4
   have k5 := X.out.cell 5
   simp only [List.getElem?_toArray, List.getElem?_cons_zero, List.getElem?_cons_succ] at k0 k1 k2 k3 k4 k5
   go_wp2_with fail
   try rw [hmk]
   try go_wp2_with fail
   clear hmk wq
   rcases h3 with ⟨hR, hn, hsr⟩ | ⟨hR, hn, hsr⟩ | ⟨hR, hsr⟩
   ·have HSR := Lib.hid hsr; have HRT := Lib.hid hR
    clear hsr hR
    obtain ⟨L, hL⟩ : ∃ l, segT tT Zs = l := ⟨_, rfl⟩
    have hln := HLZ.out
    rw [hL] at hln
    have hsr := HSR.out
    rw [hL] at hsr
    replace HSR := Lib.hid hsr
    have HLN := Lib.hid hln
    clear hln hsr hL
    rw [HCV.out _ HBU.out]
    simp only [Result.andThen]
    rw [Oper.upon_value]
    go_wp2_with fail
    have hseg := segment_any HT.out Zs
    rw [HSR.out] at hseg
    unfold tabV at hseg
    refine hseg.mono ?_
    clear hseg
    rintro e U2 ⟨v, rfl, ⟨AL, cL, rfl, hLr, hfar⟩, hb⟩
    dsimp only at hLr hfar ⊢
    rw [HLN.out] at hLr ⊢
    have HSL := Lib.hid hLr
    clear hLr hfar
    replace X := Lib.hid (Blk.below X.out hb X.out.lt)
    replace HT := Lib.hid (HT.out.below hb)
    replace HBU := Lib.hid (HBU.out.trans (hb.mono HBU.out.size))
    replace HB := Lib.hid (HB.out.trans (hb.mono HB.out.size))
    clear hb
    clear k0 k1 k2 k3 k4 k5
    have k0 := X.out.cell 0
    have k1 := X.out.cell 1
    have k2 := X.out.cell 2
    have k3 := X.out.cell 3
    have k4 := X.out.cell 4
    have k5 := X.out.cell 5
    simp only [List.getElem?_toArray, List.getElem?_cons_zero, List.getElem?_cons_succ] at k0 k1 k2 k3 k4 k5
    go_wp2_with fail
    rw [HCV.out _ HBU.out]
    simp only [Result.andThen]
    rw [Oper.upon_value]
    go_wp2_with fail
    have hnew := snew_any HT.out Zs
    rw [HSR.out] at hnew
    dsimp only at hnew
    unfold tabV at hnew
    refine hnew.mono ?_
    clear hnew
    rintro e U3 ⟨bc, Ac, kc, rfl, hcur, hbl, hb⟩
    have HC := Lib.hid hcur; have HBc := Lib.hid (Nat.le_trans HB.out.size hbl)
    clear hcur hbl
    replace X := Lib.hid (Blk.below X.out hb X.out.lt)
    replace HT := Lib.hid (HT.out.below hb)
    replace HSL := Lib.hid (HSL.out.below hb)
    replace HB := Lib.hid (HB.out.trans (hb.mono HB.out.size))
    clear hb
    clear k0 k1 k2 k3 k4 k5 HBU HCV
    have k0 := X.out.cell 0
    have k1 := X.out.cell 1
    have k2 := X.out.cell 2
    have k3 := X.out.cell 3
    have k4 := X.out.cell 4
    have k5 := X.out.cell 5
    simp only [List.getElem?_toArray, List.getElem?_cons_zero, List.getElem?_cons_succ] at k0 k1 k2 k3 k4 k5
    go_wp2_with fail
    have hrr := rright_any HT.out hl9
    refine hrr.mono ?_
    clear hrr
    intro e U4 hro
    unfold RrO at hro
    obtain ⟨s, rfl, hs, hb⟩ := hro
    have hs1 : s = true := hs.2 HRT.out
    subst hs1
    replace HC := Lib.hid (HC.out.below hb)
    replace HSL := Lib.hid (HSL.out.below hb)
    replace HB := Lib.hid (HB.out.trans (hb.mono HB.out.size))
    clear hb
    clear hs k0 k1 k2 k3 k4 k5 X HT
    have hl4 : ¬ (4000 : Int) < (nb : Int) := by omega
    go_wp2_with fail
    refine (sat_any HC.out).mono ?_
    rintro e U5 ⟨rfl, hb⟩
    have hra : rowAt L 0 = L.getD 0 (0, 0, 0) := rowAt_in (i := 0) (by rw [HLN.out]; omega)
    rw [hra]
    obtain ⟨⟨p1, p2, p3⟩, hu⟩ : ∃ u, L.getD 0 (0, 0, 0) = u := ⟨_, rfl⟩
    rw [hu]
    unfold vcV
    dsimp only
    have hbs := hb.size
    obtain ⟨b8, hb8⟩ : ∃ b, U5.heap.size = b := ⟨_, rfl⟩
    obtain ⟨U6, hU6⟩ : ∃ W, U5.alloc (.cells #[.int .i64 p1, .int .i64 p2, .int .i64 p3] 51) = W := ⟨_, rfl⟩
    have hb2 : Below U5.heap.size U5 U6 := by rw [<- hU6]; exact (Below.refl _ _).alloc (Nat.le_refl _) _
    have X8 : Hid (Blk U6 b8 51 #[.int .i64 p1, .int .i64 p2, .int .i64 p3]) := Lib.hid (by rw [<- hU6]; exact Blk.newAt _ hb8 _ _)
    replace hb := hb.trans (hb2.mono hb.size)
    have hne : ¬ b8 = bc := by have h1 := HC.out.x.lt; omega
    replace HC := Lib.hid (HC.out.below hb)
    replace HSL := Lib.hid (HSL.out.below hb)
    replace HB := Lib.hid (HB.out.trans (hb.mono HB.out.size))
    clear hb
    have HU6 := Lib.hid hU6; have HB8 := Lib.hid hb8
    clear hb2 hU6 hb8 hbs hra
    have hrow := HSL.out
    obtain ⟨g, o, eA, -, hcc⟩ := hrow.at encV_len (by decide) 0 (p1, p2, p3) (by rw [<- hu]; exact sgetD_at (by rw [HLN.out]; omega))
    subst eA
    have d0 := hcc 0 (.int .i64 p1) rfl; have d1 := hcc 1 (.int .i64 p2) rfl; have d2 := hcc 2 (.int .i64 p3) rfl
    simp only [Nat.zero_mul, Nat.add_zero] at d0 d1 d2
    have hS : (fun W : World => (W.cell? ⟨b8, 0, none⟩ = some (.int .i64 p1) /\ W.cell? ⟨b8, 1, none⟩ = some (.int .i64 p2) /\ W.cell? ⟨b8, 2, none⟩ = some (.int .i64 p3)) /\ W.cell? ⟨g, o, none⟩ = some (.int .i64 p1) /\ W.cell? ⟨g, o + 1, none⟩ = some (.int .i64 p2) /\ W.cell? ⟨g, o + 2, none⟩ = some (.int .i64 p3)) U6.drew := ⟨⟨X8.out.cell 0, X8.out.cell 1, X8.out.cell 2⟩, d0, d1, d2⟩
    have wm : IntKind.i64.wrap ((nb : Int) + 1) = (nb : Int) + 1 := IntWalk.i64_in _ (by omega)
    have np : (0 : Int) < (nb : Int) + 1 := by omega
    have qv := seqVec p1 p2 p3 p1 p2 p3
    rw [sveq_refl] at qv
    clear hcc hu hrow d0 d1 d2 hl4
    go_wp2_with fail
    rw [HU6.out]
    try simp only [HB8.out]
    refine region_x 28 (fun W : World => (W.cell? ⟨b8, 0, none⟩ = some (.int .i64 p1) /\ W.cell? ⟨b8, 1, none⟩ = some (.int .i64 p2) /\ W.cell? ⟨b8, 2, none⟩ = some (.int .i64 p3)) /\ W.cell? ⟨g, o, none⟩ = some (.int .i64 p1) /\ W.cell? ⟨g, o + 1, none⟩ = some (.int .i64 p2) /\ W.cell? ⟨g, o + 2, none⟩ = some (.int .i64 p3)) (by kernel_rfl) ?_
    have HC7 := Lib.hid (HC.out.below ((Below.refl _ _).drew : Below U6.heap.size U6 U6.drew))
    replace HB := Lib.hid HB.out.drew
    generalize U6.drew = U7 at *
    refine tkx (i := 0) (v := ?_) hS ?_ ?_
    rotate_left
    ·rintro w' ⟨⟨s1, s2, s3⟩, s4, s5, s6⟩
     go_simp
     try with_reducible rfl
    try simp only [Act.put, zq1, zq2, zq3, zq4, zq5, zq6]
    refine tkx (i := 1) (v := ?_) hS ?_ ?_
    rotate_left
    ·rintro w' ⟨⟨s1, s2, s3⟩, s4, s5, s6⟩
     go_simp
     try with_reducible rfl
    try simp only [Act.put, zq1, zq2, zq3, zq4, zq5, zq6]
    refine tkx (i := 2) (v := ?_) hS ?_ ?_
    rotate_left
    ·rintro w' ⟨⟨s1, s2, s3⟩, s4, s5, s6⟩
     go_simp
     try with_reducible rfl
    try simp only [Act.put, zq1, zq2, zq3, zq4, zq5, zq6]
    refine tkx (i := 3) (v := ?_) hS ?_ ?_
    rotate_left
    ·rintro w' ⟨⟨s1, s2, s3⟩, s4, s5, s6⟩
     go_simp
     try with_reducible rfl
    try simp only [Act.put, zq1, zq2, zq3, zq4, zq5, zq6]
    refine tkx (i := 4) (v := ?_) hS ?_ ?_
    rotate_left
    ·rintro w' ⟨⟨s1, s2, s3⟩, s4, s5, s6⟩
     go_simp
     try with_reducible rfl
    try simp only [Act.put, zq1, zq2, zq3, zq4, zq5, zq6]
    refine tkx (i := 5) (v := ?_) hS ?_ ?_
    rotate_left
    ·rintro w' ⟨⟨s1, s2, s3⟩, s4, s5, s6⟩
     go_simp
     try with_reducible rfl
    try simp only [Act.put, zq1, zq2, zq3, zq4, zq5, zq6]
    refine tkx (i := 6) (v := ?_) hS ?_ ?_
    rotate_left
    ·rintro w' ⟨⟨s1, s2, s3⟩, s4, s5, s6⟩
     go_simp
     try with_reducible rfl
    try simp only [Act.put, zq1, zq2, zq3, zq4, zq5, zq6]
    refine tkx (i := 7) (v := ?_) hS ?_ ?_
    rotate_left
    ·rintro w' ⟨⟨s1, s2, s3⟩, s4, s5, s6⟩
     go_simp
     try with_reducible rfl
    try simp only [Act.put, zq1, zq2, zq3, zq4, zq5, zq6]
    refine tkx (i := 8) (v := ?_) hS ?_ ?_
    rotate_left
    ·rintro w' ⟨⟨s1, s2, s3⟩, s4, s5, s6⟩
     go_simp
     try with_reducible rfl
    try simp only [Act.put, zq1, zq2, zq3, zq4, zq5, zq6]
    refine tkx (i := 9) (v := ?_) hS ?_ ?_
    rotate_left
    ·rintro w' ⟨⟨s1, s2, s3⟩, s4, s5, s6⟩
     go_simp
     try with_reducible rfl
    try simp only [Act.put, zq1, zq2, zq3, zq4, zq5, zq6]
    refine tkx (i := 10) (v := ?_) hS ?_ ?_
    rotate_left
    ·rintro w' ⟨⟨s1, s2, s3⟩, s4, s5, s6⟩
     go_simp
     try with_reducible rfl
    try simp only [Act.put, zq1, zq2, zq3, zq4, zq5, zq6]
    refine tkx (i := 11) (v := ?_) hS ?_ ?_
    rotate_left
    ·rintro w' ⟨⟨s1, s2, s3⟩, s4, s5, s6⟩
     go_simp
     try with_reducible rfl
    try simp only [Act.put, zq1, zq2, zq3, zq4, zq5, zq6]
    refine tkx (i := 13) (v := ?_) hS ?_ ?_
    rotate_left
    ·rintro w' ⟨⟨s1, s2, s3⟩, s4, s5, s6⟩
     go_simp
     try with_reducible rfl
    try simp only [Act.put, zq1, zq2, zq3, zq4, zq5, zq6]
    refine tkx (i := 14) (v := ?_) hS ?_ ?_
    rotate_left
    ·rintro w' ⟨⟨s1, s2, s3⟩, s4, s5, s6⟩
     go_simp
     try with_reducible rfl
    try simp only [Act.put, zq1, zq2, zq3, zq4, zq5, zq6]
    refine anyX_g (i := 12) (by kernel_rfl) (by decide) rfl (by rfl) ?_
    intro K hK
    try simp only [zq1, zq2, zq3]
    refine wp_enterE #[.pointer (some ⟨bc, 0, none⟩)] Try.func26 (by kernel_rfl) (by kernel_rfl) ?_ (slen_any HC7.out) ?_
    ·go_simp
    rintro e w9 ⟨rfl, hw⟩
    subst w9
    rw [HLN.out]
    refine ⟨_, rfl, ?_⟩
    refine hK _ _ hS ?_
    clear hK
    try simp only [Act.put, zq1, zq2, zq3, zq4, zq5, zq6]
    refine tkx (i := 15) (v := ?_) hS ?_ ?_
    rotate_left
    ·rintro w' ⟨⟨s1, s2, s3⟩, s4, s5, s6⟩
     go_simp
     try with_reducible rfl
    try simp only [Act.put, zq1, zq2, zq3, zq4, zq5, zq6]
    refine tkx (i := 16) (v := ?_) hS ?_ ?_
    rotate_left
    ·rintro w' ⟨⟨s1, s2, s3⟩, s4, s5, s6⟩
     go_simp
     try with_reducible rfl
    try simp only [Act.put, zq1, zq2, zq3, zq4, zq5, zq6]
    refine tkx (i := 17) (v := ?_) hS ?_ ?_
    rotate_left
    ·rintro w' ⟨⟨s1, s2, s3⟩, s4, s5, s6⟩
     go_simp
     try with_reducible rfl
    try simp only [Act.put, zq1, zq2, zq3, zq4, zq5, zq6]
    refine tkx (i := 18) (v := ?_) hS ?_ ?_
    rotate_left
    ·rintro w' ⟨⟨s1, s2, s3⟩, s4, s5, s6⟩
     go_simp
     try with_reducible rfl
    try simp only [Act.put, zq1, zq2, zq3, zq4, zq5, zq6]
    refine tkx (i := 19) (v := ?_) hS ?_ ?_
    rotate_left
    ·rintro w' ⟨⟨s1, s2, s3⟩, s4, s5, s6⟩
     go_simp
     try with_reducible rfl
    try simp only [Act.put, zq1, zq2, zq3, zq4, zq5, zq6]
    refine tkx (i := 20) (v := ?_) hS ?_ ?_
    rotate_left
    ·rintro w' ⟨⟨s1, s2, s3⟩, s4, s5, s6⟩
     go_simp
     try with_reducible rfl
    try simp only [Act.put, zq1, zq2, zq3, zq4, zq5, zq6]
    refine tkx (i := 21) (v := ?_) hS ?_ ?_
    rotate_left
    ·rintro w' ⟨⟨s1, s2, s3⟩, s4, s5, s6⟩
     go_simp
     try with_reducible rfl
    try simp only [Act.put, zq1, zq2, zq3, zq4, zq5, zq6]
    refine tkx (i := 22) (v := ?_) hS ?_ ?_
    rotate_left
    ·rintro w' ⟨⟨s1, s2, s3⟩, s4, s5, s6⟩
     go_simp
     try with_reducible rfl
    try simp only [Act.put, zq1, zq2, zq3, zq4, zq5, zq6]
    refine tkx (i := 23) (v := ?_) hS ?_ ?_
    rotate_left
    ·rintro w' ⟨⟨s1, s2, s3⟩, s4, s5, s6⟩
     go_simp
     try with_reducible rfl
    try simp only [Act.put, zq1, zq2, zq3, zq4, zq5, zq6]
    refine tkx (i := 24) (v := ?_) hS ?_ ?_
    rotate_left
    ·rintro w' ⟨⟨s1, s2, s3⟩, s4, s5, s6⟩
     go_simp
     try with_reducible rfl
    try simp only [Act.put, zq1, zq2, zq3, zq4, zq5, zq6]
    refine tkx (i := 25) (v := ?_) hS ?_ ?_
    rotate_left
    ·rintro w' ⟨⟨s1, s2, s3⟩, s4, s5, s6⟩
     go_simp
     try with_reducible rfl
    try simp only [Act.put, zq1, zq2, zq3, zq4, zq5, zq6]
    refine tkx (i := 26) (v := ?_) hS ?_ ?_
    rotate_left
    ·rintro w' ⟨⟨s1, s2, s3⟩, s4, s5, s6⟩
     go_simp
     try with_reducible rfl
    try simp only [Act.put, zq1, zq2, zq3, zq4, zq5, zq6]
    refine tkx (i := 27) (v := ?_) hS ?_ ?_
    rotate_left
    ·rintro w' ⟨⟨s1, s2, s3⟩, s4, s5, s6⟩
     go_simp
     try with_reducible rfl
    try simp only [Act.put, zq1, zq2, zq3, zq4, zq5, zq6]
    refine anyX_last (by kernel_rfl) (by kernel_rfl) rfl rfl ?_
    try simp only [zq1, zq2, zq3]
    go_simp
    try apply_assumption
    go_wp2_with fail
    go_ret
    exact ⟨rfl, HB.out⟩
   ·have HSR := Lib.hid hsr; have HRT := Lib.hid hR
    clear hsr hR
    try clear HLZ
    rw [HCV.out _ HBU.out]
    simp only [Result.andThen]
    rw [Oper.upon_value]
    go_wp2_with fail
    have hseg := segment_any HT.out Zs
    rw [HSR.out] at hseg
    unfold tabV at hseg
    refine hseg.mono ?_
    clear hseg
    rintro e U2 ⟨v, rfl, ⟨AL, cL, rfl, hLr, hfar⟩, hb⟩
    dsimp only at hLr hfar ⊢
    simp only [List.length_nil] at hLr ⊢
    clear hLr hfar
    replace X := Lib.hid (Blk.below X.out hb X.out.lt)
    replace HT := Lib.hid (HT.out.below hb)
    replace HBU := Lib.hid (HBU.out.trans (hb.mono HBU.out.size))
    replace HB := Lib.hid (HB.out.trans (hb.mono HB.out.size))
    clear hb
    clear k0 k1 k2 k3 k4 k5
    have k0 := X.out.cell 0
    have k1 := X.out.cell 1
    have k2 := X.out.cell 2
    have k3 := X.out.cell 3
    have k4 := X.out.cell 4
    have k5 := X.out.cell 5
    simp only [List.getElem?_toArray, List.getElem?_cons_zero, List.getElem?_cons_succ] at k0 k1 k2 k3 k4 k5
    go_wp2_with fail
    rw [HCV.out _ HBU.out]
    simp only [Result.andThen]
    rw [Oper.upon_value]
    go_wp2_with fail
    have hnew := snew_any HT.out Zs
    rw [HSR.out] at hnew
    dsimp only at hnew
    unfold tabV at hnew
    refine hnew.mono ?_
    clear hnew
    rintro e U3 ⟨bc, Ac, kc, rfl, hcur, hbl, hb⟩
    have HC := Lib.hid hcur; have HBc := Lib.hid (Nat.le_trans HB.out.size hbl)
    clear hcur hbl
    replace X := Lib.hid (Blk.below X.out hb X.out.lt)
    replace HT := Lib.hid (HT.out.below hb)
    replace HB := Lib.hid (HB.out.trans (hb.mono HB.out.size))
    clear hb
    clear k0 k1 k2 k3 k4 k5 HBU HCV
    have k0 := X.out.cell 0
    have k1 := X.out.cell 1
    have k2 := X.out.cell 2
    have k3 := X.out.cell 3
    have k4 := X.out.cell 4
    have k5 := X.out.cell 5
    simp only [List.getElem?_toArray, List.getElem?_cons_zero, List.getElem?_cons_succ] at k0 k1 k2 k3 k4 k5
    go_wp2_with fail
    have hrr := rright_any HT.out hl9
    refine hrr.mono ?_
    clear hrr
    intro e U4 hro
    unfold RrO at hro
    obtain ⟨s, rfl, hs, hb⟩ := hro
    have hs1 : s = true := hs.2 HRT.out
    subst hs1
    replace HC := Lib.hid (HC.out.below hb)
    replace HB := Lib.hid (HB.out.trans (hb.mono HB.out.size))
    clear hb
    clear hs k0 k1 k2 k3 k4 k5 X HT
    have hl4 : (4000 : Int) < (nb : Int) := by omega
    go_wp2_with fail
    refine (sat_any HC.out).mono ?_
    rintro e U5 ⟨rfl, hb⟩
    have hra : rowAt [] 0 = noneV := by decide
    rw [hra]
    unfold noneV
    unfold vcV
    dsimp only
    have hbs := hb.size
    obtain ⟨b8, hb8⟩ : ∃ b, U5.heap.size = b := ⟨_, rfl⟩
    obtain ⟨U6, hU6⟩ : ∃ W, U5.alloc (.cells #[.int .i64 1152921504606846976, .int .i64 1152921504606846976, .int .i64 1152921504606846976] 51) = W := ⟨_, rfl⟩
    have hb2 : Below U5.heap.size U5 U6 := by rw [<- hU6]; exact (Below.refl _ _).alloc (Nat.le_refl _) _
    have X8 : Hid (Blk U6 b8 51 #[.int .i64 1152921504606846976, .int .i64 1152921504606846976, .int .i64 1152921504606846976]) := Lib.hid (by rw [<- hU6]; exact Blk.newAt _ hb8 _ _)
    replace hb := hb.trans (hb2.mono hb.size)
    have hne : ¬ b8 = bc := by have h1 := HC.out.x.lt; omega
    replace HC := Lib.hid (HC.out.below hb)
    replace HB := Lib.hid (HB.out.trans (hb.mono HB.out.size))
    clear hb
    have HU6 := Lib.hid hU6; have HB8 := Lib.hid hb8
    clear hb2 hU6 hb8 hbs hra
    try clear hl4
    go_wp2_with fail
    try rw [HU6.out]
    try simp only [HB8.out]
    refine (sbest_any (lo := 0) (hi := 0) (cat := 0) HC.out (by decide)).mono ?_
    intro e U7 hbe
    unfold BestO at hbe
    obtain ⟨rfl, hb⟩ := hbe
    have hbst : bestI [] 0 0 0 = (0, false) := by decide
    rw [hbst]
    dsimp only
    replace HC := Lib.hid (HC.out.below hb)
    replace X8 := Lib.hid (Blk.below X8.out hb X8.out.lt)
    replace HB := Lib.hid (HB.out.trans (hb.mono HB.out.size))
    clear hb
    clear hbst
    obtain ⟨U8, hU8⟩ : ∃ V, U7.drew = V := ⟨_, rfl⟩
    have hb : Below U7.heap.size U7 U8 := by rw [<- hU8]; exact (Below.refl _ _).drew
    replace HC := Lib.hid (HC.out.below hb)
    replace X8 := Lib.hid (Blk.below X8.out hb X8.out.lt)
    replace HB := Lib.hid (HB.out.trans (hb.mono HB.out.size))
    clear hb
    have hS : (fun W : World => W.cell? ⟨b8, 0, none⟩ = some (.int .i64 1152921504606846976) /\ W.cell? ⟨b8, 1, none⟩ = some (.int .i64 1152921504606846976) /\ W.cell? ⟨b8, 2, none⟩ = some (.int .i64 1152921504606846976)) U8 := ⟨X8.out.cell 0, X8.out.cell 1, X8.out.cell 2⟩
    have qv := seqVec 1152921504606846976 1152921504606846976 1152921504606846976 1152921504606846976 1152921504606846976 1152921504606846976
    rw [sveq_refl] at qv
    go_wp2_with fail
    refine region_x 41 (fun W : World => W.cell? ⟨b8, 0, none⟩ = some (.int .i64 1152921504606846976) /\ W.cell? ⟨b8, 1, none⟩ = some (.int .i64 1152921504606846976) /\ W.cell? ⟨b8, 2, none⟩ = some (.int .i64 1152921504606846976)) (by kernel_rfl) ?_
    rw [hU8]
    clear hU8
    refine tkx (i := 0) (v := ?_) hS ?_ ?_
    rotate_left
    ·rintro w' ⟨s1, s2, s3⟩
     go_simp
     try with_reducible rfl
    try simp only [Act.put, zq1, zq2, zq3, zq4, zq5, zq6]
    refine tkx (i := 1) (v := ?_) hS ?_ ?_
    rotate_left
    ·rintro w' ⟨s1, s2, s3⟩
     go_simp
     try with_reducible rfl
    try simp only [Act.put, zq1, zq2, zq3, zq4, zq5, zq6]
    refine tkx (i := 2) (v := ?_) hS ?_ ?_
    rotate_left
    ·rintro w' ⟨s1, s2, s3⟩
     go_simp
     try with_reducible rfl
    try simp only [Act.put, zq1, zq2, zq3, zq4, zq5, zq6]
    refine tkx (i := 3) (v := ?_) hS ?_ ?_
    rotate_left
    ·rintro w' ⟨s1, s2, s3⟩
     go_simp
     try with_reducible rfl
    try simp only [Act.put, zq1, zq2, zq3, zq4, zq5, zq6]
    refine tkx (i := 4) (v := ?_) hS ?_ ?_
    rotate_left
    ·rintro w' ⟨s1, s2, s3⟩
     go_simp
     try with_reducible rfl
    try simp only [Act.put, zq1, zq2, zq3, zq4, zq5, zq6]
    refine tkx (i := 5) (v := ?_) hS ?_ ?_
    rotate_left
    ·rintro w' ⟨s1, s2, s3⟩
     go_simp
     try with_reducible rfl
    try simp only [Act.put, zq1, zq2, zq3, zq4, zq5, zq6]
    refine tkx (i := 6) (v := ?_) hS ?_ ?_
    rotate_left
    ·rintro w' ⟨s1, s2, s3⟩
     go_simp
     try with_reducible rfl
    try simp only [Act.put, zq1, zq2, zq3, zq4, zq5, zq6]
    refine tkx (i := 7) (v := ?_) hS ?_ ?_
    rotate_left
    ·rintro w' ⟨s1, s2, s3⟩
     go_simp
     try with_reducible rfl
    try simp only [Act.put, zq1, zq2, zq3, zq4, zq5, zq6]
    refine tkx (i := 8) (v := ?_) hS ?_ ?_
    rotate_left
    ·rintro w' ⟨s1, s2, s3⟩
     go_simp
     try with_reducible rfl
    try simp only [Act.put, zq1, zq2, zq3, zq4, zq5, zq6]
    refine tkx (i := 9) (v := ?_) hS ?_ ?_
    rotate_left
    ·rintro w' ⟨s1, s2, s3⟩
     go_simp
     try with_reducible rfl
    try simp only [Act.put, zq1, zq2, zq3, zq4, zq5, zq6]
    refine anyX_g (i := 10) (by kernel_rfl) (by decide) rfl (by rfl) ?_
    intro K hK
    try simp only [zq1, zq2, zq3]
    refine wp_enterE #[.pointer (some ⟨bc, 0, none⟩)] Try.func26 (by kernel_rfl) (by kernel_rfl) ?_ (slen_any HC.out) ?_
    ·go_simp
    rintro e w9 ⟨rfl, hw⟩
    subst w9
    simp only [List.length_nil]
    refine ⟨_, rfl, ?_⟩
    refine hK _ _ hS ?_
    clear hK
    try simp only [Act.put, zq1, zq2, zq3, zq4, zq5, zq6]
    refine tkx (i := 11) (v := ?_) hS ?_ ?_
    rotate_left
    ·rintro w' ⟨s1, s2, s3⟩
     go_simp
     try with_reducible rfl
    try simp only [Act.put, zq1, zq2, zq3, zq4, zq5, zq6]
    refine tkx (i := 12) (v := ?_) hS ?_ ?_
    rotate_left
    ·rintro w' ⟨s1, s2, s3⟩
     go_simp
     try with_reducible rfl
    try simp only [Act.put, zq1, zq2, zq3, zq4, zq5, zq6]
    refine tkx (i := 13) (v := ?_) hS ?_ ?_
    rotate_left
    ·rintro w' ⟨s1, s2, s3⟩
     go_simp
     try with_reducible rfl
    try simp only [Act.put, zq1, zq2, zq3, zq4, zq5, zq6]
    refine tkx (i := 14) (v := ?_) hS ?_ ?_
    rotate_left
    ·rintro w' ⟨s1, s2, s3⟩
     go_simp
     try with_reducible rfl
    try simp only [Act.put, zq1, zq2, zq3, zq4, zq5, zq6]
    refine tkx (i := 15) (v := ?_) hS ?_ ?_
    rotate_left
    ·rintro w' ⟨s1, s2, s3⟩
     go_simp
     try with_reducible rfl
    try simp only [Act.put, zq1, zq2, zq3, zq4, zq5, zq6]
    refine tkx (i := 16) (v := ?_) hS ?_ ?_
    rotate_left
    ·rintro w' ⟨s1, s2, s3⟩
     go_simp
     try with_reducible rfl
    try simp only [Act.put, zq1, zq2, zq3, zq4, zq5, zq6]
    refine tkx (i := 17) (v := ?_) hS ?_ ?_
    rotate_left
    ·rintro w' ⟨s1, s2, s3⟩
     go_simp
     try with_reducible rfl
    try simp only [Act.put, zq1, zq2, zq3, zq4, zq5, zq6]
    refine tkx (i := 18) (v := ?_) hS ?_ ?_
    rotate_left
    ·rintro w' ⟨s1, s2, s3⟩
     go_simp
     try with_reducible rfl
    try simp only [Act.put, zq1, zq2, zq3, zq4, zq5, zq6]
    refine anyX_g (i := 19) (by kernel_rfl) (by decide) rfl (by rfl) ?_
    intro K hK
    try simp only [zq1, zq2, zq3]
    refine wp_enterE #[] Try.func28 (by kernel_rfl) (by kernel_rfl) ?_ (rnone_any _) ?_
    ·go_simp
    rintro e U9 ⟨rfl, hb⟩
    unfold vcV noneV
    dsimp only
    replace HC := Lib.hid (HC.out.below hb)
    replace X8 := Lib.hid (Blk.below X8.out hb X8.out.lt)
    replace HB := Lib.hid (HB.out.trans (hb.mono HB.out.size))
    clear hb
    clear hS
    have hS : (fun W : World => W.cell? ⟨b8, 0, none⟩ = some (.int .i64 1152921504606846976) /\ W.cell? ⟨b8, 1, none⟩ = some (.int .i64 1152921504606846976) /\ W.cell? ⟨b8, 2, none⟩ = some (.int .i64 1152921504606846976)) U9 := ⟨X8.out.cell 0, X8.out.cell 1, X8.out.cell 2⟩
    refine ⟨_, rfl, ?_⟩
    refine hK _ _ hS ?_
    clear hK
    try simp only [Act.put, zq1, zq2, zq3, zq4, zq5, zq6]
    refine tkx (i := 20) (v := ?_) hS ?_ ?_
    rotate_left
    ·rintro w' ⟨s1, s2, s3⟩
     go_simp
     try with_reducible rfl
    try simp only [Act.put, zq1, zq2, zq3, zq4, zq5, zq6]
    refine tkx (i := 21) (v := ?_) hS ?_ ?_
    rotate_left
    ·rintro w' ⟨s1, s2, s3⟩
     go_simp
     try with_reducible rfl
    try simp only [Act.put, zq1, zq2, zq3, zq4, zq5, zq6]
    refine tkx (i := 22) (v := ?_) hS ?_ ?_
    rotate_left
    ·rintro w' ⟨s1, s2, s3⟩
     go_simp
     try with_reducible rfl
    try simp only [Act.put, zq1, zq2, zq3, zq4, zq5, zq6]
    refine tkx (i := 23) (v := ?_) hS ?_ ?_
    rotate_left
    ·rintro w' ⟨s1, s2, s3⟩
     go_simp
     try with_reducible rfl
    try simp only [Act.put, zq1, zq2, zq3, zq4, zq5, zq6]
    refine anyX_g (i := 24) (by kernel_rfl) (by decide) rfl (by rfl) ?_
    intro K hK
    try simp only [zq1, zq2, zq3]
    refine wp_enterE #[.pointer (some ⟨bc, 0, none⟩)] Try.func29 (by kernel_rfl) (by kernel_rfl) ?_ (snext_any HC.out (by decide) (by decide)) ?_
    ·go_simp
    intro e U10 hse
    unfold SeekO at hse
    obtain ⟨s, rfl, hs, hcur, hf⟩ := hse
    have hs1 : s = false := by
     cases s with
     | false => rfl
     | true => have h := hs.1 rfl; unfold InRow at h; simp at h; try omega
    subst hs1
    rw [if_neg (by decide)] at hcur
    replace HC := Lib.hid hcur
    replace X8 := Lib.hid (hf.blk X8.out hne)
    replace HB := Lib.hid (seek_below HB.out HBc.out hf)
    clear hs hcur hf hS
    have hS : (fun W : World => W.cell? ⟨b8, 0, none⟩ = some (.int .i64 1152921504606846976) /\ W.cell? ⟨b8, 1, none⟩ = some (.int .i64 1152921504606846976) /\ W.cell? ⟨b8, 2, none⟩ = some (.int .i64 1152921504606846976)) U10 := ⟨X8.out.cell 0, X8.out.cell 1, X8.out.cell 2⟩
    refine ⟨_, rfl, ?_⟩
    refine hK _ _ hS ?_
    clear hK
    try simp only [Act.put, zq1, zq2, zq3, zq4, zq5, zq6]
    refine tkx (i := 25) (v := ?_) hS ?_ ?_
    rotate_left
    ·rintro w' ⟨s1, s2, s3⟩
     go_simp
     try with_reducible rfl
    try simp only [Act.put, zq1, zq2, zq3, zq4, zq5, zq6]
    refine tkx (i := 26) (v := ?_) hS ?_ ?_
    rotate_left
    ·rintro w' ⟨s1, s2, s3⟩
     go_simp
     try with_reducible rfl
    try simp only [Act.put, zq1, zq2, zq3, zq4, zq5, zq6]
    refine tkx (i := 27) (v := ?_) hS ?_ ?_
    rotate_left
    ·rintro w' ⟨s1, s2, s3⟩
     go_simp
     try with_reducible rfl
    try simp only [Act.put, zq1, zq2, zq3, zq4, zq5, zq6]
    refine tkx (i := 28) (v := ?_) hS ?_ ?_
    rotate_left
    ·rintro w' ⟨s1, s2, s3⟩
     go_simp
     try with_reducible rfl
    try simp only [Act.put, zq1, zq2, zq3, zq4, zq5, zq6]
    refine anyX_g (i := 29) (by kernel_rfl) (by decide) rfl (by rfl) ?_
    intro K hK
    try simp only [zq1, zq2, zq3]
    refine wp_enterE #[.pointer (some ⟨bc, 0, none⟩)] Try.func30 (by kernel_rfl) (by kernel_rfl) ?_ (sprev_any HC.out (by decide) (by decide)) ?_
    ·go_simp
    intro e U11 hse
    unfold SeekO at hse
    obtain ⟨s, rfl, hs, hcur, hf⟩ := hse
    have hs1 : s = false := by
     cases s with
     | false => rfl
     | true => have h := hs.1 rfl; unfold InRow at h; simp at h; try omega
    subst hs1
    rw [if_neg (by decide)] at hcur
    replace HC := Lib.hid hcur
    replace X8 := Lib.hid (hf.blk X8.out hne)
    replace HB := Lib.hid (seek_below HB.out HBc.out hf)
    clear hs hcur hf hS
    have hS : (fun W : World => W.cell? ⟨b8, 0, none⟩ = some (.int .i64 1152921504606846976) /\ W.cell? ⟨b8, 1, none⟩ = some (.int .i64 1152921504606846976) /\ W.cell? ⟨b8, 2, none⟩ = some (.int .i64 1152921504606846976)) U11 := ⟨X8.out.cell 0, X8.out.cell 1, X8.out.cell 2⟩
    refine ⟨_, rfl, ?_⟩
    refine hK _ _ hS ?_
    clear hK
    try simp only [Act.put, zq1, zq2, zq3, zq4, zq5, zq6]
    refine tkx (i := 30) (v := ?_) hS ?_ ?_
    rotate_left
    ·rintro w' ⟨s1, s2, s3⟩
     go_simp
     try with_reducible rfl
    try simp only [Act.put, zq1, zq2, zq3, zq4, zq5, zq6]
    refine tkx (i := 31) (v := ?_) hS ?_ ?_
    rotate_left
    ·rintro w' ⟨s1, s2, s3⟩
     go_simp
     try with_reducible rfl
    try simp only [Act.put, zq1, zq2, zq3, zq4, zq5, zq6]
    refine tkx (i := 32) (v := ?_) hS ?_ ?_
    rotate_left
    ·rintro w' ⟨s1, s2, s3⟩
     go_simp
     try with_reducible rfl
    try simp only [Act.put, zq1, zq2, zq3, zq4, zq5, zq6]
    refine tkx (i := 33) (v := ?_) hS ?_ ?_
    rotate_left
    ·rintro w' ⟨s1, s2, s3⟩
     go_simp
     try with_reducible rfl
    try simp only [Act.put, zq1, zq2, zq3, zq4, zq5, zq6]
    refine anyX_g (i := 34) (by kernel_rfl) (by decide) rfl (by rfl) ?_
    intro K hK
    try simp only [zq1, zq2, zq3]
    refine wp_enterE #[.pointer (some ⟨bc, 0, none⟩), .int .i64 0] Try.func31 (by kernel_rfl) (by kernel_rfl) ?_ (sseek_any (y := 0) HC.out) ?_
    ·go_simp
    intro e U12 hse
    unfold SeekO at hse
    obtain ⟨s, rfl, hs, hcur, hf⟩ := hse
    have hs1 : s = false := by
     cases s with
     | false => rfl
     | true => have h := hs.1 rfl; unfold InRow at h; simp at h; try omega
    subst hs1
    rw [if_neg (by decide)] at hcur
    replace HC := Lib.hid hcur
    replace X8 := Lib.hid (hf.blk X8.out hne)
    replace HB := Lib.hid (seek_below HB.out HBc.out hf)
    clear hs hcur hf hS
    have hS : (fun W : World => W.cell? ⟨b8, 0, none⟩ = some (.int .i64 1152921504606846976) /\ W.cell? ⟨b8, 1, none⟩ = some (.int .i64 1152921504606846976) /\ W.cell? ⟨b8, 2, none⟩ = some (.int .i64 1152921504606846976)) U12 := ⟨X8.out.cell 0, X8.out.cell 1, X8.out.cell 2⟩
    refine ⟨_, rfl, ?_⟩
    refine hK _ _ hS ?_
    clear hK
    try simp only [Act.put, zq1, zq2, zq3, zq4, zq5, zq6]
    refine tkx (i := 35) (v := ?_) hS ?_ ?_
    rotate_left
    ·rintro w' ⟨s1, s2, s3⟩
     go_simp
     try with_reducible rfl
    try simp only [Act.put, zq1, zq2, zq3, zq4, zq5, zq6]
    refine tkx (i := 36) (v := ?_) hS ?_ ?_
    rotate_left
    ·rintro w' ⟨s1, s2, s3⟩
     go_simp
     try with_reducible rfl
    try simp only [Act.put, zq1, zq2, zq3, zq4, zq5, zq6]
    refine tkx (i := 37) (v := ?_) hS ?_ ?_
    rotate_left
    ·rintro w' ⟨s1, s2, s3⟩
     go_simp
     try with_reducible rfl
    try simp only [Act.put, zq1, zq2, zq3, zq4, zq5, zq6]
    refine tkx (i := 38) (v := ?_) hS ?_ ?_
    rotate_left
    ·rintro w' ⟨s1, s2, s3⟩
     go_simp
     try with_reducible rfl
    try simp only [Act.put, zq1, zq2, zq3, zq4, zq5, zq6]
    refine tkx (i := 39) (v := ?_) hS ?_ ?_
    rotate_left
    ·rintro w' ⟨s1, s2, s3⟩
     go_simp
     try with_reducible rfl
    try simp only [Act.put, zq1, zq2, zq3, zq4, zq5, zq6]
    refine tkx (i := 40) (v := ?_) hS ?_ ?_
    rotate_left
    ·rintro w' ⟨s1, s2, s3⟩
     go_simp
     try with_reducible rfl
    try simp only [Act.put, zq1, zq2, zq3, zq4, zq5, zq6]
    refine anyX_last (by kernel_rfl) (by kernel_rfl) rfl rfl ?_
    try simp only [zq1, zq2, zq3]
    go_simp
    try apply_assumption
    clear hS
    go_wp2_with fail
    go_ret
    exact ⟨rfl, HB.out⟩
   ·have HSR := Lib.hid hsr; have HRT := Lib.hid hR
    clear hsr hR
    try clear HLZ
    rw [HCV.out _ HBU.out]
    simp only [Result.andThen]
    rw [Oper.upon_value]
    go_wp2_with fail
    have hseg := segment_any HT.out Zs
    rw [HSR.out] at hseg
    unfold tabV at hseg
    refine hseg.mono ?_
    clear hseg
    rintro e U2 ⟨v, rfl, ⟨AL, cL, rfl, hLr, hfar⟩, hb⟩
    dsimp only at hLr hfar ⊢
    simp only [List.length_nil] at hLr ⊢
    clear hLr hfar
    replace X := Lib.hid (Blk.below X.out hb X.out.lt)
    replace HT := Lib.hid (HT.out.below hb)
    replace HBU := Lib.hid (HBU.out.trans (hb.mono HBU.out.size))
    replace HB := Lib.hid (HB.out.trans (hb.mono HB.out.size))
    clear hb
    clear k0 k1 k2 k3 k4 k5
    have k0 := X.out.cell 0
    have k1 := X.out.cell 1
    have k2 := X.out.cell 2
    have k3 := X.out.cell 3
    have k4 := X.out.cell 4
    have k5 := X.out.cell 5
    simp only [List.getElem?_toArray, List.getElem?_cons_zero, List.getElem?_cons_succ] at k0 k1 k2 k3 k4 k5
    go_wp2_with fail
    rw [HCV.out _ HBU.out]
    simp only [Result.andThen]
    rw [Oper.upon_value]
    go_wp2_with fail
    have hnew := snew_any HT.out Zs
    rw [HSR.out] at hnew
    dsimp only at hnew
    unfold tabV at hnew
    refine hnew.mono ?_
    clear hnew
    rintro e U3 ⟨bc, Ac, kc, rfl, hcur, hbl, hb⟩
    have HC := Lib.hid hcur; have HBc := Lib.hid (Nat.le_trans HB.out.size hbl)
    clear hcur hbl
    replace X := Lib.hid (Blk.below X.out hb X.out.lt)
    replace HT := Lib.hid (HT.out.below hb)
    replace HB := Lib.hid (HB.out.trans (hb.mono HB.out.size))
    clear hb
    clear k0 k1 k2 k3 k4 k5 HBU HCV
    have k0 := X.out.cell 0
    have k1 := X.out.cell 1
    have k2 := X.out.cell 2
    have k3 := X.out.cell 3
    have k4 := X.out.cell 4
    have k5 := X.out.cell 5
    simp only [List.getElem?_toArray, List.getElem?_cons_zero, List.getElem?_cons_succ] at k0 k1 k2 k3 k4 k5
    go_wp2_with fail
    have hrr := rright_any HT.out hl9
    refine hrr.mono ?_
    clear hrr
    intro e U4 hro
    unfold RrO at hro
    obtain ⟨s, rfl, hs, hb⟩ := hro
    have hs1 : s = false := by
     cases s with
     | false => rfl
     | true => exact absurd (hs.1 rfl) HRT.out
    subst hs1
    replace HC := Lib.hid (HC.out.below hb)
    replace HB := Lib.hid (HB.out.trans (hb.mono HB.out.size))
    clear hb
    clear hs k0 k1 k2 k3 k4 k5 X HT
    go_wp2_with fail
    refine (sat_any HC.out).mono ?_
    rintro e U5 ⟨rfl, hb⟩
    have hra : rowAt [] 0 = noneV := by decide
    rw [hra]
    unfold noneV
    unfold vcV
    dsimp only
    have hbs := hb.size
    obtain ⟨b8, hb8⟩ : ∃ b, U5.heap.size = b := ⟨_, rfl⟩
    obtain ⟨U6, hU6⟩ : ∃ W, U5.alloc (.cells #[.int .i64 1152921504606846976, .int .i64 1152921504606846976, .int .i64 1152921504606846976] 51) = W := ⟨_, rfl⟩
    have hb2 : Below U5.heap.size U5 U6 := by rw [<- hU6]; exact (Below.refl _ _).alloc (Nat.le_refl _) _
    have X8 : Hid (Blk U6 b8 51 #[.int .i64 1152921504606846976, .int .i64 1152921504606846976, .int .i64 1152921504606846976]) := Lib.hid (by rw [<- hU6]; exact Blk.newAt _ hb8 _ _)
    replace hb := hb.trans (hb2.mono hb.size)
    have hne : ¬ b8 = bc := by have h1 := HC.out.x.lt; omega
    replace HC := Lib.hid (HC.out.below hb)
    replace HB := Lib.hid (HB.out.trans (hb.mono HB.out.size))
    clear hb
    have HU6 := Lib.hid hU6; have HB8 := Lib.hid hb8
    clear hb2 hU6 hb8 hbs hra
    try clear hl4
    go_wp2_with fail
    try rw [HU6.out]
    try simp only [HB8.out]
    refine (sbest_any (lo := 0) (hi := 0) (cat := 0) HC.out (by decide)).mono ?_
    intro e U7 hbe
    unfold BestO at hbe
    obtain ⟨rfl, hb⟩ := hbe
    have hbst : bestI [] 0 0 0 = (0, false) := by decide
    rw [hbst]
    dsimp only
    replace HC := Lib.hid (HC.out.below hb)
    replace X8 := Lib.hid (Blk.below X8.out hb X8.out.lt)
    replace HB := Lib.hid (HB.out.trans (hb.mono HB.out.size))
    clear hb
    clear hbst
    obtain ⟨U8, hU8⟩ : ∃ V, U7.drew = V := ⟨_, rfl⟩
    have hb : Below U7.heap.size U7 U8 := by rw [<- hU8]; exact (Below.refl _ _).drew
    replace HC := Lib.hid (HC.out.below hb)
    replace X8 := Lib.hid (Blk.below X8.out hb X8.out.lt)
    replace HB := Lib.hid (HB.out.trans (hb.mono HB.out.size))
    clear hb
    have hS : (fun W : World => W.cell? ⟨b8, 0, none⟩ = some (.int .i64 1152921504606846976) /\ W.cell? ⟨b8, 1, none⟩ = some (.int .i64 1152921504606846976) /\ W.cell? ⟨b8, 2, none⟩ = some (.int .i64 1152921504606846976)) U8 := ⟨X8.out.cell 0, X8.out.cell 1, X8.out.cell 2⟩
    have qv := seqVec 1152921504606846976 1152921504606846976 1152921504606846976 1152921504606846976 1152921504606846976 1152921504606846976
    rw [sveq_refl] at qv
    go_wp2_with fail
    refine region_x 41 (fun W : World => W.cell? ⟨b8, 0, none⟩ = some (.int .i64 1152921504606846976) /\ W.cell? ⟨b8, 1, none⟩ = some (.int .i64 1152921504606846976) /\ W.cell? ⟨b8, 2, none⟩ = some (.int .i64 1152921504606846976)) (by kernel_rfl) ?_
    rw [hU8]
    clear hU8
    refine tkx (i := 0) (v := ?_) hS ?_ ?_
    rotate_left
    ·rintro w' ⟨s1, s2, s3⟩
     go_simp
     try with_reducible rfl
    try simp only [Act.put, zq1, zq2, zq3, zq4, zq5, zq6]
    refine tkx (i := 1) (v := ?_) hS ?_ ?_
    rotate_left
    ·rintro w' ⟨s1, s2, s3⟩
     go_simp
     try with_reducible rfl
    try simp only [Act.put, zq1, zq2, zq3, zq4, zq5, zq6]
    refine tkx (i := 2) (v := ?_) hS ?_ ?_
    rotate_left
    ·rintro w' ⟨s1, s2, s3⟩
     go_simp
     try with_reducible rfl
    try simp only [Act.put, zq1, zq2, zq3, zq4, zq5, zq6]
    refine tkx (i := 3) (v := ?_) hS ?_ ?_
    rotate_left
    ·rintro w' ⟨s1, s2, s3⟩
     go_simp
     try with_reducible rfl
    try simp only [Act.put, zq1, zq2, zq3, zq4, zq5, zq6]
    refine tkx (i := 4) (v := ?_) hS ?_ ?_
    rotate_left
    ·rintro w' ⟨s1, s2, s3⟩
     go_simp
     try with_reducible rfl
    try simp only [Act.put, zq1, zq2, zq3, zq4, zq5, zq6]
    refine tkx (i := 5) (v := ?_) hS ?_ ?_
    rotate_left
    ·rintro w' ⟨s1, s2, s3⟩
     go_simp
     try with_reducible rfl
    try simp only [Act.put, zq1, zq2, zq3, zq4, zq5, zq6]
    refine tkx (i := 6) (v := ?_) hS ?_ ?_
    rotate_left
    ·rintro w' ⟨s1, s2, s3⟩
     go_simp
     try with_reducible rfl
    try simp only [Act.put, zq1, zq2, zq3, zq4, zq5, zq6]
    refine tkx (i := 7) (v := ?_) hS ?_ ?_
    rotate_left
    ·rintro w' ⟨s1, s2, s3⟩
     go_simp
     try with_reducible rfl
    try simp only [Act.put, zq1, zq2, zq3, zq4, zq5, zq6]
    refine tkx (i := 8) (v := ?_) hS ?_ ?_
    rotate_left
    ·rintro w' ⟨s1, s2, s3⟩
     go_simp
     try with_reducible rfl
    try simp only [Act.put, zq1, zq2, zq3, zq4, zq5, zq6]
    refine tkx (i := 9) (v := ?_) hS ?_ ?_
    rotate_left
    ·rintro w' ⟨s1, s2, s3⟩
     go_simp
     try with_reducible rfl
    try simp only [Act.put, zq1, zq2, zq3, zq4, zq5, zq6]
    refine anyX_g (i := 10) (by kernel_rfl) (by decide) rfl (by rfl) ?_
    intro K hK
    try simp only [zq1, zq2, zq3]
    refine wp_enterE #[.pointer (some ⟨bc, 0, none⟩)] Try.func26 (by kernel_rfl) (by kernel_rfl) ?_ (slen_any HC.out) ?_
    ·go_simp
    rintro e w9 ⟨rfl, hw⟩
    subst w9
    simp only [List.length_nil]
    refine ⟨_, rfl, ?_⟩
    refine hK _ _ hS ?_
    clear hK
    try simp only [Act.put, zq1, zq2, zq3, zq4, zq5, zq6]
    refine tkx (i := 11) (v := ?_) hS ?_ ?_
    rotate_left
    ·rintro w' ⟨s1, s2, s3⟩
     go_simp
     try with_reducible rfl
    try simp only [Act.put, zq1, zq2, zq3, zq4, zq5, zq6]
    refine tkx (i := 12) (v := ?_) hS ?_ ?_
    rotate_left
    ·rintro w' ⟨s1, s2, s3⟩
     go_simp
     try with_reducible rfl
    try simp only [Act.put, zq1, zq2, zq3, zq4, zq5, zq6]
    refine tkx (i := 13) (v := ?_) hS ?_ ?_
    rotate_left
    ·rintro w' ⟨s1, s2, s3⟩
     go_simp
     try with_reducible rfl
    try simp only [Act.put, zq1, zq2, zq3, zq4, zq5, zq6]
    refine tkx (i := 14) (v := ?_) hS ?_ ?_
    rotate_left
    ·rintro w' ⟨s1, s2, s3⟩
     go_simp
     try with_reducible rfl
    try simp only [Act.put, zq1, zq2, zq3, zq4, zq5, zq6]
    refine tkx (i := 15) (v := ?_) hS ?_ ?_
    rotate_left
    ·rintro w' ⟨s1, s2, s3⟩
     go_simp
     try with_reducible rfl
    try simp only [Act.put, zq1, zq2, zq3, zq4, zq5, zq6]
    refine tkx (i := 16) (v := ?_) hS ?_ ?_
    rotate_left
    ·rintro w' ⟨s1, s2, s3⟩
     go_simp
     try with_reducible rfl
    try simp only [Act.put, zq1, zq2, zq3, zq4, zq5, zq6]
    refine tkx (i := 17) (v := ?_) hS ?_ ?_
    rotate_left
    ·rintro w' ⟨s1, s2, s3⟩
     go_simp
     try with_reducible rfl
    try simp only [Act.put, zq1, zq2, zq3, zq4, zq5, zq6]
    refine tkx (i := 18) (v := ?_) hS ?_ ?_
    rotate_left
    ·rintro w' ⟨s1, s2, s3⟩
     go_simp
     try with_reducible rfl
    try simp only [Act.put, zq1, zq2, zq3, zq4, zq5, zq6]
    refine anyX_g (i := 19) (by kernel_rfl) (by decide) rfl (by rfl) ?_
    intro K hK
    try simp only [zq1, zq2, zq3]
    refine wp_enterE #[] Try.func28 (by kernel_rfl) (by kernel_rfl) ?_ (rnone_any _) ?_
    ·go_simp
    rintro e U9 ⟨rfl, hb⟩
    unfold vcV noneV
    dsimp only
    replace HC := Lib.hid (HC.out.below hb)
    replace X8 := Lib.hid (Blk.below X8.out hb X8.out.lt)
    replace HB := Lib.hid (HB.out.trans (hb.mono HB.out.size))
    clear hb
    clear hS
    have hS : (fun W : World => W.cell? ⟨b8, 0, none⟩ = some (.int .i64 1152921504606846976) /\ W.cell? ⟨b8, 1, none⟩ = some (.int .i64 1152921504606846976) /\ W.cell? ⟨b8, 2, none⟩ = some (.int .i64 1152921504606846976)) U9 := ⟨X8.out.cell 0, X8.out.cell 1, X8.out.cell 2⟩
    refine ⟨_, rfl, ?_⟩
    refine hK _ _ hS ?_
    clear hK
    try simp only [Act.put, zq1, zq2, zq3, zq4, zq5, zq6]
    refine tkx (i := 20) (v := ?_) hS ?_ ?_
    rotate_left
    ·rintro w' ⟨s1, s2, s3⟩
     go_simp
     try with_reducible rfl
    try simp only [Act.put, zq1, zq2, zq3, zq4, zq5, zq6]
    refine tkx (i := 21) (v := ?_) hS ?_ ?_
    rotate_left
    ·rintro w' ⟨s1, s2, s3⟩
     go_simp
     try with_reducible rfl
    try simp only [Act.put, zq1, zq2, zq3, zq4, zq5, zq6]
    refine tkx (i := 22) (v := ?_) hS ?_ ?_
    rotate_left
    ·rintro w' ⟨s1, s2, s3⟩
     go_simp
     try with_reducible rfl
    try simp only [Act.put, zq1, zq2, zq3, zq4, zq5, zq6]
    refine tkx (i := 23) (v := ?_) hS ?_ ?_
    rotate_left
    ·rintro w' ⟨s1, s2, s3⟩
     go_simp
     try with_reducible rfl
    try simp only [Act.put, zq1, zq2, zq3, zq4, zq5, zq6]
    refine anyX_g (i := 24) (by kernel_rfl) (by decide) rfl (by rfl) ?_
    intro K hK
    try simp only [zq1, zq2, zq3]
    refine wp_enterE #[.pointer (some ⟨bc, 0, none⟩)] Try.func29 (by kernel_rfl) (by kernel_rfl) ?_ (snext_any HC.out (by decide) (by decide)) ?_
    ·go_simp
    intro e U10 hse
    unfold SeekO at hse
    obtain ⟨s, rfl, hs, hcur, hf⟩ := hse
    have hs1 : s = false := by
     cases s with
     | false => rfl
     | true => have h := hs.1 rfl; unfold InRow at h; simp at h; try omega
    subst hs1
    rw [if_neg (by decide)] at hcur
    replace HC := Lib.hid hcur
    replace X8 := Lib.hid (hf.blk X8.out hne)
    replace HB := Lib.hid (seek_below HB.out HBc.out hf)
    clear hs hcur hf hS
    have hS : (fun W : World => W.cell? ⟨b8, 0, none⟩ = some (.int .i64 1152921504606846976) /\ W.cell? ⟨b8, 1, none⟩ = some (.int .i64 1152921504606846976) /\ W.cell? ⟨b8, 2, none⟩ = some (.int .i64 1152921504606846976)) U10 := ⟨X8.out.cell 0, X8.out.cell 1, X8.out.cell 2⟩
    refine ⟨_, rfl, ?_⟩
    refine hK _ _ hS ?_
    clear hK
    try simp only [Act.put, zq1, zq2, zq3, zq4, zq5, zq6]
    refine tkx (i := 25) (v := ?_) hS ?_ ?_
    rotate_left
    ·rintro w' ⟨s1, s2, s3⟩
     go_simp
     try with_reducible rfl
    try simp only [Act.put, zq1, zq2, zq3, zq4, zq5, zq6]
    refine tkx (i := 26) (v := ?_) hS ?_ ?_
    rotate_left
    ·rintro w' ⟨s1, s2, s3⟩
     go_simp
     try with_reducible rfl
    try simp only [Act.put, zq1, zq2, zq3, zq4, zq5, zq6]
    refine tkx (i := 27) (v := ?_) hS ?_ ?_
    rotate_left
    ·rintro w' ⟨s1, s2, s3⟩
     go_simp
     try with_reducible rfl
    try simp only [Act.put, zq1, zq2, zq3, zq4, zq5, zq6]
    refine tkx (i := 28) (v := ?_) hS ?_ ?_
    rotate_left
    ·rintro w' ⟨s1, s2, s3⟩
     go_simp
     try with_reducible rfl
    try simp only [Act.put, zq1, zq2, zq3, zq4, zq5, zq6]
    refine anyX_g (i := 29) (by kernel_rfl) (by decide) rfl (by rfl) ?_
    intro K hK
    try simp only [zq1, zq2, zq3]
    refine wp_enterE #[.pointer (some ⟨bc, 0, none⟩)] Try.func30 (by kernel_rfl) (by kernel_rfl) ?_ (sprev_any HC.out (by decide) (by decide)) ?_
    ·go_simp
    intro e U11 hse
    unfold SeekO at hse
    obtain ⟨s, rfl, hs, hcur, hf⟩ := hse
    have hs1 : s = false := by
     cases s with
     | false => rfl
     | true => have h := hs.1 rfl; unfold InRow at h; simp at h; try omega
    subst hs1
    rw [if_neg (by decide)] at hcur
    replace HC := Lib.hid hcur
    replace X8 := Lib.hid (hf.blk X8.out hne)
    replace HB := Lib.hid (seek_below HB.out HBc.out hf)
    clear hs hcur hf hS
    have hS : (fun W : World => W.cell? ⟨b8, 0, none⟩ = some (.int .i64 1152921504606846976) /\ W.cell? ⟨b8, 1, none⟩ = some (.int .i64 1152921504606846976) /\ W.cell? ⟨b8, 2, none⟩ = some (.int .i64 1152921504606846976)) U11 := ⟨X8.out.cell 0, X8.out.cell 1, X8.out.cell 2⟩
    refine ⟨_, rfl, ?_⟩
    refine hK _ _ hS ?_
    clear hK
    try simp only [Act.put, zq1, zq2, zq3, zq4, zq5, zq6]
    refine tkx (i := 30) (v := ?_) hS ?_ ?_
    rotate_left
    ·rintro w' ⟨s1, s2, s3⟩
     go_simp
     try with_reducible rfl
    try simp only [Act.put, zq1, zq2, zq3, zq4, zq5, zq6]
    refine tkx (i := 31) (v := ?_) hS ?_ ?_
    rotate_left
    ·rintro w' ⟨s1, s2, s3⟩
     go_simp
     try with_reducible rfl
    try simp only [Act.put, zq1, zq2, zq3, zq4, zq5, zq6]
    refine tkx (i := 32) (v := ?_) hS ?_ ?_
    rotate_left
    ·rintro w' ⟨s1, s2, s3⟩
     go_simp
     try with_reducible rfl
    try simp only [Act.put, zq1, zq2, zq3, zq4, zq5, zq6]
    refine tkx (i := 33) (v := ?_) hS ?_ ?_
    rotate_left
    ·rintro w' ⟨s1, s2, s3⟩
     go_simp
     try with_reducible rfl
    try simp only [Act.put, zq1, zq2, zq3, zq4, zq5, zq6]
    refine anyX_g (i := 34) (by kernel_rfl) (by decide) rfl (by rfl) ?_
    intro K hK
    try simp only [zq1, zq2, zq3]
    refine wp_enterE #[.pointer (some ⟨bc, 0, none⟩), .int .i64 0] Try.func31 (by kernel_rfl) (by kernel_rfl) ?_ (sseek_any (y := 0) HC.out) ?_
    ·go_simp
    intro e U12 hse
    unfold SeekO at hse
    obtain ⟨s, rfl, hs, hcur, hf⟩ := hse
    have hs1 : s = false := by
     cases s with
     | false => rfl
     | true => have h := hs.1 rfl; unfold InRow at h; simp at h; try omega
    subst hs1
    rw [if_neg (by decide)] at hcur
    replace HC := Lib.hid hcur
    replace X8 := Lib.hid (hf.blk X8.out hne)
    replace HB := Lib.hid (seek_below HB.out HBc.out hf)
    clear hs hcur hf hS
    have hS : (fun W : World => W.cell? ⟨b8, 0, none⟩ = some (.int .i64 1152921504606846976) /\ W.cell? ⟨b8, 1, none⟩ = some (.int .i64 1152921504606846976) /\ W.cell? ⟨b8, 2, none⟩ = some (.int .i64 1152921504606846976)) U12 := ⟨X8.out.cell 0, X8.out.cell 1, X8.out.cell 2⟩
    refine ⟨_, rfl, ?_⟩
    refine hK _ _ hS ?_
    clear hK
    try simp only [Act.put, zq1, zq2, zq3, zq4, zq5, zq6]
    refine tkx (i := 35) (v := ?_) hS ?_ ?_
    rotate_left
    ·rintro w' ⟨s1, s2, s3⟩
     go_simp
     try with_reducible rfl
    try simp only [Act.put, zq1, zq2, zq3, zq4, zq5, zq6]
    refine tkx (i := 36) (v := ?_) hS ?_ ?_
    rotate_left
    ·rintro w' ⟨s1, s2, s3⟩
     go_simp
     try with_reducible rfl
    try simp only [Act.put, zq1, zq2, zq3, zq4, zq5, zq6]
    refine tkx (i := 37) (v := ?_) hS ?_ ?_
    rotate_left
    ·rintro w' ⟨s1, s2, s3⟩
     go_simp
     try with_reducible rfl
    try simp only [Act.put, zq1, zq2, zq3, zq4, zq5, zq6]
    refine tkx (i := 38) (v := ?_) hS ?_ ?_
    rotate_left
    ·rintro w' ⟨s1, s2, s3⟩
     go_simp
     try with_reducible rfl
    try simp only [Act.put, zq1, zq2, zq3, zq4, zq5, zq6]
    refine tkx (i := 39) (v := ?_) hS ?_ ?_
    rotate_left
    ·rintro w' ⟨s1, s2, s3⟩
     go_simp
     try with_reducible rfl
    try simp only [Act.put, zq1, zq2, zq3, zq4, zq5, zq6]
    refine tkx (i := 40) (v := ?_) hS ?_ ?_
    rotate_left
    ·rintro w' ⟨s1, s2, s3⟩
     go_simp
     try with_reducible rfl
    try simp only [Act.put, zq1, zq2, zq3, zq4, zq5, zq6]
    refine anyX_last (by kernel_rfl) (by kernel_rfl) rfl rfl ?_
    try simp only [zq1, zq2, zq3]
    go_simp
    try apply_assumption
    clear hS
    go_wp2_with fail
    go_ret
    exact ⟨rfl, HB.out⟩
  ·have TQ := Lib.hid (TS.out.q (by omega))
   clear TS
   go_wp2_with fail
   obtain ⟨tT, htT, hl9⟩ := TQ.out.tab
   have HT := Lib.hid htT
   clear htT TQ
   refine (swithin_any a5 10 (by omega) (by omega) _).mono ?_
   rintro e w6 ⟨rfl, hw⟩
   subst w6
   obtain ⟨q, hq⟩ : ∃ zz : Nat, a5 % 10 = (zz : Int) := ⟨(a5 % 10).toNat, by omega⟩
   have hq9 : q < 10 := by omega
   rw [hq]
   clear hq
   obtain ⟨nb, hnb⟩ : ∃ n, 3995 + q = n := ⟨_, rfl⟩
   have wq : IntKind.i64.wrap ((3995 : Int) + (q : Int)) = (nb : Int) := by rw [IntWalk.i64_in _ (by omega)]; omega
   have hnb9 : nb <= 4005 := by omega
   clear hnb
   obtain ⟨gb, hgb⟩ : ∃ g, V3.heap.size = g := ⟨_, rfl⟩
   obtain ⟨U1, hU1⟩ : ∃ W, V3.alloc (.cells (repA nb (.int .u8 0)) 5) = W := ⟨_, rfl⟩
   have hmk := mkU_big nb (by omega) V3
   rw [hgb, hU1] at hmk
   have hb : Below V3.heap.size V3 U1 := by rw [<- hU1]; exact (Below.refl _ _).alloc (Nat.le_refl _) _
   have XB : Hid (Blk U1 gb 5 (repA nb (.int .u8 0))) := Lib.hid (by rw [<- hU1]; exact Blk.newAt _ hgb _ _)
   replace X := Lib.hid (Blk.below X.out hb X.out.lt)
   replace HT := Lib.hid (HT.out.below hb)
   replace HB := Lib.hid (HB.out.trans (hb.mono HB.out.size))
   clear hb
   obtain ⟨Zs, hZs⟩ : ∃ Z, strOfNums (List.replicate nb 0) = Z := ⟨_, rfl⟩
   have hlz := segT_zeros tT nb
   have hzs : Zs.size = nb := by rw [<- hZs, strOfNums_size, List.length_replicate]
   rw [hZs] at hlz
   have HCV : Hid (∀ W, Below U1.heap.size U1 W -> (convert 23 9 (.slice (some ⟨gb, 0, none⟩) nb nb)).run Try.prog W = .ok (.string Zs) W) := Lib.hid (fun W hW => by rw [conv_zeros XB.out hW, hZs])
   have h3 := segR_three tT Zs
   rw [hzs] at h3
   have HLZ := Lib.hid hlz
   have HBU : Hid (Below U1.heap.size U1 U1) := Lib.hid (Below.refl _ _)
   clear hU1 hgb hZs hlz hzs XB
   have k0 := X.out.cell 0
   have k1 := X.out.cell 1
   have k2 := X.out.cell 2
   have k3 := X.out.cell 3
   have k4 := X.out.cell 4
   have k5 := X.out.cell 5
   simp only [List.getElem?_toArray, List.getElem?_cons_zero, List.getElem?_cons_succ] at k0 k1 k2 k3 k4 k5
   go_wp2_with fail
   try rw [hmk]
   try go_wp2_with fail
   clear hmk wq
   rcases h3 with ⟨hR, hn, hsr⟩ | ⟨hR, hn, hsr⟩ | ⟨hR, hsr⟩
   ·have HSR := Lib.hid hsr; have HRT := Lib.hid hR
    clear hsr hR
    obtain ⟨L, hL⟩ : ∃ l, segT tT Zs = l := ⟨_, rfl⟩
    have hln := HLZ.out
    rw [hL] at hln
    have hsr := HSR.out
    rw [hL] at hsr
    replace HSR := Lib.hid hsr
    have HLN := Lib.hid hln
    clear hln hsr hL
    rw [HCV.out _ HBU.out]
    simp only [Result.andThen]
    rw [Oper.upon_value]
    go_wp2_with fail
    have hseg := segment_any HT.out Zs
    rw [HSR.out] at hseg
    unfold tabV at hseg
    refine hseg.mono ?_
    clear hseg
    rintro e U2 ⟨v, rfl, ⟨AL, cL, rfl, hLr, hfar⟩, hb⟩
    dsimp only at hLr hfar ⊢
    rw [HLN.out] at hLr ⊢
    have HSL := Lib.hid hLr
    clear hLr hfar
    replace X := Lib.hid (Blk.below X.out hb X.out.lt)
    replace HT := Lib.hid (HT.out.below hb)
    replace HBU := Lib.hid (HBU.out.trans (hb.mono HBU.out.size))
    replace HB := Lib.hid (HB.out.trans (hb.mono HB.out.size))
    clear hb
    clear k0 k1 k2 k3 k4 k5
    have k0 := X.out.cell 0
    have k1 := X.out.cell 1
    have k2 := X.out.cell 2
    have k3 := X.out.cell 3
    have k4 := X.out.cell 4
    have k5 := X.out.cell 5
    simp only [List.getElem?_toArray, List.getElem?_cons_zero, List.getElem?_cons_succ] at k0 k1 k2 k3 k4 k5
    go_wp2_with fail
    rw [HCV.out _ HBU.out]
    simp only [Result.andThen]
    rw [Oper.upon_value]
    go_wp2_with fail
    have hnew := snew_any HT.out Zs
    rw [HSR.out] at hnew
    dsimp only at hnew
    unfold tabV at hnew
    refine hnew.mono ?_
    clear hnew
    rintro e U3 ⟨bc, Ac, kc, rfl, hcur, hbl, hb⟩
    have HC := Lib.hid hcur; have HBc := Lib.hid (Nat.le_trans HB.out.size hbl)
    clear hcur hbl
    replace X := Lib.hid (Blk.below X.out hb X.out.lt)
    replace HT := Lib.hid (HT.out.below hb)
    replace HSL := Lib.hid (HSL.out.below hb)
    replace HB := Lib.hid (HB.out.trans (hb.mono HB.out.size))
    clear hb
    clear k0 k1 k2 k3 k4 k5 HBU HCV
    have k0 := X.out.cell 0
    have k1 := X.out.cell 1
    have k2 := X.out.cell 2
    have k3 := X.out.cell 3
    have k4 := X.out.cell 4
    have k5 := X.out.cell 5
    simp only [List.getElem?_toArray, List.getElem?_cons_zero, List.getElem?_cons_succ] at k0 k1 k2 k3 k4 k5
    go_wp2_with fail
    have hrr := rright_any HT.out hl9
    refine hrr.mono ?_
    clear hrr
    intro e U4 hro
    unfold RrO at hro
    obtain ⟨s, rfl, hs, hb⟩ := hro
    have hs1 : s = true := hs.2 HRT.out
    subst hs1
    replace HC := Lib.hid (HC.out.below hb)
    replace HSL := Lib.hid (HSL.out.below hb)
    replace HB := Lib.hid (HB.out.trans (hb.mono HB.out.size))
    clear hb
    clear hs k0 k1 k2 k3 k4 k5 X HT
    have hl4 : ¬ (4000 : Int) < (nb : Int) := by omega
    go_wp2_with fail
    refine (sat_any HC.out).mono ?_
    rintro e U5 ⟨rfl, hb⟩
    have hra : rowAt L 0 = L.getD 0 (0, 0, 0) := rowAt_in (i := 0) (by rw [HLN.out]; omega)
    rw [hra]
    obtain ⟨⟨p1, p2, p3⟩, hu⟩ : ∃ u, L.getD 0 (0, 0, 0) = u := ⟨_, rfl⟩
    rw [hu]
    unfold vcV
    dsimp only
    have hbs := hb.size
    obtain ⟨b8, hb8⟩ : ∃ b, U5.heap.size = b := ⟨_, rfl⟩
    obtain ⟨U6, hU6⟩ : ∃ W, U5.alloc (.cells #[.int .i64 p1, .int .i64 p2, .int .i64 p3] 51) = W := ⟨_, rfl⟩
    have hb2 : Below U5.heap.size U5 U6 := by rw [<- hU6]; exact (Below.refl _ _).alloc (Nat.le_refl _) _
    have X8 : Hid (Blk U6 b8 51 #[.int .i64 p1, .int .i64 p2, .int .i64 p3]) := Lib.hid (by rw [<- hU6]; exact Blk.newAt _ hb8 _ _)
    replace hb := hb.trans (hb2.mono hb.size)
    have hne : ¬ b8 = bc := by have h1 := HC.out.x.lt; omega
    replace HC := Lib.hid (HC.out.below hb)
    replace HSL := Lib.hid (HSL.out.below hb)
    replace HB := Lib.hid (HB.out.trans (hb.mono HB.out.size))
    clear hb
    have HU6 := Lib.hid hU6; have HB8 := Lib.hid hb8
    clear hb2 hU6 hb8 hbs hra
    have hrow := HSL.out
    obtain ⟨g, o, eA, -, hcc⟩ := hrow.at encV_len (by decide) 0 (p1, p2, p3) (by rw [<- hu]; exact sgetD_at (by rw [HLN.out]; omega))
    subst eA
    have d0 := hcc 0 (.int .i64 p1) rfl; have d1 := hcc 1 (.int .i64 p2) rfl; have d2 := hcc 2 (.int .i64 p3) rfl
    simp only [Nat.zero_mul, Nat.add_zero] at d0 d1 d2
    have hS : (fun W : World => (W.cell? ⟨b8, 0, none⟩ = some (.int .i64 p1) /\ W.cell? ⟨b8, 1, none⟩ = some (.int .i64 p2) /\ W.cell? ⟨b8, 2, none⟩ = some (.int .i64 p3)) /\ W.cell? ⟨g, o, none⟩ = some (.int .i64 p1) /\ W.cell? ⟨g, o + 1, none⟩ = some (.int .i64 p2) /\ W.cell? ⟨g, o + 2, none⟩ = some (.int .i64 p3)) U6.drew := ⟨⟨X8.out.cell 0, X8.out.cell 1, X8.out.cell 2⟩, d0, d1, d2⟩
    have wm : IntKind.i64.wrap ((nb : Int) + 1) = (nb : Int) + 1 := IntWalk.i64_in _ (by omega)
    have np : (0 : Int) < (nb : Int) + 1 := by omega
    have qv := seqVec p1 p2 p3 p1 p2 p3
    rw [sveq_refl] at qv
    clear hcc hu hrow d0 d1 d2 hl4
    go_wp2_with fail
    rw [HU6.out]
    try simp only [HB8.out]
    refine region_x 28 (fun W : World => (W.cell? ⟨b8, 0, none⟩ = some (.int .i64 p1) /\ W.cell? ⟨b8, 1, none⟩ = some (.int .i64 p2) /\ W.cell? ⟨b8, 2, none⟩ = some (.int .i64 p3)) /\ W.cell? ⟨g, o, none⟩ = some (.int .i64 p1) /\ W.cell? ⟨g, o + 1, none⟩ = some (.int .i64 p2) /\ W.cell? ⟨g, o + 2, none⟩ = some (.int .i64 p3)) (by kernel_rfl) ?_
    have HC7 := Lib.hid (HC.out.below ((Below.refl _ _).drew : Below U6.heap.size U6 U6.drew))
    replace HB := Lib.hid HB.out.drew
    generalize U6.drew = U7 at *
    refine tkx (i := 0) (v := ?_) hS ?_ ?_
    rotate_left
    ·rintro w' ⟨⟨s1, s2, s3⟩, s4, s5, s6⟩
     go_simp
     try with_reducible rfl
    try simp only [Act.put, zq1, zq2, zq3, zq4, zq5, zq6]
    refine tkx (i := 1) (v := ?_) hS ?_ ?_
    rotate_left
    ·rintro w' ⟨⟨s1, s2, s3⟩, s4, s5, s6⟩
     go_simp
     try with_reducible rfl
    try simp only [Act.put, zq1, zq2, zq3, zq4, zq5, zq6]
    refine tkx (i := 2) (v := ?_) hS ?_ ?_
    rotate_left
    ·rintro w' ⟨⟨s1, s2, s3⟩, s4, s5, s6⟩
     go_simp
     try with_reducible rfl
    try simp only [Act.put, zq1, zq2, zq3, zq4, zq5, zq6]
    refine tkx (i := 3) (v := ?_) hS ?_ ?_
    rotate_left
    ·rintro w' ⟨⟨s1, s2, s3⟩, s4, s5, s6⟩
     go_simp
     try with_reducible rfl
    try simp only [Act.put, zq1, zq2, zq3, zq4, zq5, zq6]
    refine tkx (i := 4) (v := ?_) hS ?_ ?_
    rotate_left
    ·rintro w' ⟨⟨s1, s2, s3⟩, s4, s5, s6⟩
     go_simp
     try with_reducible rfl
    try simp only [Act.put, zq1, zq2, zq3, zq4, zq5, zq6]
    refine tkx (i := 5) (v := ?_) hS ?_ ?_
    rotate_left
    ·rintro w' ⟨⟨s1, s2, s3⟩, s4, s5, s6⟩
     go_simp
     try with_reducible rfl
    try simp only [Act.put, zq1, zq2, zq3, zq4, zq5, zq6]
    refine tkx (i := 6) (v := ?_) hS ?_ ?_
    rotate_left
    ·rintro w' ⟨⟨s1, s2, s3⟩, s4, s5, s6⟩
     go_simp
     try with_reducible rfl
    try simp only [Act.put, zq1, zq2, zq3, zq4, zq5, zq6]
    refine tkx (i := 7) (v := ?_) hS ?_ ?_
    rotate_left
    ·rintro w' ⟨⟨s1, s2, s3⟩, s4, s5, s6⟩
     go_simp
     try with_reducible rfl
    try simp only [Act.put, zq1, zq2, zq3, zq4, zq5, zq6]
    refine tkx (i := 8) (v := ?_) hS ?_ ?_
    rotate_left
    ·rintro w' ⟨⟨s1, s2, s3⟩, s4, s5, s6⟩
     go_simp
     try with_reducible rfl
    try simp only [Act.put, zq1, zq2, zq3, zq4, zq5, zq6]
    refine tkx (i := 9) (v := ?_) hS ?_ ?_
    rotate_left
    ·rintro w' ⟨⟨s1, s2, s3⟩, s4, s5, s6⟩
     go_simp
     try with_reducible rfl
    try simp only [Act.put, zq1, zq2, zq3, zq4, zq5, zq6]
    refine tkx (i := 10) (v := ?_) hS ?_ ?_
    rotate_left
    ·rintro w' ⟨⟨s1, s2, s3⟩, s4, s5, s6⟩
     go_simp
     try with_reducible rfl
    try simp only [Act.put, zq1, zq2, zq3, zq4, zq5, zq6]
    refine tkx (i := 11) (v := ?_) hS ?_ ?_
    rotate_left
    ·rintro w' ⟨⟨s1, s2, s3⟩, s4, s5, s6⟩
     go_simp
     try with_reducible rfl
    try simp only [Act.put, zq1, zq2, zq3, zq4, zq5, zq6]
    refine tkx (i := 13) (v := ?_) hS ?_ ?_
    rotate_left
    ·rintro w' ⟨⟨s1, s2, s3⟩, s4, s5, s6⟩
     go_simp
     try with_reducible rfl
    try simp only [Act.put, zq1, zq2, zq3, zq4, zq5, zq6]
    refine tkx (i := 14) (v := ?_) hS ?_ ?_
    rotate_left
    ·rintro w' ⟨⟨s1, s2, s3⟩, s4, s5, s6⟩
     go_simp
     try with_reducible rfl
    try simp only [Act.put, zq1, zq2, zq3, zq4, zq5, zq6]
    refine anyX_g (i := 12) (by kernel_rfl) (by decide) rfl (by rfl) ?_
    intro K hK
    try simp only [zq1, zq2, zq3]
    refine wp_enterE #[.pointer (some ⟨bc, 0, none⟩)] Try.func26 (by kernel_rfl) (by kernel_rfl) ?_ (slen_any HC7.out) ?_
    ·go_simp
    rintro e w9 ⟨rfl, hw⟩
    subst w9
    rw [HLN.out]
    refine ⟨_, rfl, ?_⟩
    refine hK _ _ hS ?_
    clear hK
    try simp only [Act.put, zq1, zq2, zq3, zq4, zq5, zq6]
    refine tkx (i := 15) (v := ?_) hS ?_ ?_
    rotate_left
    ·rintro w' ⟨⟨s1, s2, s3⟩, s4, s5, s6⟩
     go_simp
     try with_reducible rfl
    try simp only [Act.put, zq1, zq2, zq3, zq4, zq5, zq6]
    refine tkx (i := 16) (v := ?_) hS ?_ ?_
    rotate_left
    ·rintro w' ⟨⟨s1, s2, s3⟩, s4, s5, s6⟩
     go_simp
     try with_reducible rfl
    try simp only [Act.put, zq1, zq2, zq3, zq4, zq5, zq6]
    refine tkx (i := 17) (v := ?_) hS ?_ ?_
    rotate_left
    ·rintro w' ⟨⟨s1, s2, s3⟩, s4, s5, s6⟩
     go_simp
     try with_reducible rfl
    try simp only [Act.put, zq1, zq2, zq3, zq4, zq5, zq6]
    refine tkx (i := 18) (v := ?_) hS ?_ ?_
    rotate_left
    ·rintro w' ⟨⟨s1, s2, s3⟩, s4, s5, s6⟩
     go_simp
     try with_reducible rfl
    try simp only [Act.put, zq1, zq2, zq3, zq4, zq5, zq6]
    refine tkx (i := 19) (v := ?_) hS ?_ ?_
    rotate_left
    ·rintro w' ⟨⟨s1, s2, s3⟩, s4, s5, s6⟩
     go_simp
     try with_reducible rfl
    try simp only [Act.put, zq1, zq2, zq3, zq4, zq5, zq6]
    refine tkx (i := 20) (v := ?_) hS ?_ ?_
    rotate_left
    ·rintro w' ⟨⟨s1, s2, s3⟩, s4, s5, s6⟩
     go_simp
     try with_reducible rfl
    try simp only [Act.put, zq1, zq2, zq3, zq4, zq5, zq6]
    refine tkx (i := 21) (v := ?_) hS ?_ ?_
    rotate_left
    ·rintro w' ⟨⟨s1, s2, s3⟩, s4, s5, s6⟩
     go_simp
     try with_reducible rfl
    try simp only [Act.put, zq1, zq2, zq3, zq4, zq5, zq6]
    refine tkx (i := 22) (v := ?_) hS ?_ ?_
    rotate_left
    ·rintro w' ⟨⟨s1, s2, s3⟩, s4, s5, s6⟩
     go_simp
     try with_reducible rfl
    try simp only [Act.put, zq1, zq2, zq3, zq4, zq5, zq6]
    refine tkx (i := 23) (v := ?_) hS ?_ ?_
    rotate_left
    ·rintro w' ⟨⟨s1, s2, s3⟩, s4, s5, s6⟩
     go_simp
     try with_reducible rfl
    try simp only [Act.put, zq1, zq2, zq3, zq4, zq5, zq6]
    refine tkx (i := 24) (v := ?_) hS ?_ ?_
    rotate_left
    ·rintro w' ⟨⟨s1, s2, s3⟩, s4, s5, s6⟩
     go_simp
     try with_reducible rfl
    try simp only [Act.put, zq1, zq2, zq3, zq4, zq5, zq6]
    refine tkx (i := 25) (v := ?_) hS ?_ ?_
    rotate_left
    ·rintro w' ⟨⟨s1, s2, s3⟩, s4, s5, s6⟩
     go_simp
     try with_reducible rfl
    try simp only [Act.put, zq1, zq2, zq3, zq4, zq5, zq6]
    refine tkx (i := 26) (v := ?_) hS ?_ ?_
    rotate_left
    ·rintro w' ⟨⟨s1, s2, s3⟩, s4, s5, s6⟩
     go_simp
     try with_reducible rfl
    try simp only [Act.put, zq1, zq2, zq3, zq4, zq5, zq6]
    refine tkx (i := 27) (v := ?_) hS ?_ ?_
    rotate_left
    ·rintro w' ⟨⟨s1, s2, s3⟩, s4, s5, s6⟩
     go_simp
     try with_reducible rfl
    try simp only [Act.put, zq1, zq2, zq3, zq4, zq5, zq6]
    refine anyX_last (by kernel_rfl) (by kernel_rfl) rfl rfl ?_
    try simp only [zq1, zq2, zq3]
    go_simp
    try apply_assumption
    go_wp2_with fail
    go_ret
    exact ⟨rfl, HB.out⟩
   ·have HSR := Lib.hid hsr; have HRT := Lib.hid hR
    clear hsr hR
    try clear HLZ
    rw [HCV.out _ HBU.out]
    simp only [Result.andThen]
    rw [Oper.upon_value]
    go_wp2_with fail
    have hseg := segment_any HT.out Zs
    rw [HSR.out] at hseg
    unfold tabV at hseg
    refine hseg.mono ?_
    clear hseg
    rintro e U2 ⟨v, rfl, ⟨AL, cL, rfl, hLr, hfar⟩, hb⟩
    dsimp only at hLr hfar ⊢
    simp only [List.length_nil] at hLr ⊢
    clear hLr hfar
    replace X := Lib.hid (Blk.below X.out hb X.out.lt)
    replace HT := Lib.hid (HT.out.below hb)
    replace HBU := Lib.hid (HBU.out.trans (hb.mono HBU.out.size))
    replace HB := Lib.hid (HB.out.trans (hb.mono HB.out.size))
    clear hb
    clear k0 k1 k2 k3 k4 k5
    have k0 := X.out.cell 0
    have k1 := X.out.cell 1
    have k2 := X.out.cell 2
    have k3 := X.out.cell 3
    have k4 := X.out.cell 4
    have k5 := X.out.cell 5
    simp only [List.getElem?_toArray, List.getElem?_cons_zero, List.getElem?_cons_succ] at k0 k1 k2 k3 k4 k5
    go_wp2_with fail
    rw [HCV.out _ HBU.out]
    simp only [Result.andThen]
    rw [Oper.upon_value]
    go_wp2_with fail
    have hnew := snew_any HT.out Zs
    rw [HSR.out] at hnew
    dsimp only at hnew
    unfold tabV at hnew
    refine hnew.mono ?_
    clear hnew
    rintro e U3 ⟨bc, Ac, kc, rfl, hcur, hbl, hb⟩
    have HC := Lib.hid hcur; have HBc := Lib.hid (Nat.le_trans HB.out.size hbl)
    clear hcur hbl
    replace X := Lib.hid (Blk.below X.out hb X.out.lt)
    replace HT := Lib.hid (HT.out.below hb)
    replace HB := Lib.hid (HB.out.trans (hb.mono HB.out.size))
    clear hb
    clear k0 k1 k2 k3 k4 k5 HBU HCV
    have k0 := X.out.cell 0
    have k1 := X.out.cell 1
    have k2 := X.out.cell 2
    have k3 := X.out.cell 3
    have k4 := X.out.cell 4
    have k5 := X.out.cell 5
    simp only [List.getElem?_toArray, List.getElem?_cons_zero, List.getElem?_cons_succ] at k0 k1 k2 k3 k4 k5
    go_wp2_with fail
    have hrr := rright_any HT.out hl9
    refine hrr.mono ?_
    clear hrr
    intro e U4 hro
    unfold RrO at hro
    obtain ⟨s, rfl, hs, hb⟩ := hro
    have hs1 : s = true := hs.2 HRT.out
    subst hs1
    replace HC := Lib.hid (HC.out.below hb)
    replace HB := Lib.hid (HB.out.trans (hb.mono HB.out.size))
    clear hb
    clear hs k0 k1 k2 k3 k4 k5 X HT
    have hl4 : (4000 : Int) < (nb : Int) := by omega
    go_wp2_with fail
    refine (sat_any HC.out).mono ?_
    rintro e U5 ⟨rfl, hb⟩
    have hra : rowAt [] 0 = noneV := by decide
    rw [hra]
    unfold noneV
    unfold vcV
    dsimp only
    have hbs := hb.size
    obtain ⟨b8, hb8⟩ : ∃ b, U5.heap.size = b := ⟨_, rfl⟩
    obtain ⟨U6, hU6⟩ : ∃ W, U5.alloc (.cells #[.int .i64 1152921504606846976, .int .i64 1152921504606846976, .int .i64 1152921504606846976] 51) = W := ⟨_, rfl⟩
    have hb2 : Below U5.heap.size U5 U6 := by rw [<- hU6]; exact (Below.refl _ _).alloc (Nat.le_refl _) _
    have X8 : Hid (Blk U6 b8 51 #[.int .i64 1152921504606846976, .int .i64 1152921504606846976, .int .i64 1152921504606846976]) := Lib.hid (by rw [<- hU6]; exact Blk.newAt _ hb8 _ _)
    replace hb := hb.trans (hb2.mono hb.size)
    have hne : ¬ b8 = bc := by have h1 := HC.out.x.lt; omega
    replace HC := Lib.hid (HC.out.below hb)
    replace HB := Lib.hid (HB.out.trans (hb.mono HB.out.size))
    clear hb
    have HU6 := Lib.hid hU6; have HB8 := Lib.hid hb8
    clear hb2 hU6 hb8 hbs hra
    try clear hl4
    go_wp2_with fail
    try rw [HU6.out]
    try simp only [HB8.out]
    refine (sbest_any (lo := 0) (hi := 0) (cat := 0) HC.out (by decide)).mono ?_
    intro e U7 hbe
    unfold BestO at hbe
    obtain ⟨rfl, hb⟩ := hbe
    have hbst : bestI [] 0 0 0 = (0, false) := by decide
    rw [hbst]
    dsimp only
    replace HC := Lib.hid (HC.out.below hb)
    replace X8 := Lib.hid (Blk.below X8.out hb X8.out.lt)
    replace HB := Lib.hid (HB.out.trans (hb.mono HB.out.size))
    clear hb
    clear hbst
    obtain ⟨U8, hU8⟩ : ∃ V, U7.drew = V := ⟨_, rfl⟩
    have hb : Below U7.heap.size U7 U8 := by rw [<- hU8]; exact (Below.refl _ _).drew
    replace HC := Lib.hid (HC.out.below hb)
    replace X8 := Lib.hid (Blk.below X8.out hb X8.out.lt)
    replace HB := Lib.hid (HB.out.trans (hb.mono HB.out.size))
    clear hb
    have hS : (fun W : World => W.cell? ⟨b8, 0, none⟩ = some (.int .i64 1152921504606846976) /\ W.cell? ⟨b8, 1, none⟩ = some (.int .i64 1152921504606846976) /\ W.cell? ⟨b8, 2, none⟩ = some (.int .i64 1152921504606846976)) U8 := ⟨X8.out.cell 0, X8.out.cell 1, X8.out.cell 2⟩
    have qv := seqVec 1152921504606846976 1152921504606846976 1152921504606846976 1152921504606846976 1152921504606846976 1152921504606846976
    rw [sveq_refl] at qv
    go_wp2_with fail
    refine region_x 41 (fun W : World => W.cell? ⟨b8, 0, none⟩ = some (.int .i64 1152921504606846976) /\ W.cell? ⟨b8, 1, none⟩ = some (.int .i64 1152921504606846976) /\ W.cell? ⟨b8, 2, none⟩ = some (.int .i64 1152921504606846976)) (by kernel_rfl) ?_
    rw [hU8]
    clear hU8
    refine tkx (i := 0) (v := ?_) hS ?_ ?_
    rotate_left
    ·rintro w' ⟨s1, s2, s3⟩
     go_simp
     try with_reducible rfl
    try simp only [Act.put, zq1, zq2, zq3, zq4, zq5, zq6]
    refine tkx (i := 1) (v := ?_) hS ?_ ?_
    rotate_left
    ·rintro w' ⟨s1, s2, s3⟩
     go_simp
     try with_reducible rfl
    try simp only [Act.put, zq1, zq2, zq3, zq4, zq5, zq6]
    refine tkx (i := 2) (v := ?_) hS ?_ ?_
    rotate_left
    ·rintro w' ⟨s1, s2, s3⟩
     go_simp
     try with_reducible rfl
    try simp only [Act.put, zq1, zq2, zq3, zq4, zq5, zq6]
    refine tkx (i := 3) (v := ?_) hS ?_ ?_
    rotate_left
    ·rintro w' ⟨s1, s2, s3⟩
     go_simp
     try with_reducible rfl
    try simp only [Act.put, zq1, zq2, zq3, zq4, zq5, zq6]
    refine tkx (i := 4) (v := ?_) hS ?_ ?_
    rotate_left
    ·rintro w' ⟨s1, s2, s3⟩
     go_simp
     try with_reducible rfl
    try simp only [Act.put, zq1, zq2, zq3, zq4, zq5, zq6]
    refine tkx (i := 5) (v := ?_) hS ?_ ?_
    rotate_left
    ·rintro w' ⟨s1, s2, s3⟩
     go_simp
     try with_reducible rfl
    try simp only [Act.put, zq1, zq2, zq3, zq4, zq5, zq6]
    refine tkx (i := 6) (v := ?_) hS ?_ ?_
    rotate_left
    ·rintro w' ⟨s1, s2, s3⟩
     go_simp
     try with_reducible rfl
    try simp only [Act.put, zq1, zq2, zq3, zq4, zq5, zq6]
    refine tkx (i := 7) (v := ?_) hS ?_ ?_
    rotate_left
    ·rintro w' ⟨s1, s2, s3⟩
     go_simp
     try with_reducible rfl
    try simp only [Act.put, zq1, zq2, zq3, zq4, zq5, zq6]
    refine tkx (i := 8) (v := ?_) hS ?_ ?_
    rotate_left
    ·rintro w' ⟨s1, s2, s3⟩
     go_simp
     try with_reducible rfl
    try simp only [Act.put, zq1, zq2, zq3, zq4, zq5, zq6]
    refine tkx (i := 9) (v := ?_) hS ?_ ?_
    rotate_left
    ·rintro w' ⟨s1, s2, s3⟩
     go_simp
     try with_reducible rfl
    try simp only [Act.put, zq1, zq2, zq3, zq4, zq5, zq6]
    refine anyX_g (i := 10) (by kernel_rfl) (by decide) rfl (by rfl) ?_
    intro K hK
    try simp only [zq1, zq2, zq3]
    refine wp_enterE #[.pointer (some ⟨bc, 0, none⟩)] Try.func26 (by kernel_rfl) (by kernel_rfl) ?_ (slen_any HC.out) ?_
    ·go_simp
    rintro e w9 ⟨rfl, hw⟩
    subst w9
    simp only [List.length_nil]
    refine ⟨_, rfl, ?_⟩
    refine hK _ _ hS ?_
    clear hK
    try simp only [Act.put, zq1, zq2, zq3, zq4, zq5, zq6]
    refine tkx (i := 11) (v := ?_) hS ?_ ?_
    rotate_left
    ·rintro w' ⟨s1, s2, s3⟩
     go_simp
     try with_reducible rfl
    try simp only [Act.put, zq1, zq2, zq3, zq4, zq5, zq6]
    refine tkx (i := 12) (v := ?_) hS ?_ ?_
    rotate_left
    ·rintro w' ⟨s1, s2, s3⟩
     go_simp
     try with_reducible rfl
    try simp only [Act.put, zq1, zq2, zq3, zq4, zq5, zq6]
    refine tkx (i := 13) (v := ?_) hS ?_ ?_
    rotate_left
    ·rintro w' ⟨s1, s2, s3⟩
     go_simp
     try with_reducible rfl
    try simp only [Act.put, zq1, zq2, zq3, zq4, zq5, zq6]
    refine tkx (i := 14) (v := ?_) hS ?_ ?_
    rotate_left
    ·rintro w' ⟨s1, s2, s3⟩
     go_simp
     try with_reducible rfl
    try simp only [Act.put, zq1, zq2, zq3, zq4, zq5, zq6]
    refine tkx (i := 15) (v := ?_) hS ?_ ?_
    rotate_left
    ·rintro w' ⟨s1, s2, s3⟩
     go_simp
     try with_reducible rfl
    try simp only [Act.put, zq1, zq2, zq3, zq4, zq5, zq6]
    refine tkx (i := 16) (v := ?_) hS ?_ ?_
    rotate_left
    ·rintro w' ⟨s1, s2, s3⟩
     go_simp
     try with_reducible rfl
    try simp only [Act.put, zq1, zq2, zq3, zq4, zq5, zq6]
    refine tkx (i := 17) (v := ?_) hS ?_ ?_
    rotate_left
    ·rintro w' ⟨s1, s2, s3⟩
     go_simp
     try with_reducible rfl
    try simp only [Act.put, zq1, zq2, zq3, zq4, zq5, zq6]
    refine tkx (i := 18) (v := ?_) hS ?_ ?_
    rotate_left
    ·rintro w' ⟨s1, s2, s3⟩
     go_simp
     try with_reducible rfl
    try simp only [Act.put, zq1, zq2, zq3, zq4, zq5, zq6]
    refine anyX_g (i := 19) (by kernel_rfl) (by decide) rfl (by rfl) ?_
    intro K hK
    try simp only [zq1, zq2, zq3]
    refine wp_enterE #[] Try.func28 (by kernel_rfl) (by kernel_rfl) ?_ (rnone_any _) ?_
    ·go_simp
    rintro e U9 ⟨rfl, hb⟩
    unfold vcV noneV
    dsimp only
    replace HC := Lib.hid (HC.out.below hb)
    replace X8 := Lib.hid (Blk.below X8.out hb X8.out.lt)
    replace HB := Lib.hid (HB.out.trans (hb.mono HB.out.size))
    clear hb
    clear hS
    have hS : (fun W : World => W.cell? ⟨b8, 0, none⟩ = some (.int .i64 1152921504606846976) /\ W.cell? ⟨b8, 1, none⟩ = some (.int .i64 1152921504606846976) /\ W.cell? ⟨b8, 2, none⟩ = some (.int .i64 1152921504606846976)) U9 := ⟨X8.out.cell 0, X8.out.cell 1, X8.out.cell 2⟩
    refine ⟨_, rfl, ?_⟩
    refine hK _ _ hS ?_
    clear hK
    try simp only [Act.put, zq1, zq2, zq3, zq4, zq5, zq6]
    refine tkx (i := 20) (v := ?_) hS ?_ ?_
    rotate_left
    ·rintro w' ⟨s1, s2, s3⟩
     go_simp
     try with_reducible rfl
    try simp only [Act.put, zq1, zq2, zq3, zq4, zq5, zq6]
    refine tkx (i := 21) (v := ?_) hS ?_ ?_
    rotate_left
    ·rintro w' ⟨s1, s2, s3⟩
     go_simp
     try with_reducible rfl
    try simp only [Act.put, zq1, zq2, zq3, zq4, zq5, zq6]
    refine tkx (i := 22) (v := ?_) hS ?_ ?_
    rotate_left
    ·rintro w' ⟨s1, s2, s3⟩
     go_simp
     try with_reducible rfl
    try simp only [Act.put, zq1, zq2, zq3, zq4, zq5, zq6]
    refine tkx (i := 23) (v := ?_) hS ?_ ?_
    rotate_left
    ·rintro w' ⟨s1, s2, s3⟩
     go_simp
     try with_reducible rfl
    try simp only [Act.put, zq1, zq2, zq3, zq4, zq5, zq6]
    refine anyX_g (i := 24) (by kernel_rfl) (by decide) rfl (by rfl) ?_
    intro K hK
    try simp only [zq1, zq2, zq3]
    refine wp_enterE #[.pointer (some ⟨bc, 0, none⟩)] Try.func29 (by kernel_rfl) (by kernel_rfl) ?_ (snext_any HC.out (by decide) (by decide)) ?_
    ·go_simp
    intro e U10 hse
    unfold SeekO at hse
    obtain ⟨s, rfl, hs, hcur, hf⟩ := hse
    have hs1 : s = false := by
     cases s with
     | false => rfl
     | true => have h := hs.1 rfl; unfold InRow at h; simp at h; try omega
    subst hs1
    rw [if_neg (by decide)] at hcur
    replace HC := Lib.hid hcur
    replace X8 := Lib.hid (hf.blk X8.out hne)
    replace HB := Lib.hid (seek_below HB.out HBc.out hf)
    clear hs hcur hf hS
    have hS : (fun W : World => W.cell? ⟨b8, 0, none⟩ = some (.int .i64 1152921504606846976) /\ W.cell? ⟨b8, 1, none⟩ = some (.int .i64 1152921504606846976) /\ W.cell? ⟨b8, 2, none⟩ = some (.int .i64 1152921504606846976)) U10 := ⟨X8.out.cell 0, X8.out.cell 1, X8.out.cell 2⟩
    refine ⟨_, rfl, ?_⟩
    refine hK _ _ hS ?_
    clear hK
    try simp only [Act.put, zq1, zq2, zq3, zq4, zq5, zq6]
    refine tkx (i := 25) (v := ?_) hS ?_ ?_
    rotate_left
    ·rintro w' ⟨s1, s2, s3⟩
     go_simp
     try with_reducible rfl
    try simp only [Act.put, zq1, zq2, zq3, zq4, zq5, zq6]
    refine tkx (i := 26) (v := ?_) hS ?_ ?_
    rotate_left
    ·rintro w' ⟨s1, s2, s3⟩
     go_simp
     try with_reducible rfl
    try simp only [Act.put, zq1, zq2, zq3, zq4, zq5, zq6]
    refine tkx (i := 27) (v := ?_) hS ?_ ?_
    rotate_left
    ·rintro w' ⟨s1, s2, s3⟩
     go_simp
     try with_reducible rfl
    try simp only [Act.put, zq1, zq2, zq3, zq4, zq5, zq6]
    refine tkx (i := 28) (v := ?_) hS ?_ ?_
    rotate_left
    ·rintro w' ⟨s1, s2, s3⟩
     go_simp
     try with_reducible rfl
    try simp only [Act.put, zq1, zq2, zq3, zq4, zq5, zq6]
    refine anyX_g (i := 29) (by kernel_rfl) (by decide) rfl (by rfl) ?_
    intro K hK
    try simp only [zq1, zq2, zq3]
    refine wp_enterE #[.pointer (some ⟨bc, 0, none⟩)] Try.func30 (by kernel_rfl) (by kernel_rfl) ?_ (sprev_any HC.out (by decide) (by decide)) ?_
    ·go_simp
    intro e U11 hse
    unfold SeekO at hse
    obtain ⟨s, rfl, hs, hcur, hf⟩ := hse
    have hs1 : s = false := by
     cases s with
     | false => rfl
     | true => have h := hs.1 rfl; unfold InRow at h; simp at h; try omega
    subst hs1
    rw [if_neg (by decide)] at hcur
    replace HC := Lib.hid hcur
    replace X8 := Lib.hid (hf.blk X8.out hne)
    replace HB := Lib.hid (seek_below HB.out HBc.out hf)
    clear hs hcur hf hS
    have hS : (fun W : World => W.cell? ⟨b8, 0, none⟩ = some (.int .i64 1152921504606846976) /\ W.cell? ⟨b8, 1, none⟩ = some (.int .i64 1152921504606846976) /\ W.cell? ⟨b8, 2, none⟩ = some (.int .i64 1152921504606846976)) U11 := ⟨X8.out.cell 0, X8.out.cell 1, X8.out.cell 2⟩
    refine ⟨_, rfl, ?_⟩
    refine hK _ _ hS ?_
    clear hK
    try simp only [Act.put, zq1, zq2, zq3, zq4, zq5, zq6]
    refine tkx (i := 30) (v := ?_) hS ?_ ?_
    rotate_left
    ·rintro w' ⟨s1, s2, s3⟩
     go_simp
     try with_reducible rfl
    try simp only [Act.put, zq1, zq2, zq3, zq4, zq5, zq6]
    refine tkx (i := 31) (v := ?_) hS ?_ ?_
    rotate_left
    ·rintro w' ⟨s1, s2, s3⟩
     go_simp
     try with_reducible rfl
    try simp only [Act.put, zq1, zq2, zq3, zq4, zq5, zq6]
    refine tkx (i := 32) (v := ?_) hS ?_ ?_
    rotate_left
    ·rintro w' ⟨s1, s2, s3⟩
     go_simp
     try with_reducible rfl
    try simp only [Act.put, zq1, zq2, zq3, zq4, zq5, zq6]
    refine tkx (i := 33) (v := ?_) hS ?_ ?_
    rotate_left
    ·rintro w' ⟨s1, s2, s3⟩
     go_simp
     try with_reducible rfl
    try simp only [Act.put, zq1, zq2, zq3, zq4, zq5, zq6]
    refine anyX_g (i := 34) (by kernel_rfl) (by decide) rfl (by rfl) ?_
    intro K hK
    try simp only [zq1, zq2, zq3]
    refine wp_enterE #[.pointer (some ⟨bc, 0, none⟩), .int .i64 0] Try.func31 (by kernel_rfl) (by kernel_rfl) ?_ (sseek_any (y := 0) HC.out) ?_
    ·go_simp
    intro e U12 hse
    unfold SeekO at hse
    obtain ⟨s, rfl, hs, hcur, hf⟩ := hse
    have hs1 : s = false := by
     cases s with
     | false => rfl
     | true => have h := hs.1 rfl; unfold InRow at h; simp at h; try omega
    subst hs1
    rw [if_neg (by decide)] at hcur
    replace HC := Lib.hid hcur
    replace X8 := Lib.hid (hf.blk X8.out hne)
    replace HB := Lib.hid (seek_below HB.out HBc.out hf)
    clear hs hcur hf hS
    have hS : (fun W : World => W.cell? ⟨b8, 0, none⟩ = some (.int .i64 1152921504606846976) /\ W.cell? ⟨b8, 1, none⟩ = some (.int .i64 1152921504606846976) /\ W.cell? ⟨b8, 2, none⟩ = some (.int .i64 1152921504606846976)) U12 := ⟨X8.out.cell 0, X8.out.cell 1, X8.out.cell 2⟩
    refine ⟨_, rfl, ?_⟩
    refine hK _ _ hS ?_
    clear hK
    try simp only [Act.put, zq1, zq2, zq3, zq4, zq5, zq6]
    refine tkx (i := 35) (v := ?_) hS ?_ ?_
    rotate_left
    ·rintro w' ⟨s1, s2, s3⟩
     go_simp
     try with_reducible rfl
    try simp only [Act.put, zq1, zq2, zq3, zq4, zq5, zq6]
    refine tkx (i := 36) (v := ?_) hS ?_ ?_
    rotate_left
    ·rintro w' ⟨s1, s2, s3⟩
     go_simp
     try with_reducible rfl
    try simp only [Act.put, zq1, zq2, zq3, zq4, zq5, zq6]
    refine tkx (i := 37) (v := ?_) hS ?_ ?_
    rotate_left
    ·rintro w' ⟨s1, s2, s3⟩
     go_simp
     try with_reducible rfl
    try simp only [Act.put, zq1, zq2, zq3, zq4, zq5, zq6]
    refine tkx (i := 38) (v := ?_) hS ?_ ?_
    rotate_left
    ·rintro w' ⟨s1, s2, s3⟩
     go_simp
     try with_reducible rfl
    try simp only [Act.put, zq1, zq2, zq3, zq4, zq5, zq6]
    refine tkx (i := 39) (v := ?_) hS ?_ ?_
    rotate_left
    ·rintro w' ⟨s1, s2, s3⟩
     go_simp
     try with_reducible rfl
    try simp only [Act.put, zq1, zq2, zq3, zq4, zq5, zq6]
    refine tkx (i := 40) (v := ?_) hS ?_ ?_
    rotate_left
    ·rintro w' ⟨s1, s2, s3⟩
     go_simp
     try with_reducible rfl
    try simp only [Act.put, zq1, zq2, zq3, zq4, zq5, zq6]
    refine anyX_last (by kernel_rfl) (by kernel_rfl) rfl rfl ?_
    try simp only [zq1, zq2, zq3]
    go_simp
    try apply_assumption
    clear hS
    go_wp2_with fail
    go_ret
    exact ⟨rfl, HB.out⟩
   ·have HSR := Lib.hid hsr; have HRT := Lib.hid hR
    clear hsr hR
    try clear HLZ
    rw [HCV.out _ HBU.out]
    simp only [Result.andThen]
    rw [Oper.upon_value]
    go_wp2_with fail
    have hseg := segment_any HT.out Zs
    rw [HSR.out] at hseg
    unfold tabV at hseg
    refine hseg.mono ?_
    clear hseg
    rintro e U2 ⟨v, rfl, ⟨AL, cL, rfl, hLr, hfar⟩, hb⟩
    dsimp only at hLr hfar ⊢
    simp only [List.length_nil] at hLr ⊢
    clear hLr hfar
    replace X := Lib.hid (Blk.below X.out hb X.out.lt)
    replace HT := Lib.hid (HT.out.below hb)
    replace HBU := Lib.hid (HBU.out.trans (hb.mono HBU.out.size))
    replace HB := Lib.hid (HB.out.trans (hb.mono HB.out.size))
    clear hb
    clear k0 k1 k2 k3 k4 k5
    have k0 := X.out.cell 0
    have k1 := X.out.cell 1
    have k2 := X.out.cell 2
    have k3 := X.out.cell 3
    have k4 := X.out.cell 4
    have k5 := X.out.cell 5
    simp only [List.getElem?_toArray, List.getElem?_cons_zero, List.getElem?_cons_succ] at k0 k1 k2 k3 k4 k5
    go_wp2_with fail
    rw [HCV.out _ HBU.out]
    simp only [Result.andThen]
    rw [Oper.upon_value]
    go_wp2_with fail
    have hnew := snew_any HT.out Zs
    rw [HSR.out] at hnew
    dsimp only at hnew
    unfold tabV at hnew
    refine hnew.mono ?_
    clear hnew
    rintro e U3 ⟨bc, Ac, kc, rfl, hcur, hbl, hb⟩
    have HC := Lib.hid hcur; have HBc := Lib.hid (Nat.le_trans HB.out.size hbl)
    clear hcur hbl
    replace X := Lib.hid (Blk.below X.out hb X.out.lt)
    replace HT := Lib.hid (HT.out.below hb)
    replace HB := Lib.hid (HB.out.trans (hb.mono HB.out.size))
    clear hb
    clear k0 k1 k2 k3 k4 k5 HBU HCV
    have k0 := X.out.cell 0
    have k1 := X.out.cell 1
    have k2 := X.out.cell 2
    have k3 := X.out.cell 3
    have k4 := X.out.cell 4
    have k5 := X.out.cell 5
    simp only [List.getElem?_toArray, List.getElem?_cons_zero, List.getElem?_cons_succ] at k0 k1 k2 k3 k4 k5
    go_wp2_with fail
    have hrr := rright_any HT.out hl9
    refine hrr.mono ?_
    clear hrr
    intro e U4 hro
    unfold RrO at hro
    obtain ⟨s, rfl, hs, hb⟩ := hro
    have hs1 : s = false := by
     cases s with
     | false => rfl
     | true => exact absurd (hs.1 rfl) HRT.out
    subst hs1
    replace HC := Lib.hid (HC.out.below hb)
    replace HB := Lib.hid (HB.out.trans (hb.mono HB.out.size))
    clear hb
    clear hs k0 k1 k2 k3 k4 k5 X HT
    go_wp2_with fail
    refine (sat_any HC.out).mono ?_
    rintro e U5 ⟨rfl, hb⟩
    have hra : rowAt [] 0 = noneV := by decide
    rw [hra]
    unfold noneV
    unfold vcV
    dsimp only
    have hbs := hb.size
    obtain ⟨b8, hb8⟩ : ∃ b, U5.heap.size = b := ⟨_, rfl⟩
    obtain ⟨U6, hU6⟩ : ∃ W, U5.alloc (.cells #[.int .i64 1152921504606846976, .int .i64 1152921504606846976, .int .i64 1152921504606846976] 51) = W := ⟨_, rfl⟩
    have hb2 : Below U5.heap.size U5 U6 := by rw [<- hU6]; exact (Below.refl _ _).alloc (Nat.le_refl _) _
    have X8 : Hid (Blk U6 b8 51 #[.int .i64 1152921504606846976, .int .i64 1152921504606846976, .int .i64 1152921504606846976]) := Lib.hid (by rw [<- hU6]; exact Blk.newAt _ hb8 _ _)
    replace hb := hb.trans (hb2.mono hb.size)
    have hne : ¬ b8 = bc := by have h1 := HC.out.x.lt; omega
    replace HC := Lib.hid (HC.out.below hb)
    replace HB := Lib.hid (HB.out.trans (hb.mono HB.out.size))
    clear hb
    have HU6 := Lib.hid hU6; have HB8 := Lib.hid hb8
    clear hb2 hU6 hb8 hbs hra
    try clear hl4
    go_wp2_with fail
    try rw [HU6.out]
    try simp only [HB8.out]
    refine (sbest_any (lo := 0) (hi := 0) (cat := 0) HC.out (by decide)).mono ?_
    intro e U7 hbe
    unfold BestO at hbe
    obtain ⟨rfl, hb⟩ := hbe
    have hbst : bestI [] 0 0 0 = (0, false) := by decide
    rw [hbst]
    dsimp only
    replace HC := Lib.hid (HC.out.below hb)
    replace X8 := Lib.hid (Blk.below X8.out hb X8.out.lt)
    replace HB := Lib.hid (HB.out.trans (hb.mono HB.out.size))
    clear hb
    clear hbst
    obtain ⟨U8, hU8⟩ : ∃ V, U7.drew = V := ⟨_, rfl⟩
    have hb : Below U7.heap.size U7 U8 := by rw [<- hU8]; exact (Below.refl _ _).drew
    replace HC := Lib.hid (HC.out.below hb)
    replace X8 := Lib.hid (Blk.below X8.out hb X8.out.lt)
    replace HB := Lib.hid (HB.out.trans (hb.mono HB.out.size))
    clear hb
    have hS : (fun W : World => W.cell? ⟨b8, 0, none⟩ = some (.int .i64 1152921504606846976) /\ W.cell? ⟨b8, 1, none⟩ = some (.int .i64 1152921504606846976) /\ W.cell? ⟨b8, 2, none⟩ = some (.int .i64 1152921504606846976)) U8 := ⟨X8.out.cell 0, X8.out.cell 1, X8.out.cell 2⟩
    have qv := seqVec 1152921504606846976 1152921504606846976 1152921504606846976 1152921504606846976 1152921504606846976 1152921504606846976
    rw [sveq_refl] at qv
    go_wp2_with fail
    refine region_x 41 (fun W : World => W.cell? ⟨b8, 0, none⟩ = some (.int .i64 1152921504606846976) /\ W.cell? ⟨b8, 1, none⟩ = some (.int .i64 1152921504606846976) /\ W.cell? ⟨b8, 2, none⟩ = some (.int .i64 1152921504606846976)) (by kernel_rfl) ?_
    rw [hU8]
    clear hU8
    refine tkx (i := 0) (v := ?_) hS ?_ ?_
    rotate_left
    ·rintro w' ⟨s1, s2, s3⟩
     go_simp
     try with_reducible rfl
    try simp only [Act.put, zq1, zq2, zq3, zq4, zq5, zq6]
    refine tkx (i := 1) (v := ?_) hS ?_ ?_
    rotate_left
    ·rintro w' ⟨s1, s2, s3⟩
     go_simp
     try with_reducible rfl
    try simp only [Act.put, zq1, zq2, zq3, zq4, zq5, zq6]
    refine tkx (i := 2) (v := ?_) hS ?_ ?_
    rotate_left
    ·rintro w' ⟨s1, s2, s3⟩
     go_simp
     try with_reducible rfl
    try simp only [Act.put, zq1, zq2, zq3, zq4, zq5, zq6]
    refine tkx (i := 3) (v := ?_) hS ?_ ?_
    rotate_left
    ·rintro w' ⟨s1, s2, s3⟩
     go_simp
     try with_reducible rfl
    try simp only [Act.put, zq1, zq2, zq3, zq4, zq5, zq6]
    refine tkx (i := 4) (v := ?_) hS ?_ ?_
    rotate_left
    ·rintro w' ⟨s1, s2, s3⟩
     go_simp
     try with_reducible rfl
    try simp only [Act.put, zq1, zq2, zq3, zq4, zq5, zq6]
    refine tkx (i := 5) (v := ?_) hS ?_ ?_
    rotate_left
    ·rintro w' ⟨s1, s2, s3⟩
     go_simp
     try with_reducible rfl
    try simp only [Act.put, zq1, zq2, zq3, zq4, zq5, zq6]
    refine tkx (i := 6) (v := ?_) hS ?_ ?_
    rotate_left
    ·rintro w' ⟨s1, s2, s3⟩
     go_simp
     try with_reducible rfl
    try simp only [Act.put, zq1, zq2, zq3, zq4, zq5, zq6]
    refine tkx (i := 7) (v := ?_) hS ?_ ?_
    rotate_left
    ·rintro w' ⟨s1, s2, s3⟩
     go_simp
     try with_reducible rfl
    try simp only [Act.put, zq1, zq2, zq3, zq4, zq5, zq6]
    refine tkx (i := 8) (v := ?_) hS ?_ ?_
    rotate_left
    ·rintro w' ⟨s1, s2, s3⟩
     go_simp
     try with_reducible rfl
    try simp only [Act.put, zq1, zq2, zq3, zq4, zq5, zq6]
    refine tkx (i := 9) (v := ?_) hS ?_ ?_
    rotate_left
    ·rintro w' ⟨s1, s2, s3⟩
     go_simp
     try with_reducible rfl
    try simp only [Act.put, zq1, zq2, zq3, zq4, zq5, zq6]
    refine anyX_g (i := 10) (by kernel_rfl) (by decide) rfl (by rfl) ?_
    intro K hK
    try simp only [zq1, zq2, zq3]
    refine wp_enterE #[.pointer (some ⟨bc, 0, none⟩)] Try.func26 (by kernel_rfl) (by kernel_rfl) ?_ (slen_any HC.out) ?_
    ·go_simp
    rintro e w9 ⟨rfl, hw⟩
    subst w9
    simp only [List.length_nil]
    refine ⟨_, rfl, ?_⟩
    refine hK _ _ hS ?_
    clear hK
    try simp only [Act.put, zq1, zq2, zq3, zq4, zq5, zq6]
    refine tkx (i := 11) (v := ?_) hS ?_ ?_
    rotate_left
    ·rintro w' ⟨s1, s2, s3⟩
     go_simp
     try with_reducible rfl
    try simp only [Act.put, zq1, zq2, zq3, zq4, zq5, zq6]
    refine tkx (i := 12) (v := ?_) hS ?_ ?_
    rotate_left
    ·rintro w' ⟨s1, s2, s3⟩
     go_simp
     try with_reducible rfl
    try simp only [Act.put, zq1, zq2, zq3, zq4, zq5, zq6]
    refine tkx (i := 13) (v := ?_) hS ?_ ?_
    rotate_left
    ·rintro w' ⟨s1, s2, s3⟩
     go_simp
     try with_reducible rfl
    try simp only [Act.put, zq1, zq2, zq3, zq4, zq5, zq6]
    refine tkx (i := 14) (v := ?_) hS ?_ ?_
    rotate_left
    ·rintro w' ⟨s1, s2, s3⟩
     go_simp
     try with_reducible rfl
    try simp only [Act.put, zq1, zq2, zq3, zq4, zq5, zq6]
    refine tkx (i := 15) (v := ?_) hS ?_ ?_
    rotate_left
    ·rintro w' ⟨s1, s2, s3⟩
     go_simp
     try with_reducible rfl
    try simp only [Act.put, zq1, zq2, zq3, zq4, zq5, zq6]
    refine tkx (i := 16) (v := ?_) hS ?_ ?_
    rotate_left
    ·rintro w' ⟨s1, s2, s3⟩
     go_simp
     try with_reducible rfl
    try simp only [Act.put, zq1, zq2, zq3, zq4, zq5, zq6]
    refine tkx (i := 17) (v := ?_) hS ?_ ?_
    rotate_left
    ·rintro w' ⟨s1, s2, s3⟩
     go_simp
     try with_reducible rfl
    try simp only [Act.put, zq1, zq2, zq3, zq4, zq5, zq6]
    refine tkx (i := 18) (v := ?_) hS ?_ ?_
    rotate_left
    ·rintro w' ⟨s1, s2, s3⟩
     go_simp
     try with_reducible rfl
    try simp only [Act.put, zq1, zq2, zq3, zq4, zq5, zq6]
    refine anyX_g (i := 19) (by kernel_rfl) (by decide) rfl (by rfl) ?_
    intro K hK
    try simp only [zq1, zq2, zq3]
    refine wp_enterE #[] Try.func28 (by kernel_rfl) (by kernel_rfl) ?_ (rnone_any _) ?_
    ·go_simp
    rintro e U9 ⟨rfl, hb⟩
    unfold vcV noneV
    dsimp only
    replace HC := Lib.hid (HC.out.below hb)
    replace X8 := Lib.hid (Blk.below X8.out hb X8.out.lt)
    replace HB := Lib.hid (HB.out.trans (hb.mono HB.out.size))
    clear hb
    clear hS
    have hS : (fun W : World => W.cell? ⟨b8, 0, none⟩ = some (.int .i64 1152921504606846976) /\ W.cell? ⟨b8, 1, none⟩ = some (.int .i64 1152921504606846976) /\ W.cell? ⟨b8, 2, none⟩ = some (.int .i64 1152921504606846976)) U9 := ⟨X8.out.cell 0, X8.out.cell 1, X8.out.cell 2⟩
    refine ⟨_, rfl, ?_⟩
    refine hK _ _ hS ?_
    clear hK
    try simp only [Act.put, zq1, zq2, zq3, zq4, zq5, zq6]
    refine tkx (i := 20) (v := ?_) hS ?_ ?_
    rotate_left
    ·rintro w' ⟨s1, s2, s3⟩
     go_simp
     try with_reducible rfl
    try simp only [Act.put, zq1, zq2, zq3, zq4, zq5, zq6]
    refine tkx (i := 21) (v := ?_) hS ?_ ?_
    rotate_left
    ·rintro w' ⟨s1, s2, s3⟩
     go_simp
     try with_reducible rfl
    try simp only [Act.put, zq1, zq2, zq3, zq4, zq5, zq6]
    refine tkx (i := 22) (v := ?_) hS ?_ ?_
    rotate_left
    ·rintro w' ⟨s1, s2, s3⟩
     go_simp
     try with_reducible rfl
    try simp only [Act.put, zq1, zq2, zq3, zq4, zq5, zq6]
    refine tkx (i := 23) (v := ?_) hS ?_ ?_
    rotate_left
    ·rintro w' ⟨s1, s2, s3⟩
     go_simp
     try with_reducible rfl
    try simp only [Act.put, zq1, zq2, zq3, zq4, zq5, zq6]
    refine anyX_g (i := 24) (by kernel_rfl) (by decide) rfl (by rfl) ?_
    intro K hK
    try simp only [zq1, zq2, zq3]
    refine wp_enterE #[.pointer (some ⟨bc, 0, none⟩)] Try.func29 (by kernel_rfl) (by kernel_rfl) ?_ (snext_any HC.out (by decide) (by decide)) ?_
    ·go_simp
    intro e U10 hse
    unfold SeekO at hse
    obtain ⟨s, rfl, hs, hcur, hf⟩ := hse
    have hs1 : s = false := by
     cases s with
     | false => rfl
     | true => have h := hs.1 rfl; unfold InRow at h; simp at h; try omega
    subst hs1
    rw [if_neg (by decide)] at hcur
    replace HC := Lib.hid hcur
    replace X8 := Lib.hid (hf.blk X8.out hne)
    replace HB := Lib.hid (seek_below HB.out HBc.out hf)
    clear hs hcur hf hS
    have hS : (fun W : World => W.cell? ⟨b8, 0, none⟩ = some (.int .i64 1152921504606846976) /\ W.cell? ⟨b8, 1, none⟩ = some (.int .i64 1152921504606846976) /\ W.cell? ⟨b8, 2, none⟩ = some (.int .i64 1152921504606846976)) U10 := ⟨X8.out.cell 0, X8.out.cell 1, X8.out.cell 2⟩
    refine ⟨_, rfl, ?_⟩
    refine hK _ _ hS ?_
    clear hK
    try simp only [Act.put, zq1, zq2, zq3, zq4, zq5, zq6]
    refine tkx (i := 25) (v := ?_) hS ?_ ?_
    rotate_left
    ·rintro w' ⟨s1, s2, s3⟩
     go_simp
     try with_reducible rfl
    try simp only [Act.put, zq1, zq2, zq3, zq4, zq5, zq6]
    refine tkx (i := 26) (v := ?_) hS ?_ ?_
    rotate_left
    ·rintro w' ⟨s1, s2, s3⟩
     go_simp
     try with_reducible rfl
    try simp only [Act.put, zq1, zq2, zq3, zq4, zq5, zq6]
    refine tkx (i := 27) (v := ?_) hS ?_ ?_
    rotate_left
    ·rintro w' ⟨s1, s2, s3⟩
     go_simp
     try with_reducible rfl
    try simp only [Act.put, zq1, zq2, zq3, zq4, zq5, zq6]
    refine tkx (i := 28) (v := ?_) hS ?_ ?_
    rotate_left
    ·rintro w' ⟨s1, s2, s3⟩
     go_simp
     try with_reducible rfl
    try simp only [Act.put, zq1, zq2, zq3, zq4, zq5, zq6]
    refine anyX_g (i := 29) (by kernel_rfl) (by decide) rfl (by rfl) ?_
    intro K hK
    try simp only [zq1, zq2, zq3]
    refine wp_enterE #[.pointer (some ⟨bc, 0, none⟩)] Try.func30 (by kernel_rfl) (by kernel_rfl) ?_ (sprev_any HC.out (by decide) (by decide)) ?_
    ·go_simp
    intro e U11 hse
    unfold SeekO at hse
    obtain ⟨s, rfl, hs, hcur, hf⟩ := hse
    have hs1 : s = false := by
     cases s with
     | false => rfl
     | true => have h := hs.1 rfl; unfold InRow at h; simp at h; try omega
    subst hs1
    rw [if_neg (by decide)] at hcur
    replace HC := Lib.hid hcur
    replace X8 := Lib.hid (hf.blk X8.out hne)
    replace HB := Lib.hid (seek_below HB.out HBc.out hf)
    clear hs hcur hf hS
    have hS : (fun W : World => W.cell? ⟨b8, 0, none⟩ = some (.int .i64 1152921504606846976) /\ W.cell? ⟨b8, 1, none⟩ = some (.int .i64 1152921504606846976) /\ W.cell? ⟨b8, 2, none⟩ = some (.int .i64 1152921504606846976)) U11 := ⟨X8.out.cell 0, X8.out.cell 1, X8.out.cell 2⟩
    refine ⟨_, rfl, ?_⟩
    refine hK _ _ hS ?_
    clear hK
    try simp only [Act.put, zq1, zq2, zq3, zq4, zq5, zq6]
    refine tkx (i := 30) (v := ?_) hS ?_ ?_
    rotate_left
    ·rintro w' ⟨s1, s2, s3⟩
     go_simp
     try with_reducible rfl
    try simp only [Act.put, zq1, zq2, zq3, zq4, zq5, zq6]
    refine tkx (i := 31) (v := ?_) hS ?_ ?_
    rotate_left
    ·rintro w' ⟨s1, s2, s3⟩
     go_simp
     try with_reducible rfl
    try simp only [Act.put, zq1, zq2, zq3, zq4, zq5, zq6]
    refine tkx (i := 32) (v := ?_) hS ?_ ?_
    rotate_left
    ·rintro w' ⟨s1, s2, s3⟩
     go_simp
     try with_reducible rfl
    try simp only [Act.put, zq1, zq2, zq3, zq4, zq5, zq6]
    refine tkx (i := 33) (v := ?_) hS ?_ ?_
    rotate_left
    ·rintro w' ⟨s1, s2, s3⟩
     go_simp
     try with_reducible rfl
    try simp only [Act.put, zq1, zq2, zq3, zq4, zq5, zq6]
    refine anyX_g (i := 34) (by kernel_rfl) (by decide) rfl (by rfl) ?_
    intro K hK
    try simp only [zq1, zq2, zq3]
    refine wp_enterE #[.pointer (some ⟨bc, 0, none⟩), .int .i64 0] Try.func31 (by kernel_rfl) (by kernel_rfl) ?_ (sseek_any (y := 0) HC.out) ?_
    ·go_simp
    intro e U12 hse
    unfold SeekO at hse
    obtain ⟨s, rfl, hs, hcur, hf⟩ := hse
    have hs1 : s = false := by
     cases s with
     | false => rfl
     | true => have h := hs.1 rfl; unfold InRow at h; simp at h; try omega
    subst hs1
    rw [if_neg (by decide)] at hcur
    replace HC := Lib.hid hcur
    replace X8 := Lib.hid (hf.blk X8.out hne)
    replace HB := Lib.hid (seek_below HB.out HBc.out hf)
    clear hs hcur hf hS
    have hS : (fun W : World => W.cell? ⟨b8, 0, none⟩ = some (.int .i64 1152921504606846976) /\ W.cell? ⟨b8, 1, none⟩ = some (.int .i64 1152921504606846976) /\ W.cell? ⟨b8, 2, none⟩ = some (.int .i64 1152921504606846976)) U12 := ⟨X8.out.cell 0, X8.out.cell 1, X8.out.cell 2⟩
    refine ⟨_, rfl, ?_⟩
    refine hK _ _ hS ?_
    clear hK
    try simp only [Act.put, zq1, zq2, zq3, zq4, zq5, zq6]
    refine tkx (i := 35) (v := ?_) hS ?_ ?_
    rotate_left
    ·rintro w' ⟨s1, s2, s3⟩
     go_simp
     try with_reducible rfl
    try simp only [Act.put, zq1, zq2, zq3, zq4, zq5, zq6]
    refine tkx (i := 36) (v := ?_) hS ?_ ?_
    rotate_left
    ·rintro w' ⟨s1, s2, s3⟩
     go_simp
     try with_reducible rfl
    try simp only [Act.put, zq1, zq2, zq3, zq4, zq5, zq6]
    refine tkx (i := 37) (v := ?_) hS ?_ ?_
    rotate_left
    ·rintro w' ⟨s1, s2, s3⟩
     go_simp
     try with_reducible rfl
    try simp only [Act.put, zq1, zq2, zq3, zq4, zq5, zq6]
    refine tkx (i := 38) (v := ?_) hS ?_ ?_
    rotate_left
    ·rintro w' ⟨s1, s2, s3⟩
     go_simp
     try with_reducible rfl
    try simp only [Act.put, zq1, zq2, zq3, zq4, zq5, zq6]
    refine tkx (i := 39) (v := ?_) hS ?_ ?_
    rotate_left
    ·rintro w' ⟨s1, s2, s3⟩
     go_simp
     try with_reducible rfl
    try simp only [Act.put, zq1, zq2, zq3, zq4, zq5, zq6]
    refine tkx (i := 40) (v := ?_) hS ?_ ?_
    rotate_left
    ·rintro w' ⟨s1, s2, s3⟩
     go_simp
     try with_reducible rfl
    try simp only [Act.put, zq1, zq2, zq3, zq4, zq5, zq6]
    refine anyX_last (by kernel_rfl) (by kernel_rfl) rfl rfl ?_
    try simp only [zq1, zq2, zq3]
    go_simp
    try apply_assumption
    clear hS
    go_wp2_with fail
    go_ret
    exact ⟨rfl, HB.out⟩
end Go.Proofs.Ytacgakkcpmhgmaa
