/- Contract of the document's own In. -/
import Derived.Test.YthbnhdocjnhhlaaPartG
import Derived.Test.YthbnhdocjnhhlaaPartE
import Derived.StillTailTactics
namespace Go.Proofs.Ythbnhdocjnhhlaa
open Go Go.RowKit
set_option linter.unusedVariables false

theorem row_facts {ss : List (List (Int × Int))} {m : Nat} (hm : (cutsL ss).length = m) : ∃ RA : Nat → Nat → List Bool, ∀ i, i < ss.length → RA i 0 = List.replicate (kindsL ss).length false ∧ RA i m = inRow ss i ∧
    ∀ k, k < m → ∃ y b, (letsL ss).getD k 0 = ((y : Nat) : Int) ∧ y < (kindsL ss).length ∧ hasB (ss.getD i []) ((cutsL ss).getD k 0) = b ∧ (RA i k).set y b = RA i (k + 1) := by
  have hks : (keysL ss).length = m := by rw [← hm]; simp [keysL]
  refine ⟨fun i => rowAt (keysL ss) (fun k => k.getD i false) [], fun i hi => ⟨rowAt_zero _ _ _, rowAt_all _ _ _ _ (by omega), fun k hk => ?_⟩⟩
  have hk' : k < (keysL ss).length := by omega
  refine ⟨(lets (keysL ss)).getD k 0, _, letsL_nat ss k hk', lets_lt _ k hk', rfl, ?_⟩
  have := rowAt_step (keysL ss) (fun k => k.getD i false) [] k hk'
  rw [keysL_at ss k hk', keyL_at ss _ i hi] at this
  exact this

set_option maxRecDepth 100000 in
set_option maxHeartbeats 8000000 in
theorem rin_any {w : World} {v u q : Value} {m k0 : Nat} {ss : List (List (Int × Int))} (hq : ReadsL w q k0 ss) (h : ReadsI w v m (cutsL ss)) (h' : ReadsI w u m (letsL ss)) (hm : m ≤ 1000000000) (hk0 : k0 ≤ 13) :
    Calls Try.prog 19 #[q, v, u] w (TellsBB w (inRows ss k0)) := by
  obtain ⟨a, cap, rfl, -, -, hl⟩ := hq.form
  have hv := h.form; have hu := h'.form
  obtain ⟨a1, cap1, rfl, -, -, hlc⟩ := hv
  obtain ⟨a2, cap2, rfl, -, -, -⟩ := hu
  obtain ⟨RA, hRA⟩ := row_facts hlc
  have HRA := Lib.hid hRA
  have hcount := fun w' (hh : ReadsI w' (.slice a2 m cap2) m (letsL ss)) => rcount_any (ks := keysL ss) hh hm
  have hK : (firsts (keysL ss)).length = (kindsL ss).length := rfl
  rw [hK] at hcount
  have HC := Lib.hid hcount
  have hkl : (kindsL ss).length ≤ 1000000000 := by
    have := firsts_len_le (keysL ss)
    have e : (keysL ss).length = m := by rw [← hlc]; simp [keysL]
    unfold kindsL; omega
  have HLN : Hid (∀ i, (inRow ss i).length = (kindsL ss).length) := Lib.hid (inRow_len ss)
  have HQ := Lib.hid hq; have H := Lib.hid h; have H' := Lib.hid h'; have HL := Lib.hid hl
  have HIR : Hid (∀ k, boolRows (inRows ss (k + 1)) = boolRows (inRows ss k) ++ [((inRow ss k).length, (inRow ss k).map Value.bool)]) := Lib.hid (inRows_snoc ss)
  clear hq h h' hl hRA hcount hK hlc
  generalize (kindsL ss).length = K at *
  generalize cutsL ss = C at *
  generalize letsL ss = L at *
  obtain ⟨i0, hi0, hz0, hz1, hz2⟩ := info_parts info_bool
  go_enter Try.func19, Try.ntmps19
  go_wp2_with fail
  go_loopw [7, 8] (fun s i wr => ∃ (k : Nat), k ≤ k0 ∧ i = .int .i64 k ∧ Hid (OwnLL wr w.heap.size 32 4 1 s k (boolRows (inRows ss k))) ∧ Hid (Below w.heap.size w wr)) (fun _ i _ => k0 - (intOf i).toNat)
  case atStart => exact ⟨0, Nat.zero_le _, rfl, Lib.hid (OwnLL.nil _ _ _ _ _), Lib.hid (Below.refl _ _)⟩
  case round =>
    obtain ⟨k, hk, rfl, HV, HB⟩ := hrel
    have hz := HB.out.size
    have i0 : (0 : Int) ≤ (k : Int) := Int.natCast_nonneg _
    by_cases hlt : k < k0
    · have i1 : (k : Int) < (k0 : Int) := by omega
      have t1 : decide (k < k0) = true := by simpa using hlt
      obtain ⟨b, off, x, rfl, c1, hx⟩ := HQ.out.at k hlt
      have hbl := World.block_lt_of_cell? w _ c1
      have HX := Lib.hid hx
      have SN := Lib.hid (HIR.out k)
      obtain ⟨f1, f2, f3⟩ := HRA.out k (by rw [HL.out]; exact hlt)
      have F1 := Lib.hid f1; have F2 := Lib.hid f2; have F3 := Lib.hid f3
      have HLk := Lib.hid (HLN.out k)
      clear f1 f2 f3 hx
      generalize hRk : RA k = RK at *
      clear hRk
      generalize inRow ss k = R at *
      generalize boolRows (inRows ss k) = xs at *
      generalize ss.getD k [] = l at *
      obtain ⟨a3, cap3, rfl, -, -, -⟩ := HX.out.form
      have HCk := Lib.hid (HC.out wr (H'.out.below HB.out))
      go_wp2_with fail
      refine HCk.out.mono ?_
      rintro e w2 ⟨rfl, rfl⟩
      clear HCk
      go_wp2_with (at_make; refine wpList_make_full _ rfl (.tmp 18) (.tmp 18) 32 rfl wr.heap.size 4 _ _ 1 Try.underlying32 hi0 hz0 hz1 .i64 .i64 _ _ K (by rfl) (by rfl) rfl rfl (by rw [hz2]; omega) (by unfold maxLen; omega) (Nat.le_refl _) ?_
                   intro w2 hown hgr
                   have HOW := Lib.hid hown; have HGR := Lib.hid hgr; clear hown hgr)
      have HO2 : Hid (OwnB w2 wr.heap.size (.slice (some ⟨wr.heap.size, 0, none⟩) K K) K (RK 0)) := Lib.hid (by
        rw [F1.out]; unfold OwnB
        have := HOW.out
        rw [show (Value.bool false).cells = #[Value.bool false] from rfl, toList_madeCells_one, Nat.mul_one] at this
        rw [List.map_replicate]; exact this)
      have B2 := Lib.hid ((Below.refl wr.heap.size wr).grown HGR.out (Nat.le_refl _) (fun k hk => by cases hk))
      have hz2 := B2.out.size
      clear HOW HGR F1
      obtain ⟨w0, hw0⟩ : ∃ w0, w0 = wr := ⟨_, rfl⟩
      rw [← hw0] at HO2 B2 hz2 HV HB hz ⊢
      clear hw0
      generalize hg : w0.heap.size = g at *
      have HG := Lib.hid hg; clear hg
      go_loopw [10] (fun i wr => ∃ (j : Nat), j ≤ m ∧ i = .int .i64 j ∧ Hid (OwnB wr g (.slice (some ⟨g, 0, none⟩) K K) K (RK j)) ∧ Hid (Below g w0 wr)) (fun i _ => m - (intOf i).toNat)
      case atStart => exact ⟨0, Nat.zero_le _, rfl, HO2, B2⟩
      case round =>
        obtain ⟨j, hj, rfl, HVj, HBj⟩ := hrel
        have HBW := Lib.hid (HB.out.trans (HBj.out.mono hz))
        have hzw : g ≤ wr.heap.size := by have := HBj.out.size; rw [HG.out] at this; exact this
        have j0 : (0 : Int) ≤ (j : Int) := Int.natCast_nonneg _
        by_cases hltj : j < m
        · have j1 : (j : Int) < (m : Int) := by omega
          have t2 : decide (j < m) = true := by simpa using hltj
          obtain ⟨b1, off1, rfl, hb1, d1⟩ := H.out.at j hltj
          obtain ⟨b2, off2, rfl, hb2, d2⟩ := H'.out.at j hltj
          have d1 := (HBW.out.cell (p := ⟨b1, off1 + j, none⟩) hb1).trans d1
          have d2 := (HBW.out.cell (p := ⟨b2, off2 + j, none⟩) hb2).trans d2
          have d3 := (HBW.out.cell (p := ⟨b, off + k, none⟩) hbl).trans c1
          obtain ⟨y, bb, e1, hy, e2, e3⟩ := F3.out j hltj
          rw [e1] at d2; clear e1
          have E3 := Lib.hid e3; clear e3
          have hH := fun (W : World) (hh : ReadsP W (.slice a3 l.length cap3) l.length l) => rhas_any (x := C.getD j 0) hh
          rw [e2] at hH; clear e2
          have HH := Lib.hid hH; clear hH
          have HX2 := Lib.hid (HX.out.below HBW.out).drew
          generalize C.getD j 0 = x at *
          have y0 : (0 : Int) ≤ (y : Int) := Int.natCast_nonneg _
          have y1 : (y : Int) < (K : Int) := by omega
          have t3 : decide (y < K) = true := by simpa using hy
          have HV3 : Hid (OwnB wr.drew g (.slice (some ⟨g, 0, none⟩) K K) K (RK j)) := Lib.hid HVj.out
          have HB3 : Hid (Below g w0 wr.drew) := Lib.hid ⟨HBj.out.1, HBj.out.2, HBj.out.3, HBj.out.4, HBj.out.5⟩
          go_wp2_with fail
          refine wp_region_still_tail 15 (by kernel_rfl) (by kernel_rfl) ?_
          simp only [List.take_succ_cons, List.take_zero, List.drop_succ_cons, List.drop_zero]
          change wpStill _ _ wr.drew _ _ _
          have d1' : wr.drew.cell? ⟨b1, off1 + j, none⟩ = some (.int .i64 x) := d1
          have d2' : wr.drew.cell? ⟨b2, off2 + j, none⟩ = some (.int .i64 y) := d2
          have d3' : wr.drew.cell? ⟨b, off + k, none⟩ = some (.slice a3 l.length cap3) := d3
          have hzw' : g ≤ wr.drew.heap.size := hzw
          clear d1 d2 d3
          repeat still_step
          still_call ((HH.out _ HX2.out).mono fun e w' h => ⟨h.1, h.2.symm⟩)
          repeat still_step
          refine wpStill_nil ?_
          change wpList _ _ _ _ _ wr.drew
          clear HVj HBj HBW
          generalize wr.drew = W at *
          have f1 := HV3.out.thaw y
          have d1 := HV3.out.cellAt y hy
          go_wp2_with fail
          obtain ⟨s1, s2⟩ := HV3.out.stored y bb
          refine ⟨⟨j + 1, by omega, by go_num, ?_, ?_⟩, by simp [intOf]; omega⟩
          · rw [E3.out] at s1
            exact Lib.hid (by simpa using s1)
          · have := HB3.out.grown s2 hzw' (fun r hr => by cases hr; exact Nat.le_refl _)
            exact Lib.hid (by simpa using this)
        · have hjm : j = m := by omega
          have HJM := Lib.hid hjm; clear hjm
          have HVw : Hid (OwnLL wr w.heap.size 32 4 1 u7 k xs) := Lib.hid (HV.out.below (by rw [HG.out]; exact HBj.out))
          have HOR : Hid (OwnB wr g (.slice (some ⟨g, 0, none⟩) K K) K R) := Lib.hid (by have := HVj.out; rw [HJM.out, F2.out] at this; exact this)
          have hap : Apart u7 (.slice (some ⟨g, 0, none⟩) K K) := by
            cases h7 : u7.ownBlock with
            | none => exact .inl h7
            | some r =>
              right; right
              intro e
              have q1 := (HV.out.lt r h7).2
              have q2 : r = g := by rw [h7] at e; simpa [Value.ownBlock] using e
              rw [HG.out] at q1
              omega
          have HAP := Lib.hid hap; clear hap
          have HOO := Lib.hid (World.ownsRow.mono HOR.out hz)
          have hzz : w.heap.size ≤ wr.heap.size := HBW.out.size
          go_wp2_with (at_builtin; refine wpList_pushLL rfl (.tmp 41) (.tmp 43) 30 32 4 1 24 rfl Try.underlying30 info_bools (by omega) w.heap.size _ _ k xs _ _ _ (by rfl) HVw.out HOO.out HAP.out (by rfl) (by omega) hzz ?_
                       intro g4 c4 w4 hp
                       have HP := Lib.hid hp; clear hp)
          refine ⟨⟨k + 1, by omega, by go_num, Lib.hid (by rw [SN.out, HLk.out]; exact HP.out.own), Lib.hid (HP.out.below HBW.out (Nat.le_refl _) hzz)⟩, by simp [intOf]; omega⟩
    · have hkm : k = k0 := by omega
      have HKM := Lib.hid hkm; clear hkm
      have HN : Hid ((inRows ss k0).length = k0) := Lib.hid (by simp [inRows])
      go_wp2_with fail
      go_ret
      refine ⟨_, rfl, ?_, HB.out⟩
      rw [HN.out]
      have := HV.out
      rw [HKM.out] at this
      rw [HKM.out]
      exact this

end Go.Proofs.Ythbnhdocjnhhlaa
