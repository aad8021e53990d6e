/- The law PartOrder, walked. -/
import Derived.Test.YthbnhdocjnhhlaaPartO
import Derived.BigRegion
namespace Go.Proofs.Ythbnhdocjnhhlaa
open Go Go.RowKit
set_option linter.unusedVariables false
set_option linter.unusedSimpArgs false

theorem within4_r {W : World} {q : Nat} {x n : Int} (hn : 0 < n) (hn2 : n ≤ 1099511627776) :
    Calls Try.prog 20 #[.int .i64 x, .int .i64 n] (W.drewN q) fun e w'' => e = .returned (.int .i64 (wth x n)) ∧ ∃ m, w'' = W.drewN m := (within4_any x n hn hn2 _).mono fun _ _ h => ⟨h.1, q, h.2.symm⟩
/-- Two places, exchanged. -/
def swapL {α : Type} (l : List α) (a b : Nat) (d : α) : List α := (l.set a (l.getD b d)).set b (l.getD a d)
theorem swapL_len {α : Type} (l : List α) (a b : Nat) (d : α) : (swapL l a b d).length = l.length := by simp [swapL]
theorem ValsOf.swap {w : World} {vs : List Value} {ts : List (List (Int × Int))} (h : ValsOf w vs ts) (a b : Nat) (ha : a < ts.length) (hb : b < ts.length) : ValsOf w (swapL vs a b undef) (swapL ts a b []) := by
  unfold swapL
  exact (h.set a ha (h.2 b hb)).set b (by rw [List.length_set]; exact hb) (h.2 a ha)
theorem swapL_mem {α : Type} (l : List α) (a b : Nat) (d : α) (ha : a < l.length) (hb : b < l.length) (x : α) : x ∈ swapL l a b d ↔ x ∈ l := by
  have ea : l.getD a d = l[a] := by simp [List.getD, List.getElem?_eq_getElem ha]
  have eb : l.getD b d = l[b] := by simp [List.getD, List.getElem?_eq_getElem hb]
  have hl : (swapL l a b d).length = l.length := swapL_len l a b d
  have hg : ∀ (i : Nat) (hi : i < l.length), (swapL l a b d)[i]'(by omega) = if b = i then l[a] else if a = i then l[b] else l[i] := fun i hi => by
    simp only [swapL, List.getElem_set, ea, eb]
  constructor
  · intro h
    obtain ⟨i, hi, e⟩ := List.getElem_of_mem h
    rw [hg i (by omega)] at e
    split at e
    · rw [← e]; exact List.getElem_mem _
    · split at e
      · rw [← e]; exact List.getElem_mem _
      · rw [← e]; exact List.getElem_mem _
  · intro h
    obtain ⟨i, hi, e⟩ := List.getElem_of_mem h
    by_cases e1 : i = a
    · have := hg b hb
      rw [if_pos rfl] at this
      subst e1
      rw [← e, ← this]; exact List.getElem_mem _
    · by_cases e2 : i = b
      · have := hg a ha
        by_cases e3 : b = a
        · exact absurd (e2.trans e3) e1
        · rw [if_neg e3, if_pos rfl] at this
          subst e2
          rw [← e, ← this]; exact List.getElem_mem _
      · have := hg i hi
        rw [if_neg (Ne.symm e2), if_neg (Ne.symm e1)] at this
        rw [← e, ← this]; exact List.getElem_mem _

set_option maxRecDepth 100000 in
set_option maxHeartbeats 8000000 in
theorem partOrder_walk (a0 : Option Addr) (len0 cap0 : Nat) (z0 : List Int) (a1 : Option Addr) (len1 cap1 : Nat) (z1 : List Int) (w : World) (w0 : IsRow .i64 w a0 len0 cap0 z0) (w1 : IsRow .i64 w a1 len1 cap1 z1) :
    Calls Try.prog 7 #[.slice a0 len0 cap0, .slice a1 len1 cap1] w fun e w' => e = .returned (.bool true) ∧ Below w.heap.size w w' := by
  have Q0 := Lib.hid w0; clear w0
  have Q1 := Lib.hid w1; clear w1
  go_enter Try.func7, Try.ntmps7
  go_wp2_with fail
  refine (known4_any w).mono ?_
  rintro e W1 ⟨rfl, h2⟩
  replace Q0 := Lib.hid (IsRow.below Q0.out h2)
  replace Q1 := Lib.hid (IsRow.below Q1.out h2)
  have BB := Lib.hid h2
  clear h2
  go_wp2_with fail
  refine (sets_x (mo := 6) Q0.out (by omega)).mono ?_
  rintro e W2 ⟨v, n, ss, rfl, hr, hn, h1, h2⟩
  replace Q1 := Lib.hid (IsRow.below Q1.out h2)
  have HR := Lib.hid hr
  have RS := Lib.hid h1.readsL
  have HL := Lib.hid h1.readsL.1
  have OS := Lib.hid h1
  obtain ⟨av, cv, rfl⟩ := h1.slice
  replace BB := Lib.hid (BB.out.trans (h2.mono BB.out.size))
  clear h1 h2 hr Q0
  obtain ⟨vals, ov, vo, hln⟩ := OS.out.vals
  have OV := Lib.hid ov; have VO := Lib.hid vo; have H1 := Lib.hid vo.one
  clear ov vo OS
  have HLN := Lib.hid hln; clear hln
  go_wp2_with (at_builtin; refine wpList_concatV rfl (.tmp 18) (.tmp 19) rfl W2.heap.size _ _ _ _ (by rfl) (OwnV.empty W2) _ n vals (by rfl) (OV.out.alloc _) H1.out (by omega) (by simp) ?_
               intro v4 w4 h1 h2 h3 _
               have OT : Hid (OwnV w4 W2.heap.size v4 n vals) := Lib.hid (by have := h1; rw [Nat.zero_add, List.nil_append] at this; exact this)
               have B4 := Lib.hid (((Below.refl _ W2).alloc (Nat.le_refl _) _).trans h2)
               clear h1 h2 h3)
  have hz4 := B4.out.size
  obtain ⟨at4, ct4, e4⟩ := OT.out.slice
  subst e4
  have HA1 := Lib.hid (IsRow.at Q1.out)
  have hl1 := (IsRow.len_le Q1.out).2
  have hz1 : W2.heap.size ≤ w4.heap.size := hz4
  clear Q1
  go_loopw [7] (fun i wr => ∃ (k : Nat) (vs : List Value) (ts : List (List (Int × Int))), k ≤ len1 ∧ i = .int .i64 k ∧ Hid (OwnV wr W2.heap.size (.slice at4 n ct4) n vs) ∧ Hid (ValsOf W2 vs ts) ∧ Hid (∀ l, l ∈ ts ↔ l ∈ ss) ∧ Hid (ts.length = n) ∧ Hid (Below W2.heap.size W2 wr)) (fun i _ => len1 - (intOf i).toNat)
  case atStart => exact ⟨0, vals, ss, Nat.zero_le _, rfl, OT, VO, Lib.hid (fun l => Iff.rfl), HLN, B4⟩
  case round =>
    clear OT B4 hz4 hz1
    obtain ⟨k, vs, ts, hk, rfl, OT, VT, HM, HTL, B4⟩ := hrel
    have hz4 := B4.out.size
    have i0 : (0 : Int) ≤ (k : Int) := Int.natCast_nonneg _
    by_cases hlt : k < len1
    · have i1 : (k : Int) < (len1 : Int) := by omega
      have t1 : decide (k < len1) = true := by simpa using hlt
      by_cases h10 : k < 10
      · have i2 : (k : Int) < 10 := by omega
        by_cases hn0 : 0 < n
        · have i3 : (0 : Int) < (n : Int) := by omega
          have i4 : decide (0 < n) = true := by simpa using hn0
          have i5 : ¬ (n : Int) = 0 := by omega
          obtain ⟨b1, off1, rfl, hb1, hc1, -⟩ := HA1.out k hlt
          have c1 := (B4.out.cell (p := ⟨b1, off1 + k, none⟩) hb1).trans (hc1 k hlt)
          clear hc1
          generalize z1.getD k 0 = x at *
          have hN1 : (n : Int) ≤ 1099511627776 := by omega
          have hw := wth_bd x n i3
          go_wp2_with fail
          go_quiet ((exact within4_r i3 hN1))
          go_wp2_with fail
          have m1 : 0 ≤ (k : Int) % (n : Int) := Int.emod_nonneg _ (by omega)
          have m2 : (k : Int) % (n : Int) < (n : Int) := Int.emod_lt_of_pos _ i3
          generalize (k : Int) % (n : Int) = aZ at *
          generalize wth x (n : Int) = bZ at *
          obtain ⟨A, rfl⟩ : ∃ A : Nat, aZ = (A : Int) := ⟨aZ.toNat, by omega⟩
          obtain ⟨Bn, rfl⟩ : ∃ Bn : Nat, bZ = (Bn : Int) := ⟨bZ.toNat, by omega⟩
          obtain ⟨hw1, hw2⟩ := hw
          have hA : A < n := by omega
          have hB : Bn < n := by omega
          have tA : decide (A < n) = true := by simpa using hA
          have tB : decide (Bn < n) = true := by simpa using hB
          rcases OT.out.2 with ⟨_, hx⟩ | ⟨g, capg, cur, eg, hg, hh, _⟩
          · omega
          simp only [Value.slice.injEq, true_and] at eg
          obtain ⟨rfl, rfl⟩ := eg
          have hgz := (Array.getElem?_eq_some_iff.1 hh).1
          clear hh
          have HVL := Lib.hid OT.out.len
          have rA := VT.out.2 A (by rw [HTL.out]; exact hA)
          have rB := VT.out.2 Bn (by rw [HTL.out]; exact hB)
          obtain ⟨aa, ca, ea, -, -, -⟩ := rA.form
          obtain ⟨ab, cb, eb, -, -, -⟩ := rB.form
          have dA : wr.cell? ⟨g, A, none⟩ = some (vs.getD A undef) := by
            rw [World.ownsRow.cellAt OT.out A (by omega)]
            simp [List.getD, List.getElem?_eq_getElem (show A < vs.length by rw [HVL.out]; exact hA)]
          have dB : wr.cell? ⟨g, Bn, none⟩ = some (vs.getD Bn undef) := by
            rw [World.ownsRow.cellAt OT.out Bn (by omega)]
            simp [List.getD, List.getElem?_eq_getElem (show Bn < vs.length by rw [HVL.out]; exact hB)]
          rw [ea] at dA
          rw [eb] at dB
          have EA := Lib.hid ea; have EB := Lib.hid eb; clear ea eb rA rB
          generalize (ts.getD A []).length = nA at *
          generalize (ts.getD Bn []).length = nB at *
          have fA := World.ownsRow.frozenAt OT.out A
          have fB := World.ownsRow.frozenAt OT.out Bn
          have OT2 : Hid (OwnV (wr.drewN nq) W2.heap.size (.slice (some ⟨g, 0, none⟩) n ct4) n vs) := Lib.hid OT.out
          have VT2 := Lib.hid (VT.out.swap A Bn (by rw [HTL.out]; exact hA) (by rw [HTL.out]; exact hB))
          have HM2 : Hid (∀ l, l ∈ swapL ts A Bn [] ↔ l ∈ ss) := Lib.hid (fun l => (swapL_mem ts A Bn [] (by rw [HTL.out]; exact hA) (by rw [HTL.out]; exact hB) l).trans (HM.out l))
          have HTL2 : Hid ((swapL ts A Bn []).length = n) := Lib.hid (by rw [swapL_len]; exact HTL.out)
          have B42 : Hid (Below W2.heap.size W2 (wr.drewN nq)) := Lib.hid (Below.drewN' B4.out nq)
          have dA : (wr.drewN nq).cell? ⟨g, A, none⟩ = some (.slice aa nA ca) := dA
          have dB : (wr.drewN nq).cell? ⟨g, Bn, none⟩ = some (.slice ab nB cb) := dB
          have fA : (wr.drewN nq).frozen? ⟨g, A, none⟩ = false := fA
          have fB : (wr.drewN nq).frozen? ⟨g, Bn, none⟩ = false := fB
          clear OT VT B4 c1 m1 m2 hw1 hw2
          generalize (wr.drewN nq) = W at *
          by_cases hAB : A = Bn
          · subst hAB
            obtain ⟨s1, s2⟩ := World.ownsRow.stored OT2.out A (.slice aa nA ca)
            obtain ⟨s3, s4⟩ := World.ownsRow.stored s1 A (.slice aa nA ca)
            have B5 := Lib.hid ((B42.out.grown s2 B42.out.size (fun r hr => by cases hr; exact hg)))
            have B6 := Lib.hid ((B5.out.grown s4 B5.out.size (fun r hr => by cases hr; exact hg)))
            have O6 : Hid (OwnV (((W.setCell ⟨g, A, none⟩ (.slice aa nA ca)).setCell ⟨g, A, none⟩ (.slice aa nA ca))) W2.heap.size (.slice (some ⟨g, 0, none⟩) n ct4) n (swapL vs A A undef)) := Lib.hid (by
              unfold swapL
              rw [EA.out]
              exact s3)
            clear s1 s2 s3 s4
            go_region
            go_wp2_with fail
            exact ⟨⟨k + 1, swapL vs A A undef, swapL ts A A [], by omega, by go_num, Lib.hid O6.out, VT2, HM2, HTL2, Lib.hid ⟨B6.out.1, B6.out.2, B6.out.3, B6.out.4, B6.out.5⟩⟩, by simp [intOf]; omega⟩
          · have hAB2 : ¬ Bn = A := fun e => hAB e.symm
            obtain ⟨s1, s2⟩ := World.ownsRow.stored OT2.out A (.slice ab nB cb)
            obtain ⟨s3, s4⟩ := World.ownsRow.stored s1 Bn (.slice aa nA ca)
            have B5 := Lib.hid ((B42.out.grown s2 B42.out.size (fun r hr => by cases hr; exact hg)))
            have B6 := Lib.hid ((B5.out.grown s4 B5.out.size (fun r hr => by cases hr; exact hg)))
            have O6 : Hid (OwnV (((W.setCell ⟨g, A, none⟩ (.slice ab nB cb)).setCell ⟨g, Bn, none⟩ (.slice aa nA ca))) W2.heap.size (.slice (some ⟨g, 0, none⟩) n ct4) n (swapL vs A Bn undef)) := Lib.hid (by
              unfold swapL
              rw [EA.out, EB.out]
              exact s3)
            clear s1 s2 s3 s4
            go_region
            go_wp2_with fail
            exact ⟨⟨k + 1, swapL vs A Bn undef, swapL ts A Bn [], by omega, by go_num, Lib.hid O6.out, VT2, HM2, HTL2, Lib.hid ⟨B6.out.1, B6.out.2, B6.out.3, B6.out.4, B6.out.5⟩⟩, by simp [intOf]; omega⟩
        · have i3 : ¬ (0 : Int) < (n : Int) := by omega
          have i4 : n ≤ 0 := by omega
          have OV4 := Lib.hid (OV.out.below_top B4.out)
          have HN12 : n + n ≤ 1000000 := by omega
          have hn13 : n + n ≤ 13 := by omega
          go_wp2_with (at_builtin; refine wpList_concatV rfl (.tmp 61) (.tmp 62) rfl W2.heap.size W1.heap.size _ _ _ (by rfl) OT.out _ n vals (by rfl) OV4.out H1.out HN12 hz4 ?_
                       intro v6 w6 h1 h2 _ _
                       have OT6 := Lib.hid h1
                       have B6 := Lib.hid (B4.out.trans h2)
                       clear h1 h2)
          have RS6 := Lib.hid (RS.out.below B6.out)
          have RT := Lib.hid (OT6.out.reads ((VT.out.below B6.out).append (VO.out.below B6.out)))
          have HT : Hid (RtAll (ts ++ ss)) := Lib.hid (fun l hl => by
            rcases List.mem_append.1 hl with q | q
            · exact HR.out l ((HM.out l).1 q)
            · exact HR.out l q)
          have HPO := Lib.hid (part_order (s := ss) (t := ts ++ ss) HR.out (fun l => by
            rw [List.mem_append, HM.out l]
            exact ⟨fun h => h.elim id id, .inl⟩))
          replace BB := Lib.hid (BB.out.trans (B6.out.mono BB.out.size))
          clear OT OV OV4 VT VO H1 B4 B6 OT6 RS hz4
          generalize ts ++ ss = tt at *
          obtain ⟨a6, c6, e6, -, -, -⟩ := RT.out.form
          subst e6
          go_wp2_with fail
          refine (cuts_x RS6.out HR.out (by omega)).mono ?_
          rintro e W7 ⟨ma, aca, cca, ala, cla, rfl, hma, r1, r2, h3⟩
          have RCa := Lib.hid r1; have RLa := Lib.hid r2
          replace RT := Lib.hid (RT.out.below h3)
          replace BB := Lib.hid (BB.out.trans (h3.mono BB.out.size))
          clear r1 r2 h3
          go_wp2_with fail
          refine (cuts_x RT.out HT.out (by omega)).mono ?_
          rintro e W8 ⟨mb, acb, ccb, alb, clb, rfl, hmb, r1, r2, h3⟩
          have RCb := Lib.hid r1; have RLb := Lib.hid r2
          replace RCa := Lib.hid (RCa.out.below h3)
          replace RLa := Lib.hid (RLa.out.below h3)
          replace BB := Lib.hid (BB.out.trans (h3.mono BB.out.size))
          clear r1 r2 h3
          have HC1 : Hid (ReadsI W8 (.slice acb mb ccb) mb (cutsL ss)) := Lib.hid (by rw [HPO.out.1]; exact RCb.out)
          have HC2 : Hid (ReadsI W8 (.slice alb mb clb) mb (letsL ss)) := Lib.hid (by rw [HPO.out.2]; exact RLb.out)
          obtain rfl : ma = mb := by rw [← RCa.out.1, ← HC1.out.1]
          go_wp2_with fail
          refine (ints_any RCa.out.reads HC1.out.reads (by omega)).mono ?_
          rintro e W9 ⟨rfl, h3⟩
          replace RLa := Lib.hid (RLa.out.below h3)
          replace HC2 := Lib.hid (HC2.out.below h3)
          replace BB := Lib.hid (BB.out.trans (h3.mono BB.out.size))
          clear h3
          go_wp2_with fail
          refine (ints_any RLa.out.reads HC2.out.reads (by omega)).mono ?_
          rintro e W10 ⟨rfl, h3⟩
          replace BB := Lib.hid (BB.out.trans (h3.mono BB.out.size))
          clear h3
          go_wp2_with fail
          go_ret
          exact ⟨rfl, BB.out⟩
      · have i2 : ¬ (k : Int) < 10 := by omega
        have OV4 := Lib.hid (OV.out.below_top B4.out)
        have HN12 : n + n ≤ 1000000 := by omega
        have hn13 : n + n ≤ 13 := by omega
        go_wp2_with (at_builtin; refine wpList_concatV rfl (.tmp 61) (.tmp 62) rfl W2.heap.size W1.heap.size _ _ _ (by rfl) OT.out _ n vals (by rfl) OV4.out H1.out HN12 hz4 ?_
                     intro v6 w6 h1 h2 _ _
                     have OT6 := Lib.hid h1
                     have B6 := Lib.hid (B4.out.trans h2)
                     clear h1 h2)
        have RS6 := Lib.hid (RS.out.below B6.out)
        have RT := Lib.hid (OT6.out.reads ((VT.out.below B6.out).append (VO.out.below B6.out)))
        have HT : Hid (RtAll (ts ++ ss)) := Lib.hid (fun l hl => by
          rcases List.mem_append.1 hl with q | q
          · exact HR.out l ((HM.out l).1 q)
          · exact HR.out l q)
        have HPO := Lib.hid (part_order (s := ss) (t := ts ++ ss) HR.out (fun l => by
          rw [List.mem_append, HM.out l]
          exact ⟨fun h => h.elim id id, .inl⟩))
        replace BB := Lib.hid (BB.out.trans (B6.out.mono BB.out.size))
        clear OT OV OV4 VT VO H1 B4 B6 OT6 RS hz4
        generalize ts ++ ss = tt at *
        obtain ⟨a6, c6, e6, -, -, -⟩ := RT.out.form
        subst e6
        go_wp2_with fail
        refine (cuts_x RS6.out HR.out (by omega)).mono ?_
        rintro e W7 ⟨ma, aca, cca, ala, cla, rfl, hma, r1, r2, h3⟩
        have RCa := Lib.hid r1; have RLa := Lib.hid r2
        replace RT := Lib.hid (RT.out.below h3)
        replace BB := Lib.hid (BB.out.trans (h3.mono BB.out.size))
        clear r1 r2 h3
        go_wp2_with fail
        refine (cuts_x RT.out HT.out (by omega)).mono ?_
        rintro e W8 ⟨mb, acb, ccb, alb, clb, rfl, hmb, r1, r2, h3⟩
        have RCb := Lib.hid r1; have RLb := Lib.hid r2
        replace RCa := Lib.hid (RCa.out.below h3)
        replace RLa := Lib.hid (RLa.out.below h3)
        replace BB := Lib.hid (BB.out.trans (h3.mono BB.out.size))
        clear r1 r2 h3
        have HC1 : Hid (ReadsI W8 (.slice acb mb ccb) mb (cutsL ss)) := Lib.hid (by rw [HPO.out.1]; exact RCb.out)
        have HC2 : Hid (ReadsI W8 (.slice alb mb clb) mb (letsL ss)) := Lib.hid (by rw [HPO.out.2]; exact RLb.out)
        obtain rfl : ma = mb := by rw [← RCa.out.1, ← HC1.out.1]
        go_wp2_with fail
        refine (ints_any RCa.out.reads HC1.out.reads (by omega)).mono ?_
        rintro e W9 ⟨rfl, h3⟩
        replace RLa := Lib.hid (RLa.out.below h3)
        replace HC2 := Lib.hid (HC2.out.below h3)
        replace BB := Lib.hid (BB.out.trans (h3.mono BB.out.size))
        clear h3
        go_wp2_with fail
        refine (ints_any RLa.out.reads HC2.out.reads (by omega)).mono ?_
        rintro e W10 ⟨rfl, h3⟩
        replace BB := Lib.hid (BB.out.trans (h3.mono BB.out.size))
        clear h3
        go_wp2_with fail
        go_ret
        exact ⟨rfl, BB.out⟩
    · have OV4 := Lib.hid (OV.out.below_top B4.out)
      have HN12 : n + n ≤ 1000000 := by omega
      have hn13 : n + n ≤ 13 := by omega
      go_wp2_with (at_builtin; refine wpList_concatV rfl (.tmp 61) (.tmp 62) rfl W2.heap.size W1.heap.size _ _ _ (by rfl) OT.out _ n vals (by rfl) OV4.out H1.out HN12 hz4 ?_
                   intro v6 w6 h1 h2 _ _
                   have OT6 := Lib.hid h1
                   have B6 := Lib.hid (B4.out.trans h2)
                   clear h1 h2)
      have RS6 := Lib.hid (RS.out.below B6.out)
      have RT := Lib.hid (OT6.out.reads ((VT.out.below B6.out).append (VO.out.below B6.out)))
      have HT : Hid (RtAll (ts ++ ss)) := Lib.hid (fun l hl => by
        rcases List.mem_append.1 hl with q | q
        · exact HR.out l ((HM.out l).1 q)
        · exact HR.out l q)
      have HPO := Lib.hid (part_order (s := ss) (t := ts ++ ss) HR.out (fun l => by
        rw [List.mem_append, HM.out l]
        exact ⟨fun h => h.elim id id, .inl⟩))
      replace BB := Lib.hid (BB.out.trans (B6.out.mono BB.out.size))
      clear OT OV OV4 VT VO H1 B4 B6 OT6 RS hz4
      generalize ts ++ ss = tt at *
      obtain ⟨a6, c6, e6, -, -, -⟩ := RT.out.form
      subst e6
      go_wp2_with fail
      refine (cuts_x RS6.out HR.out (by omega)).mono ?_
      rintro e W7 ⟨ma, aca, cca, ala, cla, rfl, hma, r1, r2, h3⟩
      have RCa := Lib.hid r1; have RLa := Lib.hid r2
      replace RT := Lib.hid (RT.out.below h3)
      replace BB := Lib.hid (BB.out.trans (h3.mono BB.out.size))
      clear r1 r2 h3
      go_wp2_with fail
      refine (cuts_x RT.out HT.out (by omega)).mono ?_
      rintro e W8 ⟨mb, acb, ccb, alb, clb, rfl, hmb, r1, r2, h3⟩
      have RCb := Lib.hid r1; have RLb := Lib.hid r2
      replace RCa := Lib.hid (RCa.out.below h3)
      replace RLa := Lib.hid (RLa.out.below h3)
      replace BB := Lib.hid (BB.out.trans (h3.mono BB.out.size))
      clear r1 r2 h3
      have HC1 : Hid (ReadsI W8 (.slice acb mb ccb) mb (cutsL ss)) := Lib.hid (by rw [HPO.out.1]; exact RCb.out)
      have HC2 : Hid (ReadsI W8 (.slice alb mb clb) mb (letsL ss)) := Lib.hid (by rw [HPO.out.2]; exact RLb.out)
      obtain rfl : ma = mb := by rw [← RCa.out.1, ← HC1.out.1]
      go_wp2_with fail
      refine (ints_any RCa.out.reads HC1.out.reads (by omega)).mono ?_
      rintro e W9 ⟨rfl, h3⟩
      replace RLa := Lib.hid (RLa.out.below h3)
      replace HC2 := Lib.hid (HC2.out.below h3)
      replace BB := Lib.hid (BB.out.trans (h3.mono BB.out.size))
      clear h3
      go_wp2_with fail
      refine (ints_any RLa.out.reads HC2.out.reads (by omega)).mono ?_
      rintro e W10 ⟨rfl, h3⟩
      replace BB := Lib.hid (BB.out.trans (h3.mono BB.out.size))
      clear h3
      go_wp2_with fail
      go_ret
      exact ⟨rfl, BB.out⟩

end Go.Proofs.Ythbnhdocjnhhlaa
