/- Contract of the document's own Cuts. -/
import Derived.Test.YthbnhdocjnhhlaaPartI
namespace Go.Proofs.Ythbnhdocjnhhlaa
open Go Go.RowKit
set_option linter.unusedVariables false

theorem ix_first {F : List Nat} {j t : Nat} (ht : t < F.length) (h : ∀ i, i < t → F.getD i 0 ≠ j) (e : F.getD t 0 = j) : j ∈ F ∧ ix F j = t := by
  have e1 : F.getD t 0 = F[t] := by simp [List.getD, List.getElem?_eq_getElem ht]
  have hm : j ∈ F := by rw [← e, e1]; exact List.getElem_mem _
  refine ⟨hm, ?_⟩
  have hl := ix_lt.2 hm
  have hg := ix_get hm
  have e2 : F.getD (ix F j) 0 = F[ix F j] := by simp [List.getD, List.getElem?_eq_getElem hl]
  rcases Nat.lt_or_ge (ix F j) t with g | g
  · exact absurd (by rw [e2, hg]) (h _ g)
  · rcases Nat.lt_or_ge t (ix F j) with g' | g'
    · exfalso
      have hlt : t < F.idxOf j := g'
      have := List.not_of_lt_findIdx (p := fun x => x == j) (xs := F) (i := t) hlt
      rw [← e1, e] at this
      simp at this
    · omega
theorem ix_none {F : List Nat} {j : Nat} (h : ∀ i, i < F.length → F.getD i 0 ≠ j) : j ∉ F := by
  intro hm
  obtain ⟨i, hi, e⟩ := List.getElem_of_mem hm
  exact h i hi (by simp [List.getD, List.getElem?_eq_getElem hi, e])
theorem ref_lets (ss : List (List (Int × Int))) : ((lets ((cutsL ss).map fun n => refN (keyL ss n))).map fun (i : Nat) => (i : Int)) = letsL ss := by
  unfold letsL keysL
  congr 1
  refine lets_alike' _ _ _ fun a _ b _ => ⟨fun h => refN_inj _ _ (by rw [keyL_len, keyL_len]) h, fun h => by rw [h]⟩
theorem ref_next {ss : List (List (Int × Int))} (h : RtAll ss) (k : Nat) (hk : k + 1 < (cutsL ss).length) : refN (keyL ss ((cutsL ss).getD (k + 1) 0)) ≠ refN (keyL ss ((cutsL ss).getD k 0)) := by
  intro e
  have e' := refN_inj _ _ (by rw [keyL_len, keyL_len]) e
  apply lets_next h k hk
  rw [letsL_at ss _ hk, letsL_at ss _ (by omega), e']

set_option maxRecDepth 100000 in
set_option maxHeartbeats 8000000 in
theorem rcuts_any {w : World} {v : Value} {k0 : Nat} {ss : List (List (Int × Int))} (h : ReadsL w v k0 ss) (hr : RtAll ss) (hk0 : k0 ≤ 13) :
    Calls Try.prog 14 #[v] w (CutTells w (cutsL ss) (letsL ss)) := by
  have hm0 : (cutsL ss).length ≤ 1 + 13 * 1114112 := cutsL_len hr 13 (by rw [h.1]; exact hk0)
  have HE := Lib.hid (points_any h hr hk0)
  have HBL := Lib.hid (ref_lets ss)
  have HLL := Lib.hid (letsL_len ss)
  have HNX := Lib.hid (ref_next hr)
  have hv := h.form
  have H := Lib.hid h; clear h hr
  have HBD : Hid (∀ n, refN (keyL ss n) < 1000000000) := Lib.hid (fun n => by
    have h1 := refN_lt (keyL ss n)
    have h2 := (pow_le k0 hk0).2
    rw [keyL_len, H.out.1] at h1
    omega)
  obtain ⟨C, hC⟩ : ∃ C, C = cutsL ss := ⟨_, rfl⟩
  rw [← hC] at hm0 HE HBL HLL HNX
  rw [← hC]
  clear hC
  obtain ⟨a, cap, rfl, -, -, -⟩ := hv
  go_enter Try.func14, Try.ntmps14
  go_wp2_with fail
  refine HE.out.mono ?_
  rintro e w1 ⟨v1, rfl, h1, h2⟩
  have B1 := Lib.hid h2
  have O1 := Lib.hid h1
  have hz1 := h2.size
  have HW1 := Lib.hid (H.out.below h2)
  clear h1 h2 HE H
  have HKS : Hid ((C.map fun n => refN (keyL ss n)).length = C.length) := Lib.hid (by simp)
  have HKG : Hid (∀ k, k < C.length → (C.map fun n => refN (keyL ss n)).getD k 0 = refN (keyL ss (C.getD k 0))) := Lib.hid (fun k hk => by simp [List.getD, List.getElem?_eq_getElem hk])
  have HTK : Hid (∀ k, k < C.length → C.take (k + 1) = C.take k ++ [C.getD k 0]) := Lib.hid (fun k hk => by
    rw [List.take_succ_eq_append_getElem hk]; simp [List.getD, List.getElem?_eq_getElem hk])
  have HTA : Hid (C.take C.length = C) := Lib.hid List.take_length
  generalize hks : (C.map fun n => refN (keyL ss n)) = ks at *
  clear hks
  generalize hcm : C.length = m at *
  have HCM := Lib.hid hcm; clear hcm
  have R1 := Lib.hid O1.out.readsI
  obtain ⟨a1, cap1, rfl, hc1, hm1, -⟩ := R1.out.form
  go_wp2_with fail
  go_loopw [4, 5, 6, 8, 9] (fun s4 s5 s6 s8 i wr => ∃ (k n : Nat) (last : Int), k ≤ m ∧ n ≤ k ∧ i = .int .i64 k ∧ s8 = .int .i64 last ∧ Hid (Own wr w1.heap.size s4 k (C.take k)) ∧ Hid (Own wr w1.heap.size s5 k ((lets (ks.take k)).map fun (i : Nat) => (i : Int))) ∧ Hid (Own wr w1.heap.size s6 n ((firsts (ks.take k)).map fun (i : Nat) => (i : Int))) ∧ Hid (Apart s4 s5) ∧ Hid (Apart s4 s6) ∧ Hid (Apart s5 s6) ∧ Hid (k < m → ((ks.getD k 0 : Nat) : Int) ≠ last) ∧ Hid (Below w1.heap.size w1 wr)) (fun _ _ _ _ i _ => m - (intOf i).toNat)
  case atStart => exact ⟨0, 0, -1, Nat.zero_le _, Nat.le_refl _, rfl, rfl, Lib.hid (Own.nil _ _), Lib.hid (Own.nil _ _), Lib.hid (Own.nil _ _), Lib.hid Apart.nil, Lib.hid Apart.nil, Lib.hid Apart.nil, Lib.hid (fun _ => by omega), Lib.hid (Below.refl _ _)⟩
  case round =>
    obtain ⟨k, n, last, hk, hnk, rfl, rfl, H4, H5, H6, A45, A46, A56, HNL, HB⟩ := hrel
    have hz := HB.out.size
    have i0 : (0 : Int) ≤ (k : Int) := Int.natCast_nonneg _
    by_cases hlt : k < m
    · have i1 : (k : Int) < (m : Int) := by omega
      have t1 : decide (k < m) = true := by simpa using hlt
      obtain ⟨b, off, rfl, hbl, c1⟩ := R1.out.at k hlt
      have CW := Lib.hid c1
      have c1 := (HB.out.cell (p := ⟨b, off + k, none⟩) hbl).trans c1
      have hJ := HKG.out k hlt
      have HJ := Lib.hid hJ
      have hnl := HNL.out hlt
      obtain ⟨q1, q2⟩ := letsN_next ks k (by rw [HKS.out]; exact hlt)
      have LN := Lib.hid q1; have FN := Lib.hid q2; clear q1 q2
      have TN := Lib.hid (HTK.out k hlt)
      have HNN : Hid (k + 1 < m → ((ks.getD (k + 1) 0 : Nat) : Int) ≠ ((ks.getD k 0 : Nat) : Int)) := Lib.hid (fun g => by
        have := HNX.out k g
        rw [HKG.out k hlt, HKG.out (k + 1) g]
        omega)
      clear hJ
      generalize C.getD k 0 = x at *
      have hjb := HBD.out x
      have HO := Lib.hid (rkey_any (n := x) (HW1.out.below HB.out) hk0)
      rw [HJ.out] at LN FN hnl HNN
      generalize refN (keyL ss x) = j at *
      have hFl : (firsts (ks.take k)).length = n := by have := H6.out.len; simpa using this
      have HFl := Lib.hid hFl; clear hFl
      generalize hF : firsts (ks.take k) = F at *
      clear hF
      have hnl2 : ((j : Int) == last) = false := by simpa using hnl
      go_wp2_with fail
      refine HO.out.mono ?_
      rintro e w2 ⟨rfl, rfl⟩
      clear HO c1
      have HR6 := Lib.hid H6.out.readsI
      obtain ⟨a6, cap6, e6, hc6, hm6, -⟩ := HR6.out.form
      subst e6
      have HCK : Hid (∀ t, t < n → (F.map fun (i : Nat) => (i : Int)).getD t 0 = ((F.getD t 0 : Nat) : Int)) := Lib.hid (fun t ht => by
        have : t < F.length := by rw [HFl.out]; exact ht
        simp [List.getD, List.getElem?_eq_getElem this])
      go_wp2_with fail
      obtain ⟨W, hW⟩ : ∃ W, W = wr := ⟨_, rfl⟩
      rw [← hW] at H4 H5 H6 HB hz HR6 ⊢
      clear hW
      go_loopw [11] (fun s wr => ∃ (t : Nat), t ≤ n ∧ s = .int .i64 t ∧ Hid (∀ i, i < t → F.getD i 0 ≠ j) ∧ wr = W) (fun s _ => n - (intOf s).toNat)
      case atStart => exact ⟨0, Nat.zero_le _, rfl, Lib.hid (fun i hi => absurd hi (Nat.not_lt_zero i)), rfl⟩
      case round =>
        obtain ⟨t, ht, rfl, HT, rfl⟩ := hrel
        have t0 : (0 : Int) ≤ (t : Int) := Int.natCast_nonneg _
        by_cases hlt3 : t < n
        · have u1 : (t : Int) < (n : Int) := by omega
          have u2 : decide (t < n) = true := by simpa using hlt3
          have u3 : ((t : Int) == (n : Int)) = false := by simp; omega
          obtain ⟨b6, off6, rfl, hb6, d1⟩ := HR6.out.at t hlt3
          rw [HCK.out t hlt3] at d1
          have HIX := Lib.hid (fun e => ix_first (F := F) (j := j) (t := t) (by rw [HFl.out]; exact hlt3) HT.out e)
          have HNT : Hid (F.getD t 0 ≠ j → ∀ i, i < t + 1 → F.getD i 0 ≠ j) := Lib.hid (fun hne i hi => by
            rcases Nat.lt_or_ge i t with g | g
            · exact HT.out i g
            · obtain rfl : i = t := by omega
              exact hne)
          generalize F.getD t 0 = z at *
          by_cases hzj : z = j
          · subst hzj
            obtain ⟨hin, hix⟩ := HIX.out rfl
            have HIN := Lib.hid hin; have HIXX := Lib.hid hix; clear hin hix
            have c1 := (HB.out.cell (p := ⟨b, off + k, none⟩) hbl).trans CW.out
            have hzz := hz
            have HBz := HB
            have HH6 := H6
            have AA46 := A46
            have AA56 := A56
            go_wp2_with (first
              | (at_builtin; refine wpList_push rfl (.tmp 52) (.tmp 57) rfl w1.heap.size _ _ _ _ _ (by rfl) H4.out (by rfl) (by omega) hzz ?_
                 intro g4 c4 w4 hp4
                 have HP4 := Lib.hid hp4
                 have H5' := Lib.hid (hp4.other A45.out H5.out)
                 have H6' := Lib.hid (hp4.other AA46.out HH6.out)
                 have HB4 := Lib.hid (hp4.below HBz.out (Nat.le_refl _) hzz)
                 have hz4 := HB4.out.size
                 clear hp4)
              | (at_builtin; refine wpList_push rfl (.tmp 59) (.tmp 61) rfl w1.heap.size _ _ _ _ _ (by rfl) H5'.out.1 (by rfl) (by omega) hz4 ?_
                 intro g5 c5 w5 hp5
                 have HP5 := Lib.hid hp5
                 have H4' := Lib.hid (hp5.other H5'.out.2.symm HP4.out.own)
                 have H6'' := Lib.hid (hp5.other AA56.out H6'.out.1)
                 have HB5 := Lib.hid (hp5.below HB4.out (Nat.le_refl _) hz4)
                 clear hp5))
            refine ⟨⟨k + 1, n, (z : Int), by omega, by omega, by go_num, rfl, Lib.hid (H4'.out.1.cast rfl (by rw [TN.out])), Lib.hid (HP5.out.own.cast rfl (by rw [LN.out, if_pos HIN.out, HIXX.out])), Lib.hid (H6''.out.1.cast rfl (by rw [FN.out, if_pos HIN.out])), Lib.hid H4'.out.2.symm, Lib.hid H6'.out.2, Lib.hid H6''.out.2, HNN, HB5⟩, by simp [intOf]; omega⟩
            
          · have z1 : ((z : Int) == (j : Int)) = false := by simp; omega
            have z2 : ((z : Int) != (j : Int)) = true := by simp; omega
            have z3 : ¬ (z : Int) = (j : Int) := by omega
            go_wp2_with fail
            exact ⟨⟨t + 1, by omega, by go_num, Lib.hid (HNT.out hzj), trivial⟩, by simp [intOf]; omega⟩
        · have htn : t = n := by omega
          have u1 : ¬ (t : Int) < (n : Int) := by omega
          have u2 : decide (t < n) = false := by simpa using hlt3
          have u3 : ((t : Int) == (n : Int)) = true := by simp; omega
          have HNI : Hid (j ∉ F) := Lib.hid (ix_none (fun i hi => HT.out i (by rw [HFl.out] at hi; omega)))
          have c1 := (HB.out.cell (p := ⟨b, off + k, none⟩) hbl).trans CW.out
          subst htn
          go_wp2_with (first
            | (at_builtin; refine wpList_push rfl (.tmp 48) (.tmp 50) rfl w1.heap.size _ _ _ _ _ (by rfl) H6.out (by rfl) (by omega) hz ?_
               intro g6 c6 w6 hp6
               have HP6 := Lib.hid hp6
               have Q4 := Lib.hid (hp6.other A46.out.symm H4.out)
               have Q5 := Lib.hid (hp6.other A56.out.symm H5.out)
               have HBz := Lib.hid (hp6.below HB.out (Nat.le_refl _) hz)
               have hzz := HBz.out.size
               have c1' := (HBz.out.cell (p := ⟨b, off + k, none⟩) hbl).trans CW.out
               clear hp6 c1
               clear H4 H5
               have H4 := Lib.hid Q4.out.1
               have H5 := Lib.hid Q5.out.1
               have HH6 := Lib.hid HP6.out.own
               have AA46 := Lib.hid Q4.out.2.symm
               have AA56 := Lib.hid Q5.out.2.symm)
            | (at_builtin; refine wpList_push rfl (.tmp 52) (.tmp 57) rfl w1.heap.size _ _ _ _ _ (by rfl) H4.out (by rfl) (by omega) hzz ?_
               intro g4 c4 w4 hp4
               have HP4 := Lib.hid hp4
               have H5' := Lib.hid (hp4.other A45.out H5.out)
               have H6' := Lib.hid (hp4.other AA46.out HH6.out)
               have HB4 := Lib.hid (hp4.below HBz.out (Nat.le_refl _) hzz)
               have hz4 := HB4.out.size
               clear hp4)
            | (at_builtin; refine wpList_push rfl (.tmp 59) (.tmp 61) rfl w1.heap.size _ _ _ _ _ (by rfl) H5'.out.1 (by rfl) (by omega) hz4 ?_
               intro g5 c5 w5 hp5
               have HP5 := Lib.hid hp5
               have H4' := Lib.hid (hp5.other H5'.out.2.symm HP4.out.own)
               have H6'' := Lib.hid (hp5.other AA56.out H6'.out.1)
               have HB5 := Lib.hid (hp5.below HB4.out (Nat.le_refl _) hz4)
               clear hp5))
          refine ⟨⟨k + 1, t + 1, (j : Int), by omega, by omega, by go_num, rfl, Lib.hid (H4'.out.1.cast rfl (by rw [TN.out])), Lib.hid (HP5.out.own.cast rfl (by rw [LN.out, if_neg HNI.out, HFl.out])), Lib.hid (H6''.out.1.cast rfl (by rw [FN.out, if_neg HNI.out, List.map_append, List.map_cons, List.map_nil])), Lib.hid H4'.out.2.symm, Lib.hid H6'.out.2, Lib.hid H6''.out.2, HNN, HB5⟩, by simp [intOf]; omega⟩
          
    · have hkm : k = m := by omega
      have e1 : ks.take k = ks := List.take_of_length_le (by rw [HKS.out]; omega)
      have HE1 := Lib.hid e1; clear e1
      have HKM := Lib.hid hkm; clear hkm
      go_wp2_with fail
      go_ret2
      refine ⟨_, _, rfl, ?_, ?_, ?_⟩
      · exact ((H4.out.more hz1).cast (by rw [HKM.out, HCM.out]) (by rw [HKM.out, HTA.out]))
      · exact ((H5.out.more hz1).cast (by rw [HKM.out, HLL.out]) (by rw [HE1.out, HBL.out]))
      · exact B1.out.trans (HB.out.mono hz1)

end Go.Proofs.Ythbnhdocjnhhlaa
