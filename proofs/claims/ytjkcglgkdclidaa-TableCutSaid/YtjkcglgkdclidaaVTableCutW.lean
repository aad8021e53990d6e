/- TableCut: bytes that are cut off, or go on, are none. -/
import Derived.Test.YtjkcglgkdclidaaVTableTb
import Derived.Test.YtjkcglgkdclidaaVTableTa
import Derived.Test.YtjkcglgkdclidaaVTableTt
set_option linter.unusedVariables false
set_option linter.unusedSimpArgs false
set_option maxRecDepth 100000
set_option maxHeartbeats 8000000
namespace Go.Proofs.Ytjkcglgkdclidaa
open Go Go.RowKit Go.Proofs
theorem tableCut_walk (a0 : Int) (a1 : Int) (a2 : Option Addr) (len2 cap2 : Nat) (z2 : List Int) (a3 : Option Addr) (len3 cap3 : Nat) (z3 : List Int) (a4 : Option Addr) (len4 cap4 : Nat) (z4 : List Int) (a5 : Int) (a6 : Option Addr) (len6 cap6 : Nat) (z6 : List Int) (w : World) (w0 : (Lit.int .i64 a0).wf = true) (w1 : (Lit.int .i64 a1).wf = true) (w2 : IsRow .i64 w a2 len2 cap2 z2) (w3 : IsRow .i64 w a3 len3 cap3 z3) (w4 : IsRow .i64 w a4 len4 cap4 z4) (w5 : (Lit.int .i64 a5).wf = true) (w6 : IsRow .u8 w a6 len6 cap6 z6) :
  Calls Try.prog 8 #[.int .i64 a0, .int .i64 a1, .slice a2 len2 cap2, .slice a3 len3 cap3, .slice a4 len4 cap4, .int .i64 a5, .slice a6 len6 cap6] w fun e w' => e = .returned (.bool true) /\ Below w.heap.size w w' := by
  have Y6 := Lib.hid w6.bytes
  have hl6 := w6.len_le.2
  have hk := kOf_is a0; have hn := nOf_is a1; have hk9 := kOf_lt a0; have hn9 := nOf_lt a1
  obtain ⟨k, ek⟩ : ∃ k, kOf a0 = k := ⟨_, rfl⟩
  obtain ⟨n, en⟩ : ∃ n, nOf a1 = n := ⟨_, rfl⟩
  rw [ek] at hk hk9
  rw [en] at hn hn9
  clear ek en
  obtain ⟨k0, k9⟩ := hk9
  obtain ⟨n0, n9⟩ := hn9
  have HK := Lib.hid hk; have HN := Lib.hid hn
  have R2 := Lib.hid w2.readsI
  have R3 := Lib.hid w3.readsI
  have R4 := Lib.hid w4.readsI
  clear hk hn w0 w1 w2 w3 w4
  clear w5 w6
  obtain ⟨mo, hmo⟩ : ∃ l, z6.take len6 = l := ⟨_, rfl⟩
  rw [hmo] at Y6
  have HLM : Hid (mo.length = len6) := Lib.hid Y6.out.1.1
  clear hmo
  go_enter Try.func8, Try.ntmps8
  go_wp2_with fail
  refine (tknown_any _).mono ?_
  rintro e V1 ⟨rfl, hb⟩
  replace R2 := Lib.hid (R2.out.below hb)
  replace R3 := Lib.hid (R3.out.below hb)
  replace R4 := Lib.hid (R4.out.below hb)
  replace Y6 := Lib.hid (Y6.out.below hb)
  have HB := Lib.hid hb
  clear hb
  by_cases h60 : 60 < len6
  ·have h61 : (60 : Int) < (len6 : Int) := by omega
   go_wp2_with fail
   go_ret
   exact ⟨rfl, HB.out⟩
  have h61 : ¬ (60 : Int) < (len6 : Int) := by omega
  go_wp2_with fail
  refine (make_any R2.out R3.out R4.out a0 a1 HK.out HN.out).mono ?_
  rintro e V2 ⟨vc, vl, vbn, vbo, vfn, vfe, rfl, ht, hb⟩
  replace Y6 := Lib.hid (Y6.out.below hb)
  replace HB := Lib.hid (HB.out.trans (hb.mono HB.out.size))
  clear hb
  have hrt := lawTab_right (ns := (z2.take len2)) (ms := (z3.take len3)) (cs := (z4.take len4)) k0 (by omega) n0 (by omega)
  have hel := lawTab_len (ns := (z2.take len2)) (ms := (z3.take len3)) (cs := (z4.take len4)) k0 k9 n0 n9
  obtain ⟨tt, htt⟩ : ∃ t, lawTab (z2.take len2) (z3.take len3) (z4.take len4) k n = t := ⟨_, rfl⟩
  rw [htt] at ht hrt hel
  have HRt := Lib.hid hrt; have HEt := Lib.hid hel; have HTt := Lib.hid ht
  clear htt hrt hel ht R2 R3 R4
  go_wp2_with fail
  refine (tsave_any HTt.out (fun _ => (Nat.le_trans HEt.out (by decide)))).mono ?_
  rintro e V3 ⟨u, rfl, hsv, -, hb⟩
  have HU := Lib.hid (hsv HRt.out)
  replace Y6 := Lib.hid (Y6.out.below hb)
  clear hsv HTt
  replace HB := Lib.hid (HB.out.trans (hb.mono HB.out.size))
  clear hb
  obtain ⟨A7, c7, e7, lc7, lc7'⟩ := HU.out.slice
  subst e7
  have HBY := Lib.hid (HU.out.bytes (saveT_byte tt))
  have hbyt := saveT_byte tt
  have hn79 := saveT_len tt
  obtain ⟨sv, hsv⟩ : ∃ l, saveT tt = l := ⟨_, rfl⟩
  rw [hsv] at HU HBY hbyt hn79 lc7 ⊢
  obtain ⟨n7, hn7⟩ : ∃ n, sv.length = n := ⟨_, rfl⟩
  rw [hn7] at HU HBY hn79 lc7 ⊢
  have HN7 := Lib.hid hn7; have HSV := Lib.hid hsv; have HBYT := Lib.hid hbyt
  have hn8 : 8 <= n7 := by omega
  have hn7m : n7 <= 80008 := by have := HEt.out; omega
  have HEV : Hid (n7 % 8 = 0) := Lib.hid (by omega)
  clear hn7 hsv hbyt hn79
  have g8 : ¬ (n7 : Int) < 8 := by omega
  go_wp2_with fail
  refine (twithin2_any a5 (n7 : Int) (by omega) (by omega) V3).mono ?_
  rintro e V3' ⟨rfl, hV⟩
  subst V3'
  obtain ⟨j, hj⟩ : ∃ j : Nat, a5 % (n7 : Int) = (j : Int) := ⟨(a5 % (n7 : Int)).toNat, by have := Int.emod_nonneg a5 (show (n7 : Int) ≠ 0 by omega); omega⟩
  have hjl : (j : Int) < (n7 : Int) := by rw [<- hj]; exact Int.emod_lt_of_pos _ (by omega)
  rw [hj]
  clear hj
  have j0 : (0 : Int) <= (j : Int) := Int.natCast_nonneg _
  have j1 : j <= n7 := by omega
  have j2 : j <= c7 := by omega
  have j3 : (j : Int) <= (c7 : Int) := by omega
  have j4 : (j : Int) <= (n7 : Int) := by omega
  have HBK := Lib.hid (HBY.out.pre (k := j) j1)
  go_wp2_with fail
  refine (tload_told HBK.out (by omega)).mono ?_
  rintro e V4 ⟨hte, hb⟩
  unfold ToldE at hte
  obtain ⟨A0p, A1p, A2p, A3p, A4p, A5p, n0p, n1p, n2p, n3p, n4p, n5p, c0p, c1p, c2p, c3p, c4p, c5p, isp, tp, rfl, htp, htr⟩ := hte
  replace HU := Lib.hid (HU.out.below hb)
  replace HBY := Lib.hid (HBY.out.below hb)
  replace HBK := Lib.hid (HBK.out.below hb)
  replace Y6 := Lib.hid (Y6.out.below hb)
  have HPp := Lib.hid htp; have HTp := Lib.hid htr
  replace HB := Lib.hid (HB.out.trans (hb.mono HB.out.size))
  clear hb
  clear htp htr
  obtain ⟨bp, hbe⟩ : ∃ b, V4.heap.size = b := ⟨_, rfl⟩
  obtain ⟨V5, hW⟩ : ∃ W, V4.alloc (.cells #[.slice A0p n0p c0p, .slice A1p n1p c1p, .slice A2p n2p c2p, .slice A3p n3p c3p, .slice A4p n4p c4p, .slice A5p n5p c5p] 31) = W := ⟨_, rfl⟩
  have hb : Below V4.heap.size V4 V5 := by rw [<- hW]; exact (Below.refl _ _).alloc (Nat.le_refl _) _
  have Xp : Hid (Blk V5 bp 31 #[.slice A0p n0p c0p, .slice A1p n1p c1p, .slice A2p n2p c2p, .slice A3p n3p c3p, .slice A4p n4p c4p, .slice A5p n5p c5p]) := Lib.hid (by rw [<- hW]; exact Blk.newAt _ hbe _ _)
  replace HU := Lib.hid (HU.out.below hb)
  replace HBY := Lib.hid (HBY.out.below hb)
  replace HBK := Lib.hid (HBK.out.below hb)
  replace Y6 := Lib.hid (Y6.out.below hb)
  replace HTp := Lib.hid (HTp.out.below hb)
  replace HB := Lib.hid (HB.out.trans (hb.mono HB.out.size))
  clear hb
  have HWp := Lib.hid hW; have HBEp := Lib.hid hbe
  clear hW hbe
  go_wp2_with fail
  rw [HWp.out]
  try simp only [HBEp.out]
  refine (rload_told HBK.out).mono ?_
  rintro e V6 ⟨hte, hb⟩
  unfold ToldE at hte
  obtain ⟨A0q, A1q, A2q, A3q, A4q, A5q, n0q, n1q, n2q, n3q, n4q, n5q, c0q, c1q, c2q, c3q, c4q, c5q, isq, tq, rfl, htp, htr⟩ := hte
  replace HU := Lib.hid (HU.out.below hb)
  replace HBY := Lib.hid (HBY.out.below hb)
  replace HBK := Lib.hid (HBK.out.below hb)
  replace Y6 := Lib.hid (Y6.out.below hb)
  have HPq := Lib.hid htp; have HTq := Lib.hid htr
  replace HB := Lib.hid (HB.out.trans (hb.mono HB.out.size))
  clear hb
  clear htp htr
  obtain ⟨bq, hbe⟩ : ∃ b, V6.heap.size = b := ⟨_, rfl⟩
  obtain ⟨V7, hW⟩ : ∃ W, V6.alloc (.cells #[.slice A0q n0q c0q, .slice A1q n1q c1q, .slice A2q n2q c2q, .slice A3q n3q c3q, .slice A4q n4q c4q, .slice A5q n5q c5q] 31) = W := ⟨_, rfl⟩
  have hb : Below V6.heap.size V6 V7 := by rw [<- hW]; exact (Below.refl _ _).alloc (Nat.le_refl _) _
  have Xq : Hid (Blk V7 bq 31 #[.slice A0q n0q c0q, .slice A1q n1q c1q, .slice A2q n2q c2q, .slice A3q n3q c3q, .slice A4q n4q c4q, .slice A5q n5q c5q]) := Lib.hid (by rw [<- hW]; exact Blk.newAt _ hbe _ _)
  replace HU := Lib.hid (HU.out.below hb)
  replace HBY := Lib.hid (HBY.out.below hb)
  replace HBK := Lib.hid (HBK.out.below hb)
  replace Y6 := Lib.hid (Y6.out.below hb)
  replace HTq := Lib.hid (HTq.out.below hb)
  replace HB := Lib.hid (HB.out.trans (hb.mono HB.out.size))
  clear hb
  have HWq := Lib.hid hW; have HBEq := Lib.hid hbe
  clear hW hbe
  obtain ⟨hq1, hq2⟩ := HPp.out.uniq HPq.out
  subst isq
  clear hq2 HTp HTq HPq Xp Xq HWp HBEp
  have HZ : Hid (V7.heap.size = V6.heap.size + 1) := Lib.hid (by rw [<- HWq.out, World.size_alloc])
  have HOUT : Hid (BRow (V7.alloc (.cells #[] 5)) V7.heap.size (.slice (some ⟨V6.heap.size + 1, 0, none⟩) 0 0) []) := Lib.hid (by rw [<- HZ.out]; exact BRow.none_ V7)
  have HBA : Hid (Below V7.heap.size V7 (V7.alloc (.cells #[] 5))) := Lib.hid ((Below.refl _ _).alloc (Nat.le_refl _) _)
  have HYA := Lib.hid (HBY.out.below HBA.out)
  go_wp2_with (first | (at_builtin; rw [HWq.out]; refine wpList_concatB rfl (.tmp 61) (.tmp 62) rfl V7.heap.size (.slice (some ⟨V6.heap.size + 1, 0, none⟩) 0 0) 0 [] (by rfl) HOUT.out (.slice A7 n7 c7) n7 sv (by rfl) HYA.out.1 (by omega) (by simp) ?_; intro v' W8 ho hg ha; have ho' : BRow W8 V7.heap.size v' sv := BRow.of_own ho (by rw [Nat.zero_add]; exact HN7.out); have HBX : Hid (Below V7.heap.size V7 W8) := Lib.hid (HBA.out.grown hg (by simp) (fun q hq => by simp only [Value.ownBlock, Option.some.injEq] at hq; have := HZ.out; omega)); obtain ⟨A8, c8, ev, lc8, lc8'⟩ := ho'.slice; rw [HN7.out] at ev; subst ev; have HO8 := Lib.hid ho'; clear ho hg ha ho' HOUT HBA HYA HZ) | (at_builtin; refine wpList_concatB rfl (.tmp 63) (.tmp 64) rfl V7.heap.size (.slice A8 n7 c8) sv.length sv (by rfl) HO8.out (.slice a6 len6 cap6) len6 mo (by rfl) (Y6.out.below HBX.out).1 (by have := HN7.out; omega) HBX.out.size ?_; intro v' W9 ho hg ha; have ho' : BRow W9 V7.heap.size v' (sv ++ mo) := BRow.of_own ho (by rw [List.length_append, HLM.out]); have hlt := HO8.out.lt; have HBX2 : Hid (Below V7.heap.size V7 W9) := Lib.hid (HBX.out.grown hg HBX.out.size (fun q hq => (hlt q hq).1)); obtain ⟨A9, c9, ev, lc9, lc9'⟩ := ho'.slice; rw [List.length_append, HN7.out, HLM.out] at ev; subst ev; have HO9 := Lib.hid ho'; clear ho hg ha ho' hlt HO8 HBX))
  have hb := HBX2.out
  replace HU := Lib.hid (HU.out.below hb)
  replace HBY := Lib.hid (HBY.out.below hb)
  replace HBK := Lib.hid (HBK.out.below hb)
  replace Y6 := Lib.hid (Y6.out.below hb)
  replace HB := Lib.hid (HB.out.trans (hb.mono HB.out.size))
  clear hb
  have HBM := Lib.hid (HO9.out.bytes (byte_app HBYT.out Y6.out.2))
  rw [List.length_append, HN7.out, HLM.out] at HBM
  clear HBX2 HO9
  refine (tload_told HBM.out (by omega)).mono ?_
  rintro e V10 ⟨hte, hb⟩
  unfold ToldE at hte
  obtain ⟨A0r, A1r, A2r, A3r, A4r, A5r, n0r, n1r, n2r, n3r, n4r, n5r, c0r, c1r, c2r, c3r, c4r, c5r, isr, tr, rfl, htp, htr⟩ := hte
  replace HU := Lib.hid (HU.out.below hb)
  replace HBY := Lib.hid (HBY.out.below hb)
  replace HBK := Lib.hid (HBK.out.below hb)
  replace Y6 := Lib.hid (Y6.out.below hb)
  have HPr := Lib.hid htp; have HTr := Lib.hid htr
  replace HB := Lib.hid (HB.out.trans (hb.mono HB.out.size))
  clear hb
  clear htp htr
  obtain ⟨br, hbe⟩ : ∃ b, V10.heap.size = b := ⟨_, rfl⟩
  obtain ⟨V11, hW⟩ : ∃ W, V10.alloc (.cells #[.slice A0r n0r c0r, .slice A1r n1r c1r, .slice A2r n2r c2r, .slice A3r n3r c3r, .slice A4r n4r c4r, .slice A5r n5r c5r] 31) = W := ⟨_, rfl⟩
  have hb : Below V10.heap.size V10 V11 := by rw [<- hW]; exact (Below.refl _ _).alloc (Nat.le_refl _) _
  have Xr : Hid (Blk V11 br 31 #[.slice A0r n0r c0r, .slice A1r n1r c1r, .slice A2r n2r c2r, .slice A3r n3r c3r, .slice A4r n4r c4r, .slice A5r n5r c5r]) := Lib.hid (by rw [<- hW]; exact Blk.newAt _ hbe _ _)
  replace HU := Lib.hid (HU.out.below hb)
  replace HBY := Lib.hid (HBY.out.below hb)
  replace HBK := Lib.hid (HBK.out.below hb)
  replace Y6 := Lib.hid (Y6.out.below hb)
  replace HTr := Lib.hid (HTr.out.below hb)
  replace HB := Lib.hid (HB.out.trans (hb.mono HB.out.size))
  clear hb
  have HWr := Lib.hid hW; have HBEr := Lib.hid hbe
  clear hW hbe
  clear HBM lc8 lc8' lc9 lc9'
  have HZ : Hid (V11.heap.size = V10.heap.size + 1) := Lib.hid (by rw [<- HWr.out, World.size_alloc])
  have HOUT : Hid (BRow (V11.alloc (.cells #[] 5)) V11.heap.size (.slice (some ⟨V10.heap.size + 1, 0, none⟩) 0 0) []) := Lib.hid (by rw [<- HZ.out]; exact BRow.none_ V11)
  have HBA : Hid (Below V11.heap.size V11 (V11.alloc (.cells #[] 5))) := Lib.hid ((Below.refl _ _).alloc (Nat.le_refl _) _)
  have HYA := Lib.hid (HBY.out.below HBA.out)
  go_wp2_with (first | (at_builtin; rw [HWr.out]; refine wpList_concatB rfl (.tmp 70) (.tmp 71) rfl V11.heap.size (.slice (some ⟨V10.heap.size + 1, 0, none⟩) 0 0) 0 [] (by rfl) HOUT.out (.slice A7 n7 c7) n7 sv (by rfl) HYA.out.1 (by omega) (by simp) ?_; intro v' W12 ho hg ha; have ho' : BRow W12 V11.heap.size v' sv := BRow.of_own ho (by rw [Nat.zero_add]; exact HN7.out); have HBX : Hid (Below V11.heap.size V11 W12) := Lib.hid (HBA.out.grown hg (by simp) (fun q hq => by simp only [Value.ownBlock, Option.some.injEq] at hq; have := HZ.out; omega)); obtain ⟨A8, c8, ev, lc8, lc8'⟩ := ho'.slice; rw [HN7.out] at ev; subst ev; have HO8 := Lib.hid ho'; clear ho hg ha ho' HOUT HBA HYA HZ) | (at_builtin; refine wpList_concatB rfl (.tmp 72) (.tmp 73) rfl V11.heap.size (.slice A8 n7 c8) sv.length sv (by rfl) HO8.out (.slice a6 len6 cap6) len6 mo (by rfl) (Y6.out.below HBX.out).1 (by have := HN7.out; omega) HBX.out.size ?_; intro v' W13 ho hg ha; have ho' : BRow W13 V11.heap.size v' (sv ++ mo) := BRow.of_own ho (by rw [List.length_append, HLM.out]); have hlt := HO8.out.lt; have HBX2 : Hid (Below V11.heap.size V11 W13) := Lib.hid (HBX.out.grown hg HBX.out.size (fun q hq => (hlt q hq).1)); obtain ⟨A9, c9, ev, lc9, lc9'⟩ := ho'.slice; rw [List.length_append, HN7.out, HLM.out] at ev; subst ev; have HO9 := Lib.hid ho'; clear ho hg ha ho' hlt HO8 HBX))
  have hb := HBX2.out
  replace HU := Lib.hid (HU.out.below hb)
  replace HBY := Lib.hid (HBY.out.below hb)
  replace HBK := Lib.hid (HBK.out.below hb)
  replace Y6 := Lib.hid (Y6.out.below hb)
  replace HB := Lib.hid (HB.out.trans (hb.mono HB.out.size))
  clear hb
  have HBM := Lib.hid (HO9.out.bytes (byte_app HBYT.out Y6.out.2))
  rw [List.length_append, HN7.out, HLM.out] at HBM
  clear HBX2 HO9
  refine (rload_told HBM.out).mono ?_
  rintro e V14 ⟨hte, hb⟩
  unfold ToldE at hte
  obtain ⟨A0s, A1s, A2s, A3s, A4s, A5s, n0s, n1s, n2s, n3s, n4s, n5s, c0s, c1s, c2s, c3s, c4s, c5s, iss, ts, rfl, htp, htr⟩ := hte
  replace HU := Lib.hid (HU.out.below hb)
  replace HBY := Lib.hid (HBY.out.below hb)
  replace HBK := Lib.hid (HBK.out.below hb)
  replace Y6 := Lib.hid (Y6.out.below hb)
  have HPs := Lib.hid htp; have HTs := Lib.hid htr
  replace HB := Lib.hid (HB.out.trans (hb.mono HB.out.size))
  clear hb
  clear htp htr
  obtain ⟨bs, hbe⟩ : ∃ b, V14.heap.size = b := ⟨_, rfl⟩
  obtain ⟨V15, hW⟩ : ∃ W, V14.alloc (.cells #[.slice A0s n0s c0s, .slice A1s n1s c1s, .slice A2s n2s c2s, .slice A3s n3s c3s, .slice A4s n4s c4s, .slice A5s n5s c5s] 31) = W := ⟨_, rfl⟩
  have hb : Below V14.heap.size V14 V15 := by rw [<- hW]; exact (Below.refl _ _).alloc (Nat.le_refl _) _
  have Xs : Hid (Blk V15 bs 31 #[.slice A0s n0s c0s, .slice A1s n1s c1s, .slice A2s n2s c2s, .slice A3s n3s c3s, .slice A4s n4s c4s, .slice A5s n5s c5s]) := Lib.hid (by rw [<- hW]; exact Blk.newAt _ hbe _ _)
  replace HU := Lib.hid (HU.out.below hb)
  replace HBY := Lib.hid (HBY.out.below hb)
  replace HBK := Lib.hid (HBK.out.below hb)
  replace Y6 := Lib.hid (Y6.out.below hb)
  replace HTs := Lib.hid (HTs.out.below hb)
  replace HB := Lib.hid (HB.out.trans (hb.mono HB.out.size))
  clear hb
  have HWs := Lib.hid hW; have HBEs := Lib.hid hbe
  clear hW hbe
  obtain ⟨hq1, hq2⟩ := HPr.out.uniq HPs.out
  subst iss
  clear hq2 HTr HTs HPs Xr Xs HWr HBEr HBM lc8 lc8' lc9 lc9'
  obtain ⟨m7, hm7⟩ : ∃ m, n7 - 8 = m := ⟨_, rfl⟩
  have w1 : IntKind.i64.wrap ((n7 : Int) - 8) = (m7 : Int) := by rw [show (n7 : Int) - 8 = (m7 : Int) by omega]; exact IntWalk.i64_in _ (by omega)
  have w2 : (m7 : Int) <= (n7 : Int) := by omega
  have w3 : (m7 : Int) <= (c7 : Int) := by omega
  have w4 : m7 <= n7 := by omega
  have w5 : m7 <= c7 := by omega
  have w6 : (0 : Int) <= (m7 : Int) := Int.natCast_nonneg _
  have hpre := HBY.out.pre (k := m7) w4
  have hbob := byte_take HBYT.out m7
  have hbol : (sv.take m7).length = m7 := by rw [List.length_take, HN7.out]; omega
  obtain ⟨bo, hbo⟩ : ∃ l, sv.take m7 = l := ⟨_, rfl⟩
  rw [hbo] at hpre hbob hbol
  have HPRE := Lib.hid hpre; have HBOB := Lib.hid hbob; have HBOL := Lib.hid hbol
  clear hpre hbob hbol hbo
  have HZ : Hid (V15.heap.size = V14.heap.size + 1) := Lib.hid (by rw [<- HWs.out, World.size_alloc])
  have HOUT : Hid (BRow (V15.alloc (.cells #[] 5)) V15.heap.size (.slice (some ⟨V14.heap.size + 1, 0, none⟩) 0 0) []) := Lib.hid (by rw [<- HZ.out]; exact BRow.none_ V15)
  have HBA : Hid (Below V15.heap.size V15 (V15.alloc (.cells #[] 5))) := Lib.hid ((Below.refl _ _).alloc (Nat.le_refl _) _)
  have HYA := Lib.hid (HPRE.out.below HBA.out)
  go_wp2_with (first | (at_builtin; rw [HWs.out]; refine wpList_concatB rfl (.tmp 79) (.tmp 84) rfl V15.heap.size (.slice (some ⟨V14.heap.size + 1, 0, none⟩) 0 0) 0 [] (by rfl) HOUT.out (.slice A7 m7 c7) m7 bo (by rfl) HYA.out.1 (by omega) (by simp) ?_; intro v' W16 ho hg ha; have ho' : BRow W16 V15.heap.size v' bo := BRow.of_own ho (by rw [Nat.zero_add]; exact HBOL.out); have HBX : Hid (Below V15.heap.size V15 W16) := Lib.hid (HBA.out.grown hg (by simp) (fun q hq => by simp only [Value.ownBlock, Option.some.injEq] at hq; have := HZ.out; omega)); obtain ⟨A8, c8, ev, lc8, lc8'⟩ := ho'.slice; rw [HBOL.out] at ev; subst ev; have HO8 := Lib.hid ho'; clear ho hg ha ho' HOUT HBA HYA HZ) | (at_builtin; refine wpList_pushE (enc := encB) rfl (.tmp 85) (.tmp 86) 34 rfl 1 _ Try.underlying34 info_byte rfl (by omega) (by omega) V15.heap.size W16 (.slice A8 m7 c8) bo.length bo 0 _ rfl rfl (by simp [encB, Value.oneCell']) (by rfl) HO8.out W16.heap.size (by rfl) rfl (by have := HBOL.out; omega) HBX.out.size ?_; intro g9 cap9 W17 hp9; have ho' : BRow W17 V15.heap.size _ (bo ++ [0]) := BRow.of_own hp9.own (by rw [List.length_append]; rfl); have hlt := HO8.out.lt; have HBX2 : Hid (Below V15.heap.size V15 W17) := Lib.hid (HBX.out.grown hp9.grow HBX.out.size (fun q hq => (hlt q hq).1)); have HO9 := Lib.hid ho'; clear hp9 ho' hlt HO8 HBX))
  have hb := HBX2.out
  replace HU := Lib.hid (HU.out.below hb)
  replace HBY := Lib.hid (HBY.out.below hb)
  replace HBK := Lib.hid (HBK.out.below hb)
  replace Y6 := Lib.hid (Y6.out.below hb)
  replace HB := Lib.hid (HB.out.trans (hb.mono HB.out.size))
  clear hb
  have HBZ9 := Lib.hid (HO9.out.bytes (byte_app HBOB.out (fun x hx => by simp only [List.mem_singleton] at hx; subst hx; unfold ByteI; omega)))
  have hlz : (bo ++ [0]).length = m7 + 1 := by rw [List.length_append, HBOL.out]; rfl
  have HLZ := Lib.hid hlz
  refine (summed_any HBZ9.out (by rw [hlz]; omega)).mono ?_
  rintro e V18 ⟨u9, rfl, ho9, hb⟩
  replace HU := Lib.hid (HU.out.below hb)
  replace HBY := Lib.hid (HBY.out.below hb)
  replace HBK := Lib.hid (HBK.out.below hb)
  replace Y6 := Lib.hid (Y6.out.below hb)
  replace HB := Lib.hid (HB.out.trans (hb.mono HB.out.size))
  clear hb
  have hby9 := ho9.bytes (byte_app HBZ9.out.2 (be8_byte _))
  have hl9 : (bo ++ [0] ++ be8 (sumI (bo ++ [0]))).length = m7 + 9 := by rw [List.length_append, hlz, be8_len]
  have HBY9 := Lib.hid hby9; have HL9 := Lib.hid hl9
  clear ho9 hby9 HO9 HBX2 hlz hl9
  go_wp2_with fail
  refine (tload_told HBY9.out (by rw [HL9.out]; omega)).mono ?_
  rintro e V19 ⟨hte, hb⟩
  unfold ToldE at hte
  obtain ⟨A0x, A1x, A2x, A3x, A4x, A5x, n0x, n1x, n2x, n3x, n4x, n5x, c0x, c1x, c2x, c3x, c4x, c5x, isx, tx, rfl, htp, htr⟩ := hte
  replace HU := Lib.hid (HU.out.below hb)
  replace HBY := Lib.hid (HBY.out.below hb)
  replace HBK := Lib.hid (HBK.out.below hb)
  replace Y6 := Lib.hid (Y6.out.below hb)
  have HPx := Lib.hid htp; have HTx := Lib.hid htr
  replace HB := Lib.hid (HB.out.trans (hb.mono HB.out.size))
  clear hb
  clear htp htr
  obtain ⟨bx, hbe⟩ : ∃ b, V19.heap.size = b := ⟨_, rfl⟩
  obtain ⟨V20, hW⟩ : ∃ W, V19.alloc (.cells #[.slice A0x n0x c0x, .slice A1x n1x c1x, .slice A2x n2x c2x, .slice A3x n3x c3x, .slice A4x n4x c4x, .slice A5x n5x c5x] 31) = W := ⟨_, rfl⟩
  have hb : Below V19.heap.size V19 V20 := by rw [<- hW]; exact (Below.refl _ _).alloc (Nat.le_refl _) _
  have Xx : Hid (Blk V20 bx 31 #[.slice A0x n0x c0x, .slice A1x n1x c1x, .slice A2x n2x c2x, .slice A3x n3x c3x, .slice A4x n4x c4x, .slice A5x n5x c5x]) := Lib.hid (by rw [<- hW]; exact Blk.newAt _ hbe _ _)
  replace HU := Lib.hid (HU.out.below hb)
  replace HBY := Lib.hid (HBY.out.below hb)
  replace HBK := Lib.hid (HBK.out.below hb)
  replace Y6 := Lib.hid (Y6.out.below hb)
  replace HTx := Lib.hid (HTx.out.below hb)
  replace HB := Lib.hid (HB.out.trans (hb.mono HB.out.size))
  clear hb
  have HWx := Lib.hid hW; have HBEx := Lib.hid hbe
  clear hW hbe
  have hno := HPx.out.no (odd_not (by rw [HL9.out]; have := HEV.out; omega))
  subst hno
  clear HPx HTx Xx HBY9 HL9 HLZ
  go_wp2_with fail
  go_ret
  refine ⟨by cases isp <;> cases isr <;> rfl, ?_⟩
  try rw [HWx.out]
  exact HB.out
end Go.Proofs.Ytjkcglgkdclidaa
