/- TableNumbers: numbers that are out of bounds are refused. -/
import Derived.Test.YtjkcglgkdclidaaVTableTb
import Derived.Test.YtjkcglgkdclidaaVTableTa
import Derived.Test.YtjkcglgkdclidaaVTableTt
set_option linter.unusedVariables false
set_option linter.unusedSimpArgs false
set_option maxRecDepth 100000
set_option maxHeartbeats 8000000
namespace Go.Proofs.Ytjkcglgkdclidaa
open Go Go.RowKit Go.Proofs
def setB (l : List Int) (k : Nat) (v : Int) : Nat -> List Int
 | 0 => l
 | i + 1 => (setB l k v i).set (k + i) ((be8 v).getD i 0)
theorem setB_len (l : List Int) (k : Nat) (v : Int) (i : Nat) : (setB l k v i).length = l.length := by
 induction i with
 | zero => rfl
 | succ i ih => simp [setB, ih]
theorem setB_byte {l : List Int} (h : ∀ x ∈ l, ByteI x) (k : Nat) (v : Int) (i : Nat) (hi : i <= 8) : ∀ x ∈ setB l k v i, ByteI x := by
 induction i with
 | zero => exact h
 | succ i ih =>
   intro x hx
   rcases List.mem_or_eq_of_mem_set hx with e | e
   ·exact ih (by omega) x e
   ·subst e
    refine be8_byte v _ ?_
    have hl : i < (be8 v).length := by rw [be8_len]; omega
    rw [List.getD_eq_getElem?_getD, List.getElem?_eq_getElem hl]
    exact List.getElem_mem hl
theorem BRow.setAt {w : World} {B g cap n : Nat} {l : List Int} (h : BRow w B (.slice (some ⟨g, 0, none⟩) n cap) l) (hn : l.length = n) (k : Nat) (y : Int) : BRow (w.setCell ⟨g, k, none⟩ (.int .u8 y)) B (.slice (some ⟨g, 0, none⟩) n cap) (l.set k y) := by
 subst hn
 exact h.set_ k y
theorem tableNumbers_walk (a0 : Int) (a1 : Int) (a2 : Option Addr) (len2 cap2 : Nat) (z2 : List Int) (a3 : Option Addr) (len3 cap3 : Nat) (z3 : List Int) (a4 : Option Addr) (len4 cap4 : Nat) (z4 : List Int) (a5 : Int) (a6 : Int) (w : World) (w0 : (Lit.int .i64 a0).wf = true) (w1 : (Lit.int .i64 a1).wf = true) (w2 : IsRow .i64 w a2 len2 cap2 z2) (w3 : IsRow .i64 w a3 len3 cap3 z3) (w4 : IsRow .i64 w a4 len4 cap4 z4) (w5 : (Lit.int .i64 a5).wf = true) (w6 : (Lit.int .i64 a6).wf = true) :
  Calls Try.prog 11 #[.int .i64 a0, .int .i64 a1, .slice a2 len2 cap2, .slice a3 len3 cap3, .slice a4 len4 cap4, .int .i64 a5, .int .i64 a6] w fun e w' => e = .returned (.bool true) /\ Below w.heap.size w w' := by
  have h6 : Int64 a6 := by
   simp [Lit.wf] at w6
   have e1 : IntKind.i64.min = -9223372036854775808 := rfl
   have e2 : IntKind.i64.max = 9223372036854775807 := rfl
   try rw [e1, e2] at w6
   unfold Int64
   omega
  have H6 := Lib.hid h6
  clear h6
  have hk := kOf_is a0; have hn := nOf_is a1; have hk9 := kOf_lt a0; have hn9 := nOf_lt a1
  obtain ⟨k, ek⟩ : ∃ k, kOf a0 = k := ⟨_, rfl⟩
  obtain ⟨n, en⟩ : ∃ n, nOf a1 = n := ⟨_, rfl⟩
  rw [ek] at hk hk9
  rw [en] at hn hn9
  clear ek en
  obtain ⟨k0, k9⟩ := hk9
  obtain ⟨n0, n9⟩ := hn9
  have HK := Lib.hid hk; have HN := Lib.hid hn
  have R2 := Lib.hid w2.readsI
  have R3 := Lib.hid w3.readsI
  have R4 := Lib.hid w4.readsI
  clear hk hn w0 w1 w2 w3 w4
  clear w5 w6
  go_enter Try.func11, Try.ntmps11
  go_wp2_with fail
  refine (tknown_any _).mono ?_
  rintro e V1 ⟨rfl, hb⟩
  replace R2 := Lib.hid (R2.out.below hb)
  replace R3 := Lib.hid (R3.out.below hb)
  replace R4 := Lib.hid (R4.out.below hb)
  have HB := Lib.hid hb
  clear hb
  go_wp2_with fail
  refine (make_any R2.out R3.out R4.out a0 a1 HK.out HN.out).mono ?_
  rintro e V2 ⟨vc, vl, vbn, vbo, vfn, vfe, rfl, ht, hb⟩
  replace HB := Lib.hid (HB.out.trans (hb.mono HB.out.size))
  clear hb
  have hrt := lawTab_right (ns := (z2.take len2)) (ms := (z3.take len3)) (cs := (z4.take len4)) k0 (by omega) n0 (by omega)
  have hel := lawTab_len (ns := (z2.take len2)) (ms := (z3.take len3)) (cs := (z4.take len4)) k0 k9 n0 n9
  obtain ⟨tt, htt⟩ : ∃ t, lawTab (z2.take len2) (z3.take len3) (z4.take len4) k n = t := ⟨_, rfl⟩
  rw [htt] at ht hrt hel
  have HRt := Lib.hid hrt; have HEt := Lib.hid hel; have HTt := Lib.hid ht
  clear htt hrt hel ht R2 R3 R4
  go_wp2_with fail
  refine (rsave_any HTt.out HRt.out.intsT (Nat.le_trans HEt.out (by decide))).mono ?_
  rintro e V3 ⟨u, rfl, hu, hb⟩
  have HU := Lib.hid hu
  clear hu HTt
  replace HB := Lib.hid (HB.out.trans (hb.mono HB.out.size))
  clear hb
  obtain ⟨A7, c7, e7, lc7, lc7'⟩ := HU.out.slice
  subst e7
  have hbyt := saveT_byte tt
  have hn79 := saveT_len tt
  have hne : 1 <= (enT tt).length := by unfold enT; rw [List.length_append, enN_len]; omega
  obtain ⟨e9, he9⟩ : ∃ q, (enT tt).length = q := ⟨_, rfl⟩
  have hel9 : e9 <= 10000 := by rw [<- he9]; exact HEt.out
  rw [he9] at hn79 hne
  obtain ⟨sv, hsv⟩ : ∃ l, saveT tt = l := ⟨_, rfl⟩
  rw [hsv] at HU hbyt hn79 lc7 ⊢
  obtain ⟨n7, hn7⟩ : ∃ n, sv.length = n := ⟨_, rfl⟩
  have HBY := Lib.hid (HU.out.bytes hbyt)
  rw [hn7] at HU HBY hn79 lc7 ⊢
  have HN7 := Lib.hid hn7; have HBYT := Lib.hid hbyt
  obtain ⟨m7, hm7⟩ : ∃ m, n7 - 8 = m := ⟨_, rfl⟩
  have hme : m7 = 8 * e9 := by omega
  clear hn7 hsv hbyt he9
  have w1 : IntKind.i64.wrap ((n7 : Int) - 8) = (m7 : Int) := by rw [show (n7 : Int) - 8 = (m7 : Int) by omega]; exact IntWalk.i64_in _ (by omega)
  have w2 : (m7 : Int) <= (n7 : Int) := by omega
  have w3 : (m7 : Int) <= (c7 : Int) := by omega
  have w4 : m7 <= n7 := by omega
  have w5 : m7 <= c7 := by omega
  have w6 : (0 : Int) <= (m7 : Int) := Int.natCast_nonneg _
  have w7 : (m7 : Int).tdiv 8 = (e9 : Int) := by rw [Int.tdiv_eq_ediv_of_nonneg (by omega)]; omega
  have w8 : IntKind.i64.wrap (e9 : Int) = (e9 : Int) := IntWalk.i64_in _ (by omega)
  have hmp : 0 < m7 := by omega
  have hm99 : m7 <= 80000 := by omega
  have HME := Lib.hid hme
  have hpre := HBY.out.pre (k := m7) w4
  have hbob := byte_take HBYT.out m7
  have hbol : (sv.take m7).length = m7 := by rw [List.length_take, HN7.out]; omega
  obtain ⟨bo, hbo⟩ : ∃ l, sv.take m7 = l := ⟨_, rfl⟩
  rw [hbo] at hpre hbob hbol
  have HPRE := Lib.hid hpre; have HBOB := Lib.hid hbob; have HBOL := Lib.hid hbol
  clear hpre hbob hbol hbo HBYT HN7 hn79 hme hm7
  have HB0 : Hid (Below w.heap.size w V3) := HB
  have HOUT : Hid (BRow (V3.alloc (.cells #[] 5)) V3.heap.size (.slice (some ⟨V3.heap.size, 0, none⟩) 0 0) []) := Lib.hid (BRow.none_ V3)
  have HBA : Hid (Below V3.heap.size V3 (V3.alloc (.cells #[] 5))) := Lib.hid ((Below.refl _ _).alloc (Nat.le_refl _) _)
  have HYA := Lib.hid (HPRE.out.below HBA.out)
  go_wp2_with (at_builtin; refine wpList_concatB rfl (.tmp 33) (.tmp 38) rfl V3.heap.size (.slice (some ⟨V3.heap.size, 0, none⟩) 0 0) 0 [] (by rfl) HOUT.out (.slice A7 m7 c7) m7 bo (by rfl) HYA.out.1 (by omega) (by simp) ?_; intro v' W4 ho hg ha; have ho' : BRow W4 V3.heap.size v' bo := BRow.of_own ho (by rw [Nat.zero_add]; exact HBOL.out); have HBX : Hid (Below V3.heap.size V3 W4) := Lib.hid (HBA.out.grown hg (by simp) (fun q hq => by simp only [Value.ownBlock, Option.some.injEq] at hq; omega)); rcases ho'.form with ⟨-, e0⟩ | ⟨g8, c8, ev, hg8, hg9, lc8, lc8'⟩; exact absurd (congrArg List.length e0) (by rw [HBOL.out, List.length_nil]; omega); rw [HBOL.out] at ev lc8; subst ev; have HO := Lib.hid ho'; clear ho hg ha ho' HOUT HBA HYA)
  have hb := HBX.out
  replace HB := Lib.hid (HB.out.trans (hb.mono HB.out.size))
  clear hb HBX HU HBY HPRE
  refine (twithin2_any a5 (e9 : Int) (by omega) (by omega) W4).mono ?_
  rintro e W4' ⟨rfl, hV⟩
  subst W4'
  obtain ⟨j, hj⟩ : ∃ j : Nat, a5 % (e9 : Int) = (j : Int) := ⟨(a5 % (e9 : Int)).toNat, by have := Int.emod_nonneg a5 (show (e9 : Int) ≠ 0 by omega); omega⟩
  have hjl : (j : Int) < (e9 : Int) := by rw [<- hj]; exact Int.emod_lt_of_pos _ (by omega)
  rw [hj]
  clear hj
  obtain ⟨k8, hk8⟩ : ∃ k, 8 * j = k := ⟨_, rfl⟩
  have x1 : IntKind.i64.wrap (8 * (j : Int)) = (k8 : Int) := by rw [show 8 * (j : Int) = (k8 : Int) by omega]; exact IntWalk.i64_in _ (by omega)
  have x2 : k8 + 8 <= m7 := by have := HME.out; omega
  clear hk8
  go_wp2_with fail
  refine (twithin2_any a6 8 (by omega) (by omega) _).mono ?_
  rintro e W6 ⟨rfl, hV⟩
  obtain ⟨q, hq⟩ : ∃ q : Nat, a6 % 8 = (q : Int) := ⟨(a6 % 8).toNat, by have := Int.emod_nonneg a6 (show (8 : Int) ≠ 0 by omega); omega⟩
  have hq8 : q < 8 := by have := Int.emod_lt_of_pos a6 (show (0 : Int) < 8 by omega); omega
  rw [hq]
  clear hq
  obtain ⟨bq, hbq⟩ : ∃ b, W4.heap.size = b := ⟨_, rfl⟩
  have xq : Blk W6 bq 3 #[.int .i64 a6, .int .i64 (-1), .int .i64 0, .int .i64 1, .int .i64 1099511627776, .int .i64 100001, .int .i64 9223372036854775807, .int .i64 (-9223372036854775808)] := by rw [<- hV]; exact Blk.newAt _ hbq _ _
  have hb : Below W4.heap.size W4 W6 := by rw [<- hV]; exact (Below.refl _ _).alloc (Nat.le_refl _) _
  replace HO := Lib.hid (HO.out.below hb)
  replace HB := Lib.hid (HB.out.trans (hb.mono HB.out.size))
  clear hb
  rw [hbq]
  obtain ⟨v, hv, hcv⟩ : ∃ v, Int64 v /\ W6.cell? ⟨bq, q, none⟩ = some (.int .i64 v) := by
   have h6 := H6.out
   have hc := xq.cell q
   rcases (show q = 0 \/ q = 1 \/ q = 2 \/ q = 3 \/ q = 4 \/ q = 5 \/ q = 6 \/ q = 7 by omega) with rfl | rfl | rfl | rfl | rfl | rfl | rfl | rfl
   ·exact ⟨a6, h6, hc⟩
   all_goals exact ⟨_, by unfold Int64; omega, hc⟩
  have q0 : (0 : Int) <= (q : Int) := Int.natCast_nonneg _
  have q8 : (q : Int) < 8 := by omega
  have k80 : (0 : Int) <= (k8 : Int) := Int.natCast_nonneg _
  clear hV xq hbq
  obtain ⟨v1, v2⟩ := hv
  go_wp2_with fail
  clear hcv q0 q8 hq8
  have HI : Hid (BRow W6 V3.heap.size (.slice (some ⟨g8, 0, none⟩) m7 c8) (setB bo k8 v 0)) := HO
  have HBI : Hid (Below w.heap.size w W6) := HB
  have HGW : Hid (w.heap.size <= g8) := Lib.hid (by have := HB0.out.size; omega)
  clear HO HB
  go_loopw [19] (fun vi wr => ∃ i : Nat, vi = .int .i64 (i : Int) /\ i <= 8 /\ Hid (BRow wr V3.heap.size (.slice (some ⟨g8, 0, none⟩) m7 c8) (setB bo k8 v i)) /\ Hid (Below w.heap.size w wr)) (fun vi _ => 8 - (intOf vi).toNat)
  case atStart => exact ⟨0, rfl, Nat.zero_le _, HI, HBI⟩
  case round =>
   clear HI HBI
   obtain ⟨i, rfl, hi, HI, HB⟩ := hrel
   by_cases hlt : i < 8
   ·have hsl := setB_len bo k8 v i
    rw [HBOL.out] at hsl
    have hca := BRow.cellAt (k := k8 + i) (l := setB bo k8 v i) (by have h := HI.out; rw [<- hsl] at h; exact h) (by omega)
    have hfz := BRow.frozenAt (l := setB bo k8 v i) (by have h := HI.out; rw [<- hsl] at h; exact h) (k8 + i)
    have HSL := Lib.hid hsl
    clear hsl
    rcases (show i = 0 \/ i = 1 \/ i = 2 \/ i = 3 \/ i = 4 \/ i = 5 \/ i = 6 \/ i = 7 by omega) with rfl | rfl | rfl | rfl | rfl | rfl | rfl | rfl
    ·clear hlt hi
     have y1 : IntKind.i64.wrap (k8 : Int) = (k8 : Int) := IntWalk.i64_in _ (by omega)
     have y3 : (k8 : Int) < (m7 : Int) := by omega
     rw [Nat.add_zero] at hca hfz
     go_wp2_with fail
     refine ⟨⟨0 + 1, by go_num, by decide, Lib.hid ?_, Lib.hid (HB.out.setCell (p := ⟨g8, k8 + 0, none⟩) (by have := HGW.out; show w.heap.size <= g8; omega) _)⟩, by simp [intOf]⟩
     exact HI.out.setAt HSL.out (k8 + 0) _
    ·clear hlt hi
     have y1 : IntKind.i64.wrap ((k8 : Int) + 1) = (k8 : Int) + 1 := IntWalk.i64_in _ (by omega)
     have y2 : (0 : Int) <= (k8 : Int) + 1 := by omega
     have y3 : (k8 : Int) + 1 < (m7 : Int) := by omega
     have y4 : ((k8 : Int) + 1).toNat = k8 + 1 := by omega
     go_wp2_with fail
     refine ⟨⟨1 + 1, by go_num, by decide, Lib.hid ?_, Lib.hid (HB.out.setCell (p := ⟨g8, k8 + 1, none⟩) (by have := HGW.out; show w.heap.size <= g8; omega) _)⟩, by simp [intOf]⟩
     exact HI.out.setAt HSL.out (k8 + 1) _
    ·clear hlt hi
     have y1 : IntKind.i64.wrap ((k8 : Int) + 2) = (k8 : Int) + 2 := IntWalk.i64_in _ (by omega)
     have y2 : (0 : Int) <= (k8 : Int) + 2 := by omega
     have y3 : (k8 : Int) + 2 < (m7 : Int) := by omega
     have y4 : ((k8 : Int) + 2).toNat = k8 + 2 := by omega
     go_wp2_with fail
     refine ⟨⟨2 + 1, by go_num, by decide, Lib.hid ?_, Lib.hid (HB.out.setCell (p := ⟨g8, k8 + 2, none⟩) (by have := HGW.out; show w.heap.size <= g8; omega) _)⟩, by simp [intOf]⟩
     exact HI.out.setAt HSL.out (k8 + 2) _
    ·clear hlt hi
     have y1 : IntKind.i64.wrap ((k8 : Int) + 3) = (k8 : Int) + 3 := IntWalk.i64_in _ (by omega)
     have y2 : (0 : Int) <= (k8 : Int) + 3 := by omega
     have y3 : (k8 : Int) + 3 < (m7 : Int) := by omega
     have y4 : ((k8 : Int) + 3).toNat = k8 + 3 := by omega
     go_wp2_with fail
     refine ⟨⟨3 + 1, by go_num, by decide, Lib.hid ?_, Lib.hid (HB.out.setCell (p := ⟨g8, k8 + 3, none⟩) (by have := HGW.out; show w.heap.size <= g8; omega) _)⟩, by simp [intOf]⟩
     exact HI.out.setAt HSL.out (k8 + 3) _
    ·clear hlt hi
     have y1 : IntKind.i64.wrap ((k8 : Int) + 4) = (k8 : Int) + 4 := IntWalk.i64_in _ (by omega)
     have y2 : (0 : Int) <= (k8 : Int) + 4 := by omega
     have y3 : (k8 : Int) + 4 < (m7 : Int) := by omega
     have y4 : ((k8 : Int) + 4).toNat = k8 + 4 := by omega
     go_wp2_with fail
     refine ⟨⟨4 + 1, by go_num, by decide, Lib.hid ?_, Lib.hid (HB.out.setCell (p := ⟨g8, k8 + 4, none⟩) (by have := HGW.out; show w.heap.size <= g8; omega) _)⟩, by simp [intOf]⟩
     exact HI.out.setAt HSL.out (k8 + 4) _
    ·clear hlt hi
     have y1 : IntKind.i64.wrap ((k8 : Int) + 5) = (k8 : Int) + 5 := IntWalk.i64_in _ (by omega)
     have y2 : (0 : Int) <= (k8 : Int) + 5 := by omega
     have y3 : (k8 : Int) + 5 < (m7 : Int) := by omega
     have y4 : ((k8 : Int) + 5).toNat = k8 + 5 := by omega
     go_wp2_with fail
     refine ⟨⟨5 + 1, by go_num, by decide, Lib.hid ?_, Lib.hid (HB.out.setCell (p := ⟨g8, k8 + 5, none⟩) (by have := HGW.out; show w.heap.size <= g8; omega) _)⟩, by simp [intOf]⟩
     exact HI.out.setAt HSL.out (k8 + 5) _
    ·clear hlt hi
     have y1 : IntKind.i64.wrap ((k8 : Int) + 6) = (k8 : Int) + 6 := IntWalk.i64_in _ (by omega)
     have y2 : (0 : Int) <= (k8 : Int) + 6 := by omega
     have y3 : (k8 : Int) + 6 < (m7 : Int) := by omega
     have y4 : ((k8 : Int) + 6).toNat = k8 + 6 := by omega
     go_wp2_with fail
     refine ⟨⟨6 + 1, by go_num, by decide, Lib.hid ?_, Lib.hid (HB.out.setCell (p := ⟨g8, k8 + 6, none⟩) (by have := HGW.out; show w.heap.size <= g8; omega) _)⟩, by simp [intOf]⟩
     exact HI.out.setAt HSL.out (k8 + 6) _
    ·clear hlt hi
     have y1 : IntKind.i64.wrap ((k8 : Int) + 7) = (k8 : Int) + 7 := IntWalk.i64_in _ (by omega)
     have y2 : (0 : Int) <= (k8 : Int) + 7 := by omega
     have y3 : (k8 : Int) + 7 < (m7 : Int) := by omega
     have y4 : ((k8 : Int) + 7).toNat = k8 + 7 := by omega
     go_wp2_with fail
     refine ⟨⟨7 + 1, by go_num, by decide, Lib.hid ?_, Lib.hid (HB.out.setCell (p := ⟨g8, k8 + 7, none⟩) (by have := HGW.out; show w.heap.size <= g8; omega) _)⟩, by simp [intOf]⟩
     exact HI.out.setAt HSL.out (k8 + 7) _
   ·obtain rfl : i = 8 := by omega
    clear hi hlt
    have hsl := setB_len bo k8 v 8
    rw [HBOL.out] at hsl
    have hsb := setB_byte HBOB.out k8 v 8 (Nat.le_refl _)
    obtain ⟨zl, hzl⟩ : ∃ l, setB bo k8 v 8 = l := ⟨_, rfl⟩
    rw [hzl] at HI hsl hsb
    have HO := HI
    have HBYZ := Lib.hid (HI.out.bytes hsb)
    rw [hsl] at HBYZ
    have HSL := Lib.hid hsl
    clear hsl hsb hzl HI
    obtain ⟨W7, hW7⟩ : ∃ W, W = wr := ⟨_, rfl⟩
    rw [<- hW7] at HO HBYZ HB ⊢
    clear hW7
    go_wp2_with fail
    refine (summed_any HBYZ.out (by omega)).mono ?_
    rintro e V8 ⟨u9, rfl, ho9, hb⟩
    replace HBYZ := Lib.hid (HBYZ.out.below hb)
    replace HB := Lib.hid (HB.out.trans (hb.mono HB.out.size))
    clear hb
    have hby9 := ho9.bytes (byte_app HBYZ.out.2 (be8_byte _))
    have hl9 : (zl ++ be8 (sumI zl)).length = m7 + 8 := by rw [List.length_append, HSL.out, be8_len]
    rw [hl9] at hby9
    have HBY9 := Lib.hid hby9; have HL9 := Lib.hid hl9
    clear ho9 hby9 hl9
    go_wp2_with fail
    refine (tload_told HBY9.out (by omega)).mono ?_
    rintro e V9 ⟨hte, hb⟩
    unfold ToldE at hte
    obtain ⟨A0p, A1p, A2p, A3p, A4p, A5p, n0p, n1p, n2p, n3p, n4p, n5p, c0p, c1p, c2p, c3p, c4p, c5p, isp, tp, rfl, htp, htr⟩ := hte
    replace HBYZ := Lib.hid (HBYZ.out.below hb)
    have HPp := Lib.hid htp; have HTp := Lib.hid htr
    replace HB := Lib.hid (HB.out.trans (hb.mono HB.out.size))
    clear hb
    clear htp htr
    obtain ⟨bp, hbe⟩ : ∃ b, V9.heap.size = b := ⟨_, rfl⟩
    obtain ⟨V10, hW⟩ : ∃ W, V9.alloc (.cells #[.slice A0p n0p c0p, .slice A1p n1p c1p, .slice A2p n2p c2p, .slice A3p n3p c3p, .slice A4p n4p c4p, .slice A5p n5p c5p] 31) = W := ⟨_, rfl⟩
    have hb : Below V9.heap.size V9 V10 := by rw [<- hW]; exact (Below.refl _ _).alloc (Nat.le_refl _) _
    have Xp : Hid (Blk V10 bp 31 #[.slice A0p n0p c0p, .slice A1p n1p c1p, .slice A2p n2p c2p, .slice A3p n3p c3p, .slice A4p n4p c4p, .slice A5p n5p c5p]) := Lib.hid (by rw [<- hW]; exact Blk.newAt _ hbe _ _)
    replace HBYZ := Lib.hid (HBYZ.out.below hb)
    replace HTp := Lib.hid (HTp.out.below hb)
    replace HB := Lib.hid (HB.out.trans (hb.mono HB.out.size))
    clear hb
    have HWp := Lib.hid hW; have HBEp := Lib.hid hbe
    clear hW hbe
    clear HBY9
    go_wp2_with fail
    rw [HWp.out]
    try simp only [HBEp.out]
    refine (summed_any HBYZ.out (by omega)).mono ?_
    rintro e V11 ⟨u9, rfl, ho9, hb⟩
    replace HBYZ := Lib.hid (HBYZ.out.below hb)
    replace HTp := Lib.hid (HTp.out.below hb)
    replace Xp := Lib.hid (Blk.below Xp.out hb Xp.out.lt)
    replace HB := Lib.hid (HB.out.trans (hb.mono HB.out.size))
    clear hb
    have hby9 := ho9.bytes (byte_app HBYZ.out.2 (be8_byte _))
    have hl9 : (zl ++ be8 (sumI zl)).length = m7 + 8 := by rw [List.length_append, HSL.out, be8_len]
    rw [hl9] at hby9
    have HBY9 := Lib.hid hby9; have HL9 := Lib.hid hl9
    clear ho9 hby9 hl9
    go_wp2_with fail
    refine (rload_told HBY9.out).mono ?_
    rintro e V12 ⟨hte, hb⟩
    unfold ToldE at hte
    obtain ⟨A0q, A1q, A2q, A3q, A4q, A5q, n0q, n1q, n2q, n3q, n4q, n5q, c0q, c1q, c2q, c3q, c4q, c5q, isq, tq, rfl, htp, htr⟩ := hte
    replace HBYZ := Lib.hid (HBYZ.out.below hb)
    replace HTp := Lib.hid (HTp.out.below hb)
    replace Xp := Lib.hid (Blk.below Xp.out hb Xp.out.lt)
    have HPq := Lib.hid htp; have HTq := Lib.hid htr
    replace HB := Lib.hid (HB.out.trans (hb.mono HB.out.size))
    clear hb
    clear htp htr
    obtain ⟨bq, hbe⟩ : ∃ b, V12.heap.size = b := ⟨_, rfl⟩
    obtain ⟨V13, hW⟩ : ∃ W, V12.alloc (.cells #[.slice A0q n0q c0q, .slice A1q n1q c1q, .slice A2q n2q c2q, .slice A3q n3q c3q, .slice A4q n4q c4q, .slice A5q n5q c5q] 31) = W := ⟨_, rfl⟩
    have hb : Below V12.heap.size V12 V13 := by rw [<- hW]; exact (Below.refl _ _).alloc (Nat.le_refl _) _
    have Xq : Hid (Blk V13 bq 31 #[.slice A0q n0q c0q, .slice A1q n1q c1q, .slice A2q n2q c2q, .slice A3q n3q c3q, .slice A4q n4q c4q, .slice A5q n5q c5q]) := Lib.hid (by rw [<- hW]; exact Blk.newAt _ hbe _ _)
    replace HBYZ := Lib.hid (HBYZ.out.below hb)
    replace HTp := Lib.hid (HTp.out.below hb)
    replace Xp := Lib.hid (Blk.below Xp.out hb Xp.out.lt)
    replace HTq := Lib.hid (HTq.out.below hb)
    replace HB := Lib.hid (HB.out.trans (hb.mono HB.out.size))
    clear hb
    have HWq := Lib.hid hW; have HBEq := Lib.hid hbe
    clear hW hbe
    obtain ⟨hq1, hq2⟩ := HPp.out.uniq HPq.out
    subst isq
    subst tq
    have HIT := Lib.hid HPp.out.ints; have HLT := Lib.hid (HPp.out.len (by rw [HL9.out]; omega))
    have k0p := Xp.out.cell 0
    have k1p := Xp.out.cell 1
    have k2p := Xp.out.cell 2
    have k3p := Xp.out.cell 3
    have k4p := Xp.out.cell 4
    have k5p := Xp.out.cell 5
    have k0q := Xq.out.cell 0
    have k1q := Xq.out.cell 1
    have k2q := Xq.out.cell 2
    have k3q := Xq.out.cell 3
    have k4q := Xq.out.cell 4
    have k5q := Xq.out.cell 5
    simp only [List.getElem?_toArray, List.getElem?_cons_zero, List.getElem?_cons_succ] at k0p k0q k1p k1q k2p k2q k3p k3q k4p k4q k5p k5q
    rw [<- HWq.out] at k0p k0q k1p k1q k2p k2q k3p k3q k4p k4q k5p k5q
    rw [<- HBEq.out] at k0q k1q k2q k3q k4q k5q
    go_wp2_with fail
    rw [HWq.out]
    clear k0p k0q k1p k1q k2p k2q k3p k3q k4p k4q k5p k5q
    refine (rsame_any HTp.out HTq.out HIT.out HIT.out HLT.out HLT.out (r := true) ⟨fun _ => rfl, fun _ => rfl⟩).mono ?_
    rintro e V14 ⟨rfl, hb⟩
    replace HTp := Lib.hid (HTp.out.below hb)
    replace Xp := Lib.hid (Blk.below Xp.out hb Xp.out.lt)
    replace HB := Lib.hid (HB.out.trans (hb.mono HB.out.size))
    clear hb
    have k0 := Xp.out.cell 0; have k1 := Xp.out.cell 1; have k2 := Xp.out.cell 2; have k3 := Xp.out.cell 3; have k4 := Xp.out.cell 4; have k5 := Xp.out.cell 5
    simp only [List.getElem?_toArray, List.getElem?_cons_zero, List.getElem?_cons_succ] at k0 k1 k2 k3 k4 k5
    cases isp with
    | false =>
      go_wp2_with fail
      go_ret
      exact ⟨rfl, HB.out⟩
    | true =>
      go_wp2_with fail
      refine (tright_any HTp.out).mono ?_
      rintro e V15 ⟨rb, rfl, hrb, hb⟩
      have hrt : rb = true := hrb.2 (by
       rcases HPp.out with ⟨-, h, -⟩ | ⟨h, -⟩
       ·exact h
       ·cases h)
      subst hrt
      replace HB := Lib.hid (HB.out.trans (hb.mono HB.out.size))
      go_wp2_with fail
      go_ret
      exact ⟨rfl, HB.out⟩
end Go.Proofs.Ytjkcglgkdclidaa
