/- Contract of the document's own Same of sides, at two that read alike. The law SideStars, walked. -/
import Derived.Test.YtfccnadbiglagaaGreatVPlS
import Derived.Test.YtfccnadbiglagaaGreatVSideNa
import Derived.Test.YtfccnadbiglagaaGreatVSideKp
import Derived.Test.YtfccnadbiglagaaGreatVAny
set_option linter.unusedVariables false
set_option linter.unusedSimpArgs false
set_option maxRecDepth 100000
set_option maxHeartbeats 8000000
namespace Go.Proofs.YtfccnadbiglagaaGreat
open Go Go.RowKit Go.Proofs
theorem srefadd_any (a b : Int) (w : World) (ha : IsCost a) (hb : IsCost b) :
  Calls Tryz.prog 32 #[.int .i64 a, .int .i64 b] w fun e w' => e = .returned (.int .i64 (plus a b)) /\ w = w' := by
  obtain ⟨h1, h2⟩ := ha; obtain ⟨h3, h4⟩ := hb
  by_cases h : 1152921504606846976 <= a + b
  ·have hc : plus a b = 1152921504606846976 := if_pos h
   have HC := Lib.hid hc; clear hc
   go_enter Tryz.func32, Tryz.ntmps32
   go_wp2_with fail
   all_goals
    go_ret
    exact ⟨ret_int (by have := HC.out; omega), rfl⟩
  ·have hc : plus a b = a + b := if_neg h
   have HC := Lib.hid hc; clear hc
   go_enter Tryz.func32, Tryz.ntmps32
   go_wp2_with fail
   all_goals
    go_ret
    exact ⟨ret_int (by have := HC.out; omega), rfl⟩
theorem sints_any {w : World} {v u : Value} {n : Nat} {l : List Int} (h : ReadsI w v n l) (h' : ReadsI w u n l) :
  Calls Tryz.prog 33 #[v, u] w fun e w' => e = .returned (.bool true) /\ Below w.heap.size w w' := by
  obtain ⟨a, cap, rfl, q1, q2, -⟩ := h.form
  obtain ⟨a', cap', rfl, -, -, -⟩ := h'.form
  have H3 := Lib.hid h; have H3' := Lib.hid h'; clear h h'
  go_enter Tryz.func33, Tryz.ntmps33
  go_wp2_with fail
  go_loopw [5] (fun i wr => ∃ (k m : Nat), k <= n /\ i = .int .i64 k /\ wr = w.drewN m) (fun i _ => n - (intOf i).toNat)
  case atStart => exact ⟨0, 0, Nat.zero_le _, rfl, rfl⟩
  case round =>
   obtain ⟨k, m, hk, rfl, rfl⟩ := hrel
   by_cases hlt : k < n
   ·obtain ⟨b, off, rfl, -, c1⟩ := H3.out.at k hlt
    obtain ⟨b', off', rfl, -, c2⟩ := H3'.out.at k hlt
    have i0 : (0 : Int) <= (k : Int) := Int.natCast_nonneg _
    have i1 : (k : Int) < (n : Int) := by omega
    generalize l.getD k 0 = x at *
    go_wp2_with fail
    go_quiet (fail)
    go_wp2_with fail
    exact ⟨⟨k + 1, _, by omega, by go_num, rfl⟩, by simp [intOf]; omega⟩
   ·go_wp2
    go_ret
    exact ⟨rfl, ⟨rfl, rfl, rfl, Nat.le_refl _, fun _ _ => rfl⟩⟩
theorem ssame_any {w : World} {v u : Value} {n : Nat} {S F E : List Int} {L : List ArcP} {z : Int} (h : SideR w v n S F E L z) (h' : SideR w u n S F E L z) (hn : n <= 1000000000) :
  Calls Tryz.prog 19 #[v, u] w fun e w' => e = .returned (.bool true) /\ Below w.heap.size w w' := by
  have HS := Lib.hid h; have HS' := Lib.hid h'
  obtain ⟨A1, c1, A2, c2, A3, c3, A4, c4, rfl, -⟩ := h.ex
  obtain ⟨B1, d1, B2, d2, B3, d3, B4, d4, rfl, -⟩ := h'.ex
  clear h h'
  obtain ⟨nl, hnl⟩ : ∃ m, L.length = m := ⟨_, rfl⟩
  rw [hnl] at HS HS' ⊢
  obtain ⟨W0, hW0⟩ : ∃ W0, (w.alloc (.cells #[.slice A1 n c1, .slice A2 n c2, .slice A3 n c3, .slice A4 nl c4, .int .i64 z] 39)).alloc (.cells #[.slice B1 n d1, .slice B2 n d2, .slice B3 n d3, .slice B4 nl d4, .int .i64 z] 39) = W0 := ⟨_, rfl⟩
  have hb0 : Below w.heap.size w W0 := by rw [<- hW0]; exact ((Below.refl _ _).alloc (Nat.le_refl _) _).alloc (by simp) _
  obtain ⟨g, hg⟩ : ∃ g, w.heap.size = g := ⟨_, rfl⟩
  have hx0 : Blk W0 g 39 #[.slice A1 n c1, .slice A2 n c2, .slice A3 n c3, .slice A4 nl c4, .int .i64 z] := by rw [<- hW0, <- hg]; exact Blk.alloc (Blk.new _ _ _) _
  have hx1 : Blk W0 (g + 1) 39 #[.slice B1 n d1, .slice B2 n d2, .slice B3 n d3, .slice B4 nl d4, .int .i64 z] := by
   rw [<- hW0, <- hg]
   have := Blk.new (w.alloc (.cells #[.slice A1 n c1, .slice A2 n c2, .slice A3 n c3, .slice A4 nl c4, .int .i64 z] 39)) 39 #[.slice B1 n d1, .slice B2 n d2, .slice B3 n d3, .slice B4 nl d4, .int .i64 z]
   rwa [World.size_alloc] at this
  have y0 := Blk.cell hx0 0; have y1 := Blk.cell hx0 1; have y2 := Blk.cell hx0 2; have y3 := Blk.cell hx0 3; have y4 := Blk.cell hx0 4
  have z0 := Blk.cell hx1 0; have z1 := Blk.cell hx1 1; have z2 := Blk.cell hx1 2; have z3 := Blk.cell hx1 3; have z4 := Blk.cell hx1 4
  simp only [List.getElem?_toArray, List.getElem?_cons_zero, List.getElem?_cons_succ] at y0 y1 y2 y3 y4 z0 z1 z2 z3 z4
  have hs0 := HS.out.below hb0; have hs0' := HS'.out.below hb0
  obtain ⟨-, r1, r2, r3, r4⟩ := hs0.forms
  obtain ⟨-, q1, q2, q3, q4⟩ := hs0'.forms
  have HX0 := Lib.hid hx0; have HX1 := Lib.hid hx1; have HB0 := Lib.hid hb0; have HW0 := Lib.hid hW0
  have hR : ∀ W, Below W0.heap.size W0 W -> ReadsI W (.slice A1 n c1) n S /\ ReadsI W (.slice B1 n d1) n S /\ ReadsI W (.slice A2 n c2) n F /\ ReadsI W (.slice B2 n d2) n F /\ ReadsI W (.slice A3 n c3) n E /\ ReadsI W (.slice B3 n d3) n E /\ ReadsE encA 3 W (.slice A4 nl c4) nl L /\ ReadsE encA 3 W (.slice B4 nl d4) nl L := fun W hb => ⟨r1.below hb, q1.below hb, r2.below hb, q2.below hb, r3.below hb, q3.below hb, r4.below hb, q4.below hb⟩
  have HR := Lib.hid hR; have HNL := Lib.hid hnl
  clear hx0 hx1 hb0 hW0 hs0 hs0' r1 r2 r3 r4 q1 q2 q3 q4 hR hnl HS HS'
  rw [<- HW0.out, <- hg] at y0 y1 y2 y3 y4 z0 z1 z2 z3 z4
  go_enter Tryz.func19, Tryz.ntmps19
  go_wp2_with fail
  rw [HW0.out]
  refine (sints_any (HR.out _ (Below.refl _ _)).1 (HR.out _ (Below.refl _ _)).2.1).mono ?_
  rintro e w1 ⟨rfl, hb1⟩
  clear y0 y1 y2 y3 y4 z0 z1 z2 z3 z4
  have hx0 := Blk.below HX0.out hb1 HX0.out.lt; have hx1 := Blk.below HX1.out hb1 HX1.out.lt
  have y0 := Blk.cell hx0 0; have y1 := Blk.cell hx0 1; have y2 := Blk.cell hx0 2; have y3 := Blk.cell hx0 3; have y4 := Blk.cell hx0 4
  have z0 := Blk.cell hx1 0; have z1 := Blk.cell hx1 1; have z2 := Blk.cell hx1 2; have z3 := Blk.cell hx1 3; have z4 := Blk.cell hx1 4
  simp only [List.getElem?_toArray, List.getElem?_cons_zero, List.getElem?_cons_succ] at y0 y1 y2 y3 y4 z0 z1 z2 z3 z4
  have HB1 := Lib.hid hb1
  clear hb1 hx0 hx1
  go_wp2_with fail
  have hr1 := HR.out _ HB1.out
  refine (sints_any hr1.2.2.1 hr1.2.2.2.1).mono ?_
  rintro e w2 ⟨rfl, hb2'⟩
  have hb2 := HB1.out.trans (hb2'.mono HB1.out.size)
  clear y0 y1 y2 y3 y4 z0 z1 z2 z3 z4 hr1 hb2' HB1
  have hx0 := Blk.below HX0.out hb2 HX0.out.lt; have hx1 := Blk.below HX1.out hb2 HX1.out.lt
  have y0 := Blk.cell hx0 0; have y1 := Blk.cell hx0 1; have y2 := Blk.cell hx0 2; have y3 := Blk.cell hx0 3; have y4 := Blk.cell hx0 4
  have z0 := Blk.cell hx1 0; have z1 := Blk.cell hx1 1; have z2 := Blk.cell hx1 2; have z3 := Blk.cell hx1 3; have z4 := Blk.cell hx1 4
  simp only [List.getElem?_toArray, List.getElem?_cons_zero, List.getElem?_cons_succ] at y0 y1 y2 y3 y4 z0 z1 z2 z3 z4
  have HB2 := Lib.hid hb2
  clear hb2 hx0 hx1
  go_wp2_with fail
  have hr1 := HR.out _ HB2.out
  refine (sints_any hr1.2.2.2.2.1 hr1.2.2.2.2.2.1).mono ?_
  rintro e w3 ⟨rfl, hb2'⟩
  have hb3 := HB2.out.trans (hb2'.mono HB2.out.size)
  clear y0 y1 y2 y3 y4 z0 z1 z2 z3 z4 hr1 hb2' HB2
  have hx0 := Blk.below HX0.out hb3 HX0.out.lt; have hx1 := Blk.below HX1.out hb3 HX1.out.lt
  have y0 := Blk.cell hx0 0; have y1 := Blk.cell hx0 1; have y2 := Blk.cell hx0 2; have y3 := Blk.cell hx0 3; have y4 := Blk.cell hx0 4
  have z0 := Blk.cell hx1 0; have z1 := Blk.cell hx1 1; have z2 := Blk.cell hx1 2; have z3 := Blk.cell hx1 3; have z4 := Blk.cell hx1 4
  simp only [List.getElem?_toArray, List.getElem?_cons_zero, List.getElem?_cons_succ] at y0 y1 y2 y3 y4 z0 z1 z2 z3 z4
  have hr := HR.out _ hb3
  have HA := Lib.hid hr.2.2.2.2.2.2.1; have HA' := Lib.hid hr.2.2.2.2.2.2.2
  have hnlm : nl <= 9223372036854775807 := by obtain ⟨_, _, _, q1, q2, _⟩ := hr.2.2.2.2.2.2.1.form; omega
  have HB3 := Lib.hid (HB0.out.trans (hb3.mono HB0.out.size))
  clear hb3 hx0 hx1 hr
  go_wp2_with fail
  clear HX0 HX1 HB0 HW0 HR
  go_loopw [5] (fun i wr => ∃ (k m : Nat), k <= nl /\ i = .int .i64 k /\ wr = w3.drewN m) (fun i _ => nl - (intOf i).toNat)
  case atStart => exact ⟨0, 0, Nat.zero_le _, rfl, rfl⟩
  case round =>
   obtain ⟨k, m, hk, rfl, rfl⟩ := hrel
   by_cases hlt : k < nl
   ·have hkl : k < L.length := by rw [HNL.out]; exact hlt
    obtain ⟨b, off, rfl, hbl, hc⟩ := HA.out.at encA_len (by omega) k L[k] (List.getElem?_eq_getElem hkl)
    obtain ⟨b', off', rfl, hbl', hc'⟩ := HA'.out.at encA_len (by omega) k L[k] (List.getElem?_eq_getElem hkl)
    have e0 := hc 0 _ rfl; have e1 := hc 1 _ rfl; have e2 := hc 2 _ rfl
    have f0 := hc' 0 _ rfl; have f1 := hc' 1 _ rfl; have f2 := hc' 2 _ rfl
    simp only [Nat.add_zero] at e0 f0
    have i0 : (0 : Int) <= (k : Int) := Int.natCast_nonneg _
    have i1 : (k : Int) < (nl : Int) := by omega
    generalize (L[k]).1 = x at *
    generalize (L[k]).2.1 = y at *
    generalize (L[k]).2.2 = t at *
    clear hc hc'
    go_wp2_with fail
    go_quiet (fail)
    go_wp2_with fail
    all_goals exact ⟨⟨k + 1, _, by omega, by go_num, rfl⟩, by simp [intOf]; omega⟩
   ·go_wp2
    go_ret
    exact ⟨rfl, HB3.out.os, HB3.out.tape, HB3.out.output, HB3.out.size, HB3.out.block⟩
end Go.Proofs.YtfccnadbiglagaaGreat
namespace Go.Proofs.YtfccnadbiglagaaGreat
open Go Go.RowKit Go.Proofs
theorem sideStars_walk (lv : Value) (l : List RawP) (w : World) (w0 : RawL w lv l) :
  Calls Tryz.prog 11 #[lv] w fun e w' => e = .returned (.bool true) /\ Below w.heap.size w w' := by
  have hL := w0
  obtain ⟨LA, ll, lc, rfl, hll, hlc, hlm, -⟩ := w0
  have HL := Lib.hid hL; have HLL := Lib.hid hll
  clear hL hll
  unfold maxLen at hlm
  have l0 : (0 : Int) <= (ll : Int) := Int.natCast_nonneg _
  go_enter Tryz.func11, Tryz.ntmps11
  go_wp2_with fail
  refine (known7_ok w).mono ?_
  rintro e W1 ⟨rfl, hb1⟩
  have hfw := few_any l W1 _ (HL.out.below hb1)
  have HB1 := Lib.hid hb1; clear hb1
  by_cases hfew : sizeR 6 l <= 30
  rotate_left
  ·have hf : fewB l = false := by unfold fewB; simpa using hfew
   rw [hf] at hfw
   have HFW := Lib.hid hfw
   clear hfw hf hfew
   go_wp2_with fail
   refine HFW.out.mono ?_
   rintro e W ⟨rfl, rfl⟩
   go_wp2_with fail
   go_ret
   exact ⟨rfl, HB1.out⟩
  have hf : fewB l = true := by unfold fewB; simpa using hfew
  rw [hf] at hfw
  have HFW := Lib.hid hfw; have HFEW := Lib.hid hfew
  clear hfw hf hfew
  go_wp2_with fail
  refine HFW.out.mono ?_
  rintro e w2 ⟨rfl, rfl⟩
  obtain ⟨w2, hw2⟩ : ∃ W, W1 = W := ⟨_, rfl⟩
  rw [hw2] at HB1 ⊢
  clear hw2 HFW
  by_cases hl0 : ll = 0
  ·have l1 : (ll : Int) = 0 := by omega
   go_wp2_with fail
   go_ret
   exact ⟨rfl, HB1.out⟩
  have l1 : ¬ (ll : Int) = 0 := by omega
  have l2 : 0 < ll := by omega
  have l3 : (0 : Int) < (ll : Int) := by omega
  have i0 : 0 < l.length := by rw [HLL.out]; omega
  obtain ⟨g, o, m', c', u, e, -, -, -, hcs, -, hwf0, hu⟩ := HL.out.get i0
  simp only [Value.slice.injEq] at e
  obtain ⟨rfl, -, -⟩ := e
  have hf0 := (few_mem HFEW.out (List.getElem_mem i0)).1
  have hma : ∀ W, Below w2.heap.size w2 W -> Calls Tryz.prog 16 #[.agg #[.int .i64 (l[0]).k, .int .i64 (l[0]).n, u], .bool false] W (MadeR W ((l[0]).pat false)) := fun W hW => make_any false 5 (l[0]) W u hf0 ((hu.below HB1.out).below hW) hwf0
  have hok0 := (RawP.ok (D := kD) (fun s h => h) false 5 (l[0]) hf0).1
  obtain ⟨ka, hka⟩ : ∃ z, (l[0]).k = z := ⟨_, rfl⟩
  obtain ⟨na, hna⟩ : ∃ z, (l[0]).n = z := ⟨_, rfl⟩
  obtain ⟨p, hpa⟩ : ∃ z, (l[0]).pat false = z := ⟨_, rfl⟩
  rw [hka, hna] at hma hcs
  rw [hpa] at hma hok0
  obtain ⟨uA, un, uc, rfl, -⟩ := hu
  unfold MadeR at hma
  rw [show o + 0 * 3 = o by omega] at hcs
  have hca := And.intro (bel_q HB1.out (hcs 0 _ rfl)) (And.intro (bel_q HB1.out (hcs 1 _ rfl)) (bel_q HB1.out (hcs 2 _ rfl)))
  have HDM := Lib.hid (defs_made [] w2 (.slice none 0 0) (IntsR.nil w2))
  have HCA := Lib.hid hca; have HMA := Lib.hid hma; have HOK := Lib.hid hok0
  clear hca hma hok0 hka hna hpa hcs hf0 hwf0 i0 HL HLL HFEW
  go_wp2_with fail
  refine HDM.out.mono ?_
  clear HDM
  rintro e W2 ⟨u, rfl, hdo, hb2⟩
  have hda := hdo.at_
  obtain ⟨dA, dc, cs, rfl, -, -, -, -, -⟩ := id hda
  rw [show ((defsOf []).map DefP.tree).length = 4 from rfl] at hdo hda ⊢
  have hnil : dA = none -> dc = 0 := nil_cap hdo.choose_spec.1
  obtain ⟨W3, hW3⟩ : ∃ W3, W2.alloc (.cells #[.slice dA 4 dc, .slice none 0 0] 30) = W3 := ⟨_, rfl⟩
  have hb3 : Below W2.heap.size W2 W3 := by rw [<- hW3]; exact (Below.refl _ _).alloc (Nat.le_refl _) _
  have hxf : Blk W3 W2.heap.size 30 #[.slice dA 4 dc, .slice none 0 0] := by rw [<- hW3]; exact Blk.new _ _ _
  have hb23 := hb2.trans (hb3.mono hb2.size)
  have c0 := bel_q hb23 HCA.out.1; have c1 := bel_q hb23 HCA.out.2.1; have c2 := bel_q hb23 HCA.out.2.2
  rw [Nat.add_zero] at c0
  have hNm : Names W3 (fun g => g < W3.heap.size) (.slice dA 4 dc) kD := ((hda.names (fun A n c e q => by simp only [Value.slice.injEq] at e; obtain ⟨rfl, _, rfl⟩ := e; exact hnil q) (fun g h => h)).keep (fun _ h => h) (fun g _ i x hx => bel_q hb3 hx)).low
  have HMK := Lib.hid (HMA.out W3 hb23)
  have HNM := Lib.hid hNm; have HXF := Lib.hid hxf; have HB3 := Lib.hid (HB1.out.trans (hb23.mono HB1.out.size)); have HW3 := Lib.hid hW3
  obtain ⟨F, hF⟩ : ∃ F, W2.heap.size = F := ⟨_, rfl⟩
  rw [hF] at HXF
  have HFZ := Lib.hid (show F < W3.heap.size from HXF.out.lt)
  clear hdo hda hnil hb2 hb3 hxf hb23 hNm HCA HMA HB1
  rw [<- hW3] at c0 c1 c2
  clear hW3
  go_wp2_with fail
  rw [HW3.out]
  refine HMK.out.mono ?_
  clear c0 c1 c2 HMK
  rintro e W4 ⟨v, rfl, -, hT, hb4⟩
  obtain ⟨k1, lo1, hi1, wt1, nm, A1, n1, c1, rfl, -⟩ := hT.kinded
  obtain ⟨W5, hW5⟩ : ∃ W5, W4.alloc (.cells #[.int .i64 k1, .int .i64 lo1, .int .i64 hi1, .int .i64 wt1, .string nm, .slice A1 n1 c1] 33) = W5 := ⟨_, rfl⟩
  have hb5 : Below W4.heap.size W4 W5 := by rw [<- hW5]; exact (Below.refl _ _).alloc (Nat.le_refl _) _
  have hz5 : W5.heap.size = W4.heap.size + 1 := by rw [<- hW5]; simp
  obtain ⟨X, hX⟩ : ∃ X, W4.heap.size = X := ⟨_, rfl⟩
  have hxx : Blk W5 X 33 #[.int .i64 k1, .int .i64 lo1, .int .i64 hi1, .int .i64 wt1, .string nm, .slice A1 n1 c1] := by rw [<- hW5, <- hX]; exact Blk.new _ _ _
  have hxf : Blk W5 F 30 #[.slice dA 4 dc, .slice none 0 0] := Blk.below (Blk.below HXF.out hb4 HFZ.out) hb5 (Nat.lt_of_lt_of_le HFZ.out hb4.size)
  have hb35 : Below W3.heap.size W3 W5 := hb4.trans (hb5.mono hb4.size)
  have hT5 : TreeV true W5 (fun g => g < W5.heap.size) (.agg #[.int .i64 k1, .int .i64 lo1, .int .i64 hi1, .int .i64 wt1, .string nm, .slice A1 n1 c1]) p.tree := hT.bound.bel (fun g hg => by omega) hb5
  have hNm5 : Names W5 (fun g => g < W5.heap.size) (.slice dA 4 dc) kD := ((HNM.out).fr hb35).keep (fun g hg => by have := hb35.size; omega) (fun _ _ _ _ h => h)
  have hmk := smake_any p true HOK.out (by decide) W5 _ dA none 4 dc 0 0 hT5 hNm5
  have y0 := Blk.cell hxx 0; have y1 := Blk.cell hxx 1; have y2 := Blk.cell hxx 2; have y3 := Blk.cell hxx 3; have y4 := Blk.cell hxx 4; have y5 := Blk.cell hxx 5
  have f0 := Blk.cell hxf 0; have f1 := Blk.cell hxf 1
  simp only [List.getElem?_toArray, List.getElem?_cons_zero, List.getElem?_cons_succ] at y0 y1 y2 y3 y4 y5 f0 f1
  rw [<- hW5] at y0 y1 y2 y3 y4 y5 f0 f1
  have HMK := Lib.hid hmk; have HXX := Lib.hid hxx; have HX5 := Lib.hid hxf; have HT5 := Lib.hid hT5; have HN5 := Lib.hid hNm5; have HB5 := Lib.hid (HB3.out.trans (hb35.mono HB3.out.size)); have HW5 := Lib.hid hW5; have HHX := Lib.hid hX
  have HXL := Lib.hid (show w.heap.size <= X by have h1 := HB3.out.size; have h2 := hb4.size; omega)
  clear hT hb4 hb5 hz5 hxx hxf hb35 hT5 hNm5 hmk hW5 HNM HXF HB3 HW3 HFZ
  go_wp2_with fail
  clear hX
  rw [HW5.out]
  refine HMK.out.mono ?_
  clear HMK y0 y1 y2 y3 y4 y5 f0 f1
  rintro e W6 ⟨hb6, h⟩
  obtain ⟨sz, hsz⟩ : ∃ k, sizeC p = k := ⟨_, rfl⟩
  rw [hsz] at h
  have HSZ := Lib.hid hsz
  clear hsz
  obtain ⟨s, hs⟩ : ∃ s, sideOf (ixN kD) p = s := ⟨_, rfl⟩
  rw [hs] at h
  have HS := Lib.hid hs
  clear hs
  obtain ⟨S1, S2, S3, S4, s1, s2, s3, s4, m1, m2, m3, m4, z, is, rfl, his, hsr⟩ : ∃ S1 S2 S3 S4 s1 s2 s3 s4 m1 m2 m3 m4 z is, e = .returned (.tuple #[.agg #[.slice S1 m1 s1, .slice S2 m2 s2, .slice S3 m3 s3, .slice S4 m4 s4, .int .i64 z], .bool is]) /\ is = decide (sz <= 120) /\ (sz <= 120 -> m1 = s.n /\ m2 = s.n /\ m3 = s.n /\ m4 = (arcsOf s.n s.arc).length /\ z = s.none_ /\ SideR W6 (.agg #[.slice S1 m1 s1, .slice S2 m2 s2, .slice S3 m3 s3, .slice S4 m4 s4, .int .i64 z]) s.n s.sets s.first s.ends (arcsOf s.n s.arc) s.none_ /\ Own W6 W5.heap.size (.slice S2 m2 s2) s.n s.first) := by
   rcases h with ⟨h1, v, e1, hsv⟩ | ⟨h1, e1⟩
   ·have hrd := hsv.reads
    obtain ⟨A1, c1, A2, c2, A3, c3, A4, c4, rfl, h1', h2', h3', h4'⟩ := hrd.ex
    obtain ⟨vs, vf, ve, va, e2, -, g2, -⟩ := hsv
    simp only [Value.agg.injEq, Array.mk.injEq, List.cons.injEq] at e2
    rw [<- e2.2.1] at g2
    exact ⟨A1, A2, A3, A4, c1, c2, c3, c4, _, _, _, _, _, true, e1, by simp [h1], fun _ => ⟨rfl, rfl, rfl, rfl, rfl, hrd, g2⟩⟩
   ·exact ⟨none, none, none, none, 0, 0, 0, 0, 0, 0, 0, 0, 0, false, e1, by rw [decide_eq_false (by omega)], fun q => by omega⟩
  clear h
  obtain ⟨Y, hY⟩ : ∃ Y, W6.heap.size = Y := ⟨_, rfl⟩
  obtain ⟨N, hN⟩ : ∃ N, Y + 1 = N := ⟨_, rfl⟩
  have hz5 := hb6.size
  have hxl := HXX.out.lt; have hfl := HX5.out.lt
  obtain ⟨W7, hW7⟩ : ∃ W7, (W6.alloc (.cells #[.slice S1 m1 s1, .slice S2 m2 s2, .slice S3 m3 s3, .slice S4 m4 s4, .int .i64 z] 39)).alloc (.cells #[.int .i64 k1, .int .i64 lo1, .int .i64 hi1, .int .i64 wt1, .string nm, .slice A1 n1 c1] 33) = W7 := ⟨_, rfl⟩
  have hb7 : Below W6.heap.size W6 W7 := by rw [<- hW7]; exact ((Below.refl _ _).alloc (Nat.le_refl _) _).alloc (by simp) _
  have hz7 : W7.heap.size = Y + 2 := by rw [<- hW7, <- hY]; simp
  have hxx6 := Blk.below HXX.out hb6 hxl
  have hxf6 := Blk.below HX5.out hb6 hfl
  have hxx7 := Blk.below hxx6 hb7 (by omega)
  have hxf7 := Blk.below hxf6 hb7 (by omega)
  have hxa7 : Blk W7 Y 39 #[.slice S1 m1 s1, .slice S2 m2 s2, .slice S3 m3 s3, .slice S4 m4 s4, .int .i64 z] := by rw [<- hW7, <- hY]; exact Blk.alloc (Blk.new _ _ _) _
  have hxn7 : Blk W7 N 33 #[.int .i64 k1, .int .i64 lo1, .int .i64 hi1, .int .i64 wt1, .string nm, .slice A1 n1 c1] := by
   rw [<- hW7, <- hN, <- hY]
   have := Blk.new (W6.alloc (.cells #[.slice S1 m1 s1, .slice S2 m2 s2, .slice S3 m3 s3, .slice S4 m4 s4, .int .i64 z] 39)) 33 #[.int .i64 k1, .int .i64 lo1, .int .i64 hi1, .int .i64 wt1, .string nm, .slice A1 n1 c1]
   rwa [World.size_alloc] at this
  have hb57 : Below W5.heap.size W5 W7 := hb6.trans (hb7.mono hb6.size)
  have hT7 : TreeV true W7 (fun g => g < W7.heap.size) (.agg #[.int .i64 k1, .int .i64 lo1, .int .i64 hi1, .int .i64 wt1, .string nm, .slice A1 n1 c1]) p.tree := (HT5.out.fr hb57).keep (fun g hg => by have := hb57.size; omega) (fun _ _ _ _ h => h)
  have hTW : TreeV true W7 (fun g => g < W7.heap.size) (.agg #[.int .i64 6, .int .i64 0, .int .i64 0, .int .i64 0, .string ⟨#[]⟩, .slice (some ⟨N, 0, none⟩) 1 1]) (Pat.star p).tree := TreeV.one6 6 0 0 0 hxn7 hT7 (by omega)
  have hNm7 : Names W7 (fun g => g < W7.heap.size) (.slice dA 4 dc) kD := (HN5.out.fr hb57).keep (fun g hg => by have := hb57.size; omega) (fun _ _ _ _ h => h)
  have hmk := smake_any (.star p) true HOK.out (by decide) W7 _ dA none 4 dc 0 0 hTW hNm7
  rw [show sizeC (Pat.star p) = sizeC p from rfl, HSZ.out, show sideOf (ixN kD) (Pat.star p) = sStar (sideOf (ixN kD) p) from rfl, HS.out] at hmk
  have x0 := Blk.cell (Blk.alloc hxx6 (.cells #[.slice S1 m1 s1, .slice S2 m2 s2, .slice S3 m3 s3, .slice S4 m4 s4, .int .i64 z] 39)) 0; have x1 := Blk.cell (Blk.alloc hxx6 (.cells #[.slice S1 m1 s1, .slice S2 m2 s2, .slice S3 m3 s3, .slice S4 m4 s4, .int .i64 z] 39)) 1; have x2 := Blk.cell (Blk.alloc hxx6 (.cells #[.slice S1 m1 s1, .slice S2 m2 s2, .slice S3 m3 s3, .slice S4 m4 s4, .int .i64 z] 39)) 2; have x3 := Blk.cell (Blk.alloc hxx6 (.cells #[.slice S1 m1 s1, .slice S2 m2 s2, .slice S3 m3 s3, .slice S4 m4 s4, .int .i64 z] 39)) 3; have x4 := Blk.cell (Blk.alloc hxx6 (.cells #[.slice S1 m1 s1, .slice S2 m2 s2, .slice S3 m3 s3, .slice S4 m4 s4, .int .i64 z] 39)) 4; have x5 := Blk.cell (Blk.alloc hxx6 (.cells #[.slice S1 m1 s1, .slice S2 m2 s2, .slice S3 m3 s3, .slice S4 m4 s4, .int .i64 z] 39)) 5
  have f0 := Blk.cell hxf7 0; have f1 := Blk.cell hxf7 1
  simp only [List.getElem?_toArray, List.getElem?_cons_zero, List.getElem?_cons_succ] at x0 x1 x2 x3 x4 x5 f0 f1
  rw [<- hW7] at f0 f1
  have HMK := Lib.hid hmk; have HXA := Lib.hid hxa7; have HXX7 := Lib.hid hxx7; have HXF7 := Lib.hid hxf7; have HT7 := Lib.hid hT7; have HN7 := Lib.hid hNm7; have HB7 := Lib.hid (HB5.out.trans (hb57.mono HB5.out.size)); have HB67 := Lib.hid hb7; have HW7 := Lib.hid hW7; have HSR := Lib.hid hsr; have HIS := Lib.hid his; have HZ7 := Lib.hid hz7; have HWY := Lib.hid (show w.heap.size <= Y by have := HB5.out.size; omega); have HN := Lib.hid hN; have HZ5 := Lib.hid (show W5.heap.size <= Y by omega); have HY := Lib.hid hY
  clear hz5 hxl hfl hb7 hz7 hxx6 hxf6 hxx7 hxf7 hxa7 hxn7 hb57 hT7 hTW hNm7 hmk hb6 hsr his HT5 HN5 HXX HX5 HB5 HW5 HHX HXL hW7
  go_wp2_with fail
  clear hY hN
  rw [HW7.out]
  refine HMK.out.mono ?_
  clear HMK x0 x1 x2 x3 x4 x5 f0 f1
  rintro e W8 ⟨hb8, h⟩
  have hxa8 := Blk.below HXA.out hb8 HXA.out.lt
  have HB8 := Lib.hid (HB7.out.trans (hb8.mono HB7.out.size)); have HXA := Lib.hid hxa8
  have HZ8 := Lib.hid (show Y + 2 <= W8.heap.size by have := hb8.size; have := HZ7.out; omega)
  have HB78 := Lib.hid hb8
  have HB68 := Lib.hid (HB67.out.trans (hb8.mono HB67.out.size))
  clear hxa8 HB7 HB67 hb8 HN HZ7
  rcases h with ⟨h1, v, rfl, hsv⟩ | ⟨h1, rfl⟩
  rotate_left
  ·have hi1 : is = false := by rw [HIS.out]; simpa using h1
   subst hi1
   go_wp2_with fail
   go_ret
   exact ⟨rfl, HB8.out.alloc HB8.out.size _⟩
  have hi1 : is = true := by rw [HIS.out]; simpa using h1
  subst hi1
  obtain ⟨rfl, rfl, rfl, hm4, rfl, hsr, how⟩ := HSR.out h1
  have hrb := hsv.reads
  have hok := sideOf_ok (ixN kD) p HOK.out.wb
  rw [HS.out] at hok
  rw [show (sStar s).n = s.n from rfl, show (sStar s).sets = s.sets from rfl, show (sStar s).ends = s.ends from rfl, show (sStar s).first = s.first from rfl, show (sStar s).none_ = 0 from rfl] at hrb
  have hokb := sStar_ok hok
  obtain ⟨fb, hfb⟩ : ∃ f, (sStar s).arc = f := ⟨_, rfl⟩
  rw [hfb] at hrb
  obtain ⟨B1, d1, B2, d2, B3, d3, B4, d4, rfl, -⟩ := hrb.ex
  obtain ⟨mb, hmb⟩ : ∃ m, (arcsOf s.n fb).length = m := ⟨_, rfl⟩
  rw [hmb] at hrb ⊢
  have hxx8 := Blk.below HXX7.out HB78.out HXX7.out.lt
  have hxf8 := Blk.below HXF7.out HB78.out HXF7.out.lt
  have hT8 : TreeV true W8 (fun g => g < W8.heap.size) (.agg #[.int .i64 k1, .int .i64 lo1, .int .i64 hi1, .int .i64 wt1, .string nm, .slice A1 n1 c1]) p.tree := (HT7.out.fr HB78.out).keep (fun g hg => by have := HB78.out.size; omega) (fun _ _ _ _ h => h)
  have hN8 : Names W8 (fun g => g < W8.heap.size) (.slice dA 4 dc) kD := (HN7.out.fr HB78.out).keep (fun g hg => by have := HB78.out.size; omega) (fun _ _ _ _ h => h)
  have hsr8 := hsr.below HB68.out
  obtain ⟨B, hB⟩ : ∃ B, W8.heap.size = B := ⟨_, rfl⟩
  obtain ⟨W9, hW9⟩ : ∃ W9, W8.alloc (.cells #[.slice B1 s.n d1, .slice B2 s.n d2, .slice B3 s.n d3, .slice B4 mb d4, .int .i64 0] 39) = W9 := ⟨_, rfl⟩
  have hb9 : Below W8.heap.size W8 W9 := by rw [<- hW9]; exact (Below.refl _ _).alloc (Nat.le_refl _) _
  have hz9 : W9.heap.size = B + 1 := by rw [<- hW9, <- hB]; simp
  have hxb9 : Blk W9 B 39 #[.slice B1 s.n d1, .slice B2 s.n d2, .slice B3 s.n d3, .slice B4 mb d4, .int .i64 0] := by rw [<- hW9, <- hB]; exact Blk.new _ _ _
  have hxa9 := Blk.below HXA.out hb9 HXA.out.lt
  have hxx9 := Blk.below hxx8 hb9 hxx8.lt
  have hxf9 := Blk.below hxf8 hb9 hxf8.lt
  have hT9 : TreeV true W9 (fun g => g < W9.heap.size) (.agg #[.int .i64 k1, .int .i64 lo1, .int .i64 hi1, .int .i64 wt1, .string nm, .slice A1 n1 c1]) p.tree := (hT8.fr hb9).keep (fun g hg => by omega) (fun _ _ _ _ h => h)
  have hN9 : Names W9 (fun g => g < W9.heap.size) (.slice dA 4 dc) kD := (hN8.fr hb9).keep (fun g hg => by omega) (fun _ _ _ _ h => h)
  have hsa9 := hsr8.below hb9
  have hsb9 := hrb.below hb9
  have hfr : ∀ W, Below W9.heap.size W9 W -> Blk W Y 39 #[.slice S1 s.n s1, .slice S2 s.n s2, .slice S3 s.n s3, .slice S4 m4 s4, .int .i64 s.none_] /\ Blk W B 39 #[.slice B1 s.n d1, .slice B2 s.n d2, .slice B3 s.n d3, .slice B4 mb d4, .int .i64 0] := fun W hW => ⟨Blk.below hxa9 hW hxa9.lt, Blk.below hxb9 hW hxb9.lt⟩
  have hfx : ∀ W, Below W9.heap.size W9 W -> Blk W X 33 #[.int .i64 k1, .int .i64 lo1, .int .i64 hi1, .int .i64 wt1, .string nm, .slice A1 n1 c1] /\ Blk W F 30 #[.slice dA 4 dc, .slice none 0 0] /\ TreeV true W (fun g => g < W9.heap.size) (.agg #[.int .i64 k1, .int .i64 lo1, .int .i64 hi1, .int .i64 wt1, .string nm, .slice A1 n1 c1]) p.tree /\ Names W (fun g => g < W9.heap.size) (.slice dA 4 dc) kD := fun W hW => ⟨Blk.below hxx9 hW hxx9.lt, Blk.below hxf9 hW hxf9.lt, hT9.fr hW, hN9.fr hW⟩
  have hra : ∀ W, Below W9.heap.size W9 W -> SideR W (.agg #[.slice S1 s.n s1, .slice S2 s.n s2, .slice S3 s.n s3, .slice S4 m4 s4, .int .i64 s.none_]) s.n s.sets s.first s.ends (arcsOf s.n s.arc) s.none_ := fun W hW => hsa9.below hW
  have hrB : ∀ W, Below W9.heap.size W9 W -> SideR W (.agg #[.slice B1 s.n d1, .slice B2 s.n d2, .slice B3 s.n d3, .slice B4 mb d4, .int .i64 0]) s.n s.sets s.first s.ends (arcsOf s.n fb) 0 := fun W hW => hsb9.below hW
  have hnb : s.n <= 120 := by
   have e1 := sizeC_min p
   rw [HSZ.out] at e1
   have e2 := sideOf_n (ixN kD) p
   rw [HS.out] at e2
   omega
  have y0 := Blk.cell hxa9 0; have y1 := Blk.cell hxa9 1; have y2 := Blk.cell hxa9 2; have y3 := Blk.cell hxa9 3; have y4 := Blk.cell hxa9 4
  have z0 := Blk.cell hxb9 0; have z1 := Blk.cell hxb9 1; have z2 := Blk.cell hxb9 2; have z3 := Blk.cell hxb9 3; have z4 := Blk.cell hxb9 4
  simp only [List.getElem?_toArray, List.getElem?_cons_zero, List.getElem?_cons_succ] at y0 y1 y2 y3 y4 z0 z1 z2 z3 z4
  rw [<- hW9] at y0 y1 y2 y3 y4 z0 z1 z2 z3 z4
  have HFR := Lib.hid hfr; have HFX := Lib.hid hfx; have HRA := Lib.hid hra; have HRB := Lib.hid hrB; have HOKS := Lib.hid hok; have HOKB := Lib.hid hokb; have HFB := Lib.hid hfb; have HMB := Lib.hid hmb; have HM4 := Lib.hid hm4; have HB9 := Lib.hid (HB8.out.trans (hb9.mono HB8.out.size)); have HW9 := Lib.hid hW9; have HZ9 := Lib.hid hz9; have HNB := Lib.hid hnb; have HYB := Lib.hid (show Y < B by have := HZ8.out; omega)
  clear hfr hfx hra hrB hok hokb hfb hmb hm4 hb9 hW9 hz9 hxb9 hxa9 hxx9 hxf9 hT9 hN9 hsa9 hsb9 hrb hsv hsr how hsr8 hxx8 hxf8 hT8 hN8 HXX7 HXF7 HT7 HN7 HB78 HB8 HB68 HIS HXA HSR
  go_wp2_with fail
  rw [HW9.out]
  refine (sints_any (HRA.out _ (Below.refl _ _)).forms.2.2.1 (HRB.out _ (Below.refl _ _)).forms.2.2.1).mono ?_
  rintro e w11 ⟨rfl, hb⟩
  clear y0 y1 y2 y3 y4 z0 z1 z2 z3 z4
  have hr := hb
  obtain ⟨hxa, hxb⟩ := HFR.out _ hr
  have y0 := Blk.cell hxa 0; have z0 := Blk.cell hxb 0
  have y1 := Blk.cell hxa 1; have z1 := Blk.cell hxb 1
  have y2 := Blk.cell hxa 2; have z2 := Blk.cell hxb 2
  have y3 := Blk.cell hxa 3; have z3 := Blk.cell hxb 3
  have y4 := Blk.cell hxa 4; have z4 := Blk.cell hxb 4
  simp only [List.getElem?_toArray, List.getElem?_cons_zero, List.getElem?_cons_succ] at y0 y1 y2 y3 y4 z0 z1 z2 z3 z4
  clear hxa hxb
  have HR := Lib.hid hr
  clear hb hr
  go_wp2_with fail
  refine (sints_any (HRA.out _ HR.out).forms.2.2.2.1 (HRB.out _ HR.out).forms.2.2.2.1).mono ?_
  rintro e w12 ⟨rfl, hb⟩
  clear y0 y1 y2 y3 y4 z0 z1 z2 z3 z4
  have hr := HR.out.trans (hb.mono HR.out.size)
  clear HR
  obtain ⟨hxa, hxb⟩ := HFR.out _ hr
  have y0 := Blk.cell hxa 0; have z0 := Blk.cell hxb 0
  have y1 := Blk.cell hxa 1; have z1 := Blk.cell hxb 1
  have y2 := Blk.cell hxa 2; have z2 := Blk.cell hxb 2
  have y3 := Blk.cell hxa 3; have z3 := Blk.cell hxb 3
  have y4 := Blk.cell hxa 4; have z4 := Blk.cell hxb 4
  simp only [List.getElem?_toArray, List.getElem?_cons_zero, List.getElem?_cons_succ] at y0 y1 y2 y3 y4 z0 z1 z2 z3 z4
  clear hxa hxb
  have HR := Lib.hid hr
  clear hb hr
  go_wp2_with fail
  refine (sints_any (HRA.out _ HR.out).forms.2.1 (HRB.out _ HR.out).forms.2.1).mono ?_
  rintro e w13 ⟨rfl, hb⟩
  clear y0 y1 y2 y3 y4 z0 z1 z2 z3 z4
  have hr := HR.out.trans (hb.mono HR.out.size)
  clear HR
  obtain ⟨hxa, hxb⟩ := HFR.out _ hr
  have y0 := Blk.cell hxa 0; have z0 := Blk.cell hxb 0
  have y1 := Blk.cell hxa 1; have z1 := Blk.cell hxb 1
  have y2 := Blk.cell hxa 2; have z2 := Blk.cell hxb 2
  have y3 := Blk.cell hxa 3; have z3 := Blk.cell hxb 3
  have y4 := Blk.cell hxa 4; have z4 := Blk.cell hxb 4
  simp only [List.getElem?_toArray, List.getElem?_cons_zero, List.getElem?_cons_succ] at y0 y1 y2 y3 y4 z0 z1 z2 z3 z4
  clear hxa hxb
  have HR := Lib.hid hr
  clear hb hr
  go_wp2_with fail
  clear y0 y1 y2 y3 y4 z0 z1 z2 z3 z4
  have HR0 := HR
  clear HR
  go_loopw [9] (fun i wr => ∃ (k : Nat), i = .int .i64 k /\ k <= mb /\ Hid (Below W9.heap.size W9 wr)) (fun i _ => mb - (intOf i).toNat)
  case atStart => exact ⟨0, rfl, Nat.zero_le _, HR0⟩
  case round =>
   clear HR0
   obtain ⟨k, rfl, hk, HR⟩ := hrel
   have i0 : (0 : Int) <= (k : Int) := Int.natCast_nonneg _
   have hnb := HNB.out
   obtain ⟨hxa, hxb⟩ := HFR.out _ HR.out
   have y0 := Blk.cell hxa 0; have z0 := Blk.cell hxb 0
   have y1 := Blk.cell hxa 1; have z1 := Blk.cell hxb 1
   have y2 := Blk.cell hxa 2; have z2 := Blk.cell hxb 2
   have y3 := Blk.cell hxa 3; have z3 := Blk.cell hxb 3
   have y4 := Blk.cell hxa 4; have z4 := Blk.cell hxb 4
   simp only [List.getElem?_toArray, List.getElem?_cons_zero, List.getElem?_cons_succ] at y0 y1 y2 y3 y4 z0 z1 z2 z3 z4
   clear hxa hxb
   have hm64 : mb <= 9223372036854775807 := by obtain ⟨_, _, _, q1, q2, _⟩ := (HRB.out _ HR.out).forms.2.2.2.2.form; omega
   by_cases hlt : k < mb
   ·have i1 : (k : Int) < (mb : Int) := by omega
    have hkl : k < (arcsOf s.n fb).length := by rw [HMB.out]; exact hlt
    have hgl := List.getElem?_eq_getElem hkl
    obtain ⟨ci, cj, hci, hcj, hx, hfi⟩ := arcsOf_mem (List.getElem_mem hkl)
    rw [hx] at hgl
    obtain ⟨b, off, rfl, -, hc⟩ := (HRB.out _ HR.out).forms.2.2.2.2.at encA_len (by omega) k _ hgl
    have e0 := hc 0 _ rfl; have e1 := hc 1 _ rfl; have e2 := hc 2 _ rfl
    simp only [Nat.add_zero] at e0
    have hfv : fb ci cj = mnC (s.arc ci cj) (plC (s.ends.getD ci infC) (s.first.getD cj infC)) := by
     rw [<- HFB.out, sStar_arc, if_pos ⟨hci, hcj⟩]
    obtain ⟨v, hv⟩ : ∃ v, fb ci cj = v := ⟨_, rfl⟩
    rw [hv] at e2 hfv
    have ci0 : (0 : Int) <= (ci : Int) := Int.natCast_nonneg _
    have cj0 : (0 : Int) <= (cj : Int) := Int.natCast_nonneg _
    have ci1 : (ci : Int) < (s.n : Int) := by omega
    have cj1 : (cj : Int) < (s.n : Int) := by omega
    obtain ⟨C, hC⟩ : ∃ C, wr.heap.size = C := ⟨_, rfl⟩
    obtain ⟨W10, hW10⟩ : ∃ W10, wr.alloc (.cells #[.int .i64 ci, .int .i64 cj, .int .i64 v] 58) = W10 := ⟨_, rfl⟩
    have hb10 : Below wr.heap.size wr W10 := by rw [<- hW10]; exact (Below.refl _ _).alloc (Nat.le_refl _) _
    have hxc : Blk W10 C 58 #[.int .i64 ci, .int .i64 cj, .int .i64 v] := by rw [<- hW10, <- hC]; exact Blk.new _ _ _
    have hr10 := HR.out.trans (hb10.mono HR.out.size)
    have c0 := Blk.cell hxc 0; have c1 := Blk.cell hxc 1; have c2 := Blk.cell hxc 2
    obtain ⟨hxa, hxb⟩ := HFR.out _ hr10
    have a0 := Blk.cell hxa 0
    simp only [List.getElem?_toArray, List.getElem?_cons_zero, List.getElem?_cons_succ] at c0 c1 c2 a0
    rw [<- hW10] at c0 c1 c2 a0
    have HXC := Lib.hid hxc; have HR10 := Lib.hid hr10; have HFV := Lib.hid hfv; have HW10 := Lib.hid hW10
    clear hxc hr10 hfv hW10 hb10 hxa hxb hc hx hfi hgl hkl hv
    obtain ⟨-, -, hrf, hre, -⟩ := (HRA.out _ HR10.out).forms
    obtain ⟨gf, of, hgf, -, hfc⟩ := hrf.at cj hcj
    obtain ⟨ge, oe, hge, -, hec⟩ := hre.at ci hci
    subst hgf
    subst hge
    obtain ⟨ev, hev⟩ : ∃ e, s.ends.getD ci infC = e := ⟨_, rfl⟩
    obtain ⟨fv, hfv⟩ : ∃ e, s.first.getD cj infC = e := ⟨_, rfl⟩
    have hEe : s.ends.getD ci 0 = ev := by
     rw [<- hev, List.getD_eq_getElem?_getD, List.getD_eq_getElem?_getD, List.getElem?_eq_getElem (show ci < s.ends.length by rw [HOKS.out.le]; exact hci)]
     rfl
    have hFe : s.first.getD cj 0 = fv := by
     rw [<- hfv, List.getD_eq_getElem?_getD, List.getD_eq_getElem?_getD, List.getElem?_eq_getElem (show cj < s.first.length by rw [HOKS.out.lf]; exact hcj)]
     rfl
    rw [hEe] at hec
    rw [hFe] at hfc
    have hfvv := HFV.out
    rw [hev, hfv] at hfvv
    have HEV : Hid (IsCost ev) := Lib.hid (by rw [<- hev]; exact getD_cost HOKS.out.ce ci)
    have HFW : Hid (IsCost fv) := Lib.hid (by rw [<- hfv]; exact getD_cost HOKS.out.cf cj)
    have HYA := Lib.hid (HFR.out _ HR10.out).1
    have HEC := Lib.hid hec; have HFC := Lib.hid hfc; have HFV2 := Lib.hid hfvv
    have hwi : CostC (plC ev fv) := plC_is HEV.out HFW.out
    have hlst := least_of HOKS.out.ca hci hcj (plC ev fv) hwi
    rw [<- HFV2.out] at hlst
    obtain ⟨w00, hw00⟩ : ∃ z, plC ev fv = z := ⟨_, rfl⟩
    have hpl : plus ev fv = w00 := hw00
    rw [hw00] at hlst hwi
    have HLST := Lib.hid hlst; have HPL := Lib.hid hpl
    clear hrf hre hfc hec hev hfv hEe hFe hfvv hlst HFV hw00 hpl
    go_wp2_with fail
    rw [HW10.out]
    refine region_x 13 (fun w' : World => w'.cell? ⟨Y, 1, none⟩ = some (.slice (some ⟨gf, of, none⟩) s.n s2) /\ w'.cell? ⟨Y, 2, none⟩ = some (.slice (some ⟨ge, oe, none⟩) s.n s3) /\ w'.cell? ⟨C, 0, none⟩ = some (.int .i64 ci) /\ w'.cell? ⟨C, 1, none⟩ = some (.int .i64 cj) /\ w'.cell? ⟨ge, oe + ci, none⟩ = some (.int .i64 ev) /\ w'.cell? ⟨gf, of + cj, none⟩ = some (.int .i64 fv)) (by kernel_rfl) ?_
    have hS : (fun w' : World => w'.cell? ⟨Y, 1, none⟩ = some (.slice (some ⟨gf, of, none⟩) s.n s2) /\ w'.cell? ⟨Y, 2, none⟩ = some (.slice (some ⟨ge, oe, none⟩) s.n s3) /\ w'.cell? ⟨C, 0, none⟩ = some (.int .i64 ci) /\ w'.cell? ⟨C, 1, none⟩ = some (.int .i64 cj) /\ w'.cell? ⟨ge, oe + ci, none⟩ = some (.int .i64 ev) /\ w'.cell? ⟨gf, of + cj, none⟩ = some (.int .i64 fv)) W10.drew := ⟨Blk.cell HYA.out 1, Blk.cell HYA.out 2, Blk.cell HXC.out 0, Blk.cell HXC.out 1, HEC.out, HFC.out⟩
    have hxc := HXC.out.drew
    have hr10 := HR10.out.trans ((Below.refl _ _).drew)
    obtain ⟨V0, eV⟩ : ∃ W', W10.drew = W' := ⟨_, rfl⟩
    rw [eV] at hS hxc hr10 ⊢
    clear eV
    refine tkx (i := 0) (v := ?_) hS ?_ ?_
    rotate_left
    ·rintro w' ⟨b0, b1, b2, b3, b4, b5⟩
     go_simp
     try with_reducible rfl
    try simp only [Act.put, zq1, zq2, zq3, zq4, zq5, zq6]
    refine tkx (i := 1) (v := ?_) hS ?_ ?_
    rotate_left
    ·rintro w' ⟨b0, b1, b2, b3, b4, b5⟩
     go_simp
     try with_reducible rfl
    try simp only [Act.put, zq1, zq2, zq3, zq4, zq5, zq6]
    refine tkx (i := 2) (v := ?_) hS ?_ ?_
    rotate_left
    ·rintro w' ⟨b0, b1, b2, b3, b4, b5⟩
     go_simp
     try with_reducible rfl
    try simp only [Act.put, zq1, zq2, zq3, zq4, zq5, zq6]
    refine tkx (i := 3) (v := ?_) hS ?_ ?_
    rotate_left
    ·rintro w' ⟨b0, b1, b2, b3, b4, b5⟩
     go_simp
     try with_reducible rfl
    try simp only [Act.put, zq1, zq2, zq3, zq4, zq5, zq6]
    refine tkx (i := 4) (v := ?_) hS ?_ ?_
    rotate_left
    ·rintro w' ⟨b0, b1, b2, b3, b4, b5⟩
     go_simp
     try with_reducible rfl
    try simp only [Act.put, zq1, zq2, zq3, zq4, zq5, zq6]
    refine tkx (i := 5) (v := ?_) hS ?_ ?_
    rotate_left
    ·rintro w' ⟨b0, b1, b2, b3, b4, b5⟩
     go_simp
     try with_reducible rfl
    try simp only [Act.put, zq1, zq2, zq3, zq4, zq5, zq6]
    refine tkx (i := 6) (v := ?_) hS ?_ ?_
    rotate_left
    ·rintro w' ⟨b0, b1, b2, b3, b4, b5⟩
     go_simp
     try with_reducible rfl
    try simp only [Act.put, zq1, zq2, zq3, zq4, zq5, zq6]
    refine tkx (i := 7) (v := ?_) hS ?_ ?_
    rotate_left
    ·rintro w' ⟨b0, b1, b2, b3, b4, b5⟩
     go_simp
     try with_reducible rfl
    try simp only [Act.put, zq1, zq2, zq3, zq4, zq5, zq6]
    refine tkx (i := 8) (v := ?_) hS ?_ ?_
    rotate_left
    ·rintro w' ⟨b0, b1, b2, b3, b4, b5⟩
     go_simp
     try with_reducible rfl
    try simp only [Act.put, zq1, zq2, zq3, zq4, zq5, zq6]
    refine tkx (i := 9) (v := ?_) hS ?_ ?_
    rotate_left
    ·rintro w' ⟨b0, b1, b2, b3, b4, b5⟩
     go_simp
     try with_reducible rfl
    try simp only [Act.put, zq1, zq2, zq3, zq4, zq5, zq6]
    refine tkx (i := 10) (v := ?_) hS ?_ ?_
    rotate_left
    ·rintro w' ⟨b0, b1, b2, b3, b4, b5⟩
     go_simp
     try with_reducible rfl
    try simp only [Act.put, zq1, zq2, zq3, zq4, zq5, zq6]
    refine tkx (i := 11) (v := ?_) hS ?_ ?_
    rotate_left
    ·rintro w' ⟨b0, b1, b2, b3, b4, b5⟩
     go_simp
     try with_reducible rfl
    try simp only [Act.put, zq1, zq2, zq3, zq4, zq5, zq6]
    refine anyX_g (i := 12) (by kernel_rfl) (by decide) rfl (by rfl) ?_
    intro K hK
    try simp only [zq1, zq2, zq3]
    refine wp_enterE #[.int .i64 ev, .int .i64 fv] Tryz.func32 (by kernel_rfl) (by kernel_rfl) ?_ (srefadd_any ev fv V0 HEV.out HFW.out) ?_
    ·go_simp
    rintro e w6 ⟨rfl, rfl⟩
    refine ⟨_, rfl, ?_⟩
    refine hK _ _ hS ?_
    clear hK
    try simp only [Act.put, zq1, zq2, zq3, zq4, zq5, zq6]
    refine anyX_last (by kernel_rfl) (by kernel_rfl) rfl rfl ?_
    try simp only [zq1, zq2, zq3]
    go_simp
    try apply_assumption
    try rw [HPL.out]
    have hae := (HRA.out _ hr10).forms.2.2.2.2
    have hm464 : m4 <= 9223372036854775807 := by obtain ⟨_, _, _, q1, q2, _⟩ := hae.form; omega
    have HAE := Lib.hid hae; have HXC := Lib.hid hxc; have HYV := Lib.hid (HFR.out _ hr10).1; have HRV := Lib.hid hr10
    clear hae hxc hr10 hS HYA HEC HFC HPL y0 y1 y2 y3 y4 z0 z1 z2 z3 z4
    go_wp2_with fail
    go_loopg [11, 12] m4 (fun gk vw vi wi => ∃ (t m : Nat), vw = .int .i64 (((arcsOf s.n s.arc).take t).foldl (leastAt ci cj) w00) /\ vi = .int .i64 t /\ gk = m4 - t /\ t <= m4 /\ wi = V0.drewN m)
    case atStart => exact ⟨0, 0, rfl, rfl, rfl, Nat.zero_le _, rfl⟩
    case round =>
     obtain ⟨t, m, rfl, rfl, hgk, ht, rfl⟩ := hrel
     have HGK := Lib.hid hgk; clear hgk
     have t0 : (0 : Int) <= (t : Int) := Int.natCast_nonneg _
     obtain ⟨cw, hcw⟩ : ∃ z, ((arcsOf s.n s.arc).take t).foldl (leastAt ci cj) w00 = z := ⟨_, rfl⟩
     rw [hcw]
     have y3 := Blk.cell HYV.out 3
     have c0 := Blk.cell HXC.out 0; have c1 := Blk.cell HXC.out 1; have c2 := Blk.cell HXC.out 2
     simp only [List.getElem?_toArray, List.getElem?_cons_zero, List.getElem?_cons_succ] at y3 c0 c1 c2
     by_cases hlt2 : t < m4
     ·have t1 : (t : Int) < (m4 : Int) := by omega
      have htl : t < (arcsOf s.n s.arc).length := by rw [<- HM4.out]; exact hlt2
      have hgl := List.getElem?_eq_getElem htl
      obtain ⟨yi, yj, hyi, hyj, hx, -⟩ := arcsOf_mem (List.getElem_mem htl)
      have hnx : ((arcsOf s.n s.arc).take (t + 1)).foldl (leastAt ci cj) w00 = leastAt ci cj cw (arcsOf s.n s.arc)[t] := by
       rw [List.take_succ_eq_append_getElem htl, List.foldl_append, hcw]
       rfl
      rw [hx] at hgl hnx
      obtain ⟨yw, hyw⟩ : ∃ z, s.arc yi yj = z := ⟨_, rfl⟩
      rw [hyw] at hgl hnx
      obtain ⟨b', off', rfl, -, hc⟩ := HAE.out.at encA_len (by omega) t _ hgl
      have g0 := hc 0 _ rfl; have g1 := hc 1 _ rfl; have g2 := hc 2 _ rfl
      simp only [Nat.add_zero] at g0
      rw [show leastAt (ci : Int) (cj : Int) cw ((yi : Int), (yj : Int), yw) = if (yi : Int) = ci /\ (yj : Int) = cj then min cw yw else cw from rfl] at hnx
      have HNX := Lib.hid hnx
      clear hc hx hgl htl hnx hcw hyw
      by_cases hA : yi = ci
      ·subst hA
       by_cases hB : yj = cj
       ·subst hB
        have hnw := HNX.out
        rw [if_pos ⟨rfl, rfl⟩] at hnw
        have hmnl : (if yw < cw then yw else cw) = min cw yw := by split <;> omega
        have HMN := Lib.hid hmnl; have HNW := Lib.hid hnw
        clear hmnl hnw
        go_wp2_with fail
        go_quiet (fail)
        go_wp2_with fail
        go_roundg (m4 - (t + 1))
        case measure => have := HGK.out; omega
        case rel => exact ⟨t + 1, _, by rw [HNW.out], by go_num, rfl, by omega, rfl⟩
       ·have hB1 : ¬ (yj : Int) = (cj : Int) := by omega
        have hB2 : ((yj : Int) == (cj : Int)) = false := by simpa using hB1
        have hnw := HNX.out
        rw [if_neg (fun h => hB1 h.2)] at hnw
        have HNW := Lib.hid hnw
        clear hnw
        go_wp2_with fail
        go_quiet (fail)
        go_wp2_with fail
        go_roundg (m4 - (t + 1))
        case measure => have := HGK.out; omega
        case rel => exact ⟨t + 1, _, by rw [HNW.out], by go_num, rfl, by omega, rfl⟩
      ·have hA1 : ¬ (yi : Int) = (ci : Int) := by omega
       have hA2 : ((yi : Int) == (ci : Int)) = false := by simpa using hA1
       have hnw := HNX.out
       rw [if_neg (fun h => hA1 h.1)] at hnw
       have HNW := Lib.hid hnw
       clear hnw
       go_wp2_with fail
       go_quiet (fail)
       go_wp2_with fail
       go_roundg (m4 - (t + 1))
       case measure => have := HGK.out; omega
       case rel => exact ⟨t + 1, _, by rw [HNW.out], by go_num, rfl, by omega, rfl⟩
     ·have htm : t = m4 := by omega
      have hcv : cw = v := by
       rw [<- hcw, htm, HM4.out, List.take_length]
       exact HLST.out
      subst hcv
      have HRX := Lib.hid (HRV.out.trans (show Below W9.heap.size V0 (V0.drewN m) from ⟨rfl, rfl, rfl, Nat.le_refl _, fun _ _ => rfl⟩))
      clear hcw
      go_wp2_with fail
      exact ⟨⟨k + 1, by go_num, by omega, HRX⟩, by simp [intOf]; omega⟩
   ·obtain ⟨hxx, hxf, hTx, hNx⟩ := HFX.out _ HR.out
    have hrz := HR.out.size
    obtain ⟨H, hH⟩ : ∃ H, wr.heap.size = H := ⟨_, rfl⟩
    obtain ⟨W12, hW12⟩ : ∃ W12, (wr.alloc (.cells #[.int .i64 k1, .int .i64 lo1, .int .i64 hi1, .int .i64 wt1, .string nm, .slice A1 n1 c1] 33)).alloc (.cells #[.int .i64 6, .int .i64 0, .int .i64 0, .int .i64 0, .string ⟨#[]⟩, .slice (some ⟨H, 0, none⟩) 1 1] 33) = W12 := ⟨_, rfl⟩
    have hb12 : Below wr.heap.size wr W12 := by rw [<- hW12]; exact ((Below.refl _ _).alloc (Nat.le_refl _) _).alloc (by simp) _
    have hz12 : W12.heap.size = H + 2 := by rw [<- hW12, <- hH]; simp
    have hx1 : Blk W12 H 33 #[.int .i64 k1, .int .i64 lo1, .int .i64 hi1, .int .i64 wt1, .string nm, .slice A1 n1 c1] := by rw [<- hW12, <- hH]; exact Blk.alloc (Blk.new _ _ _) _
    have hx2 : Blk W12 (H + 1) 33 #[.int .i64 6, .int .i64 0, .int .i64 0, .int .i64 0, .string ⟨#[]⟩, .slice (some ⟨H, 0, none⟩) 1 1] := by
     rw [<- hW12, <- hH]
     have := Blk.new (wr.alloc (.cells #[.int .i64 k1, .int .i64 lo1, .int .i64 hi1, .int .i64 wt1, .string nm, .slice A1 n1 c1] 33)) 33 #[.int .i64 6, .int .i64 0, .int .i64 0, .int .i64 0, .string ⟨#[]⟩, .slice (some ⟨wr.heap.size, 0, none⟩) 1 1]
     rwa [World.size_alloc] at this
    have hT12 : TreeV true W12 (fun g => g < W12.heap.size) (.agg #[.int .i64 k1, .int .i64 lo1, .int .i64 hi1, .int .i64 wt1, .string nm, .slice A1 n1 c1]) p.tree := hTx.bel (fun g hg => by omega) hb12
    have hS1 : TreeV true W12 (fun g => g < W12.heap.size) (.agg #[.int .i64 6, .int .i64 0, .int .i64 0, .int .i64 0, .string ⟨#[]⟩, .slice (some ⟨H, 0, none⟩) 1 1]) (Pat.star p).tree := TreeV.one6 6 0 0 0 hx1 hT12 (by omega)
    have hS2 : TreeV true W12 (fun g => g < W12.heap.size) (.agg #[.int .i64 6, .int .i64 0, .int .i64 0, .int .i64 0, .string ⟨#[]⟩, .slice (some ⟨H + 1, 0, none⟩) 1 1]) (Pat.star (.star p)).tree := TreeV.one6 6 0 0 0 hx2 hS1 (by omega)
    have hN12 : Names W12 (fun g => g < W12.heap.size) (.slice dA 4 dc) kD := (hNx.fr (hb12.mono hrz)).keep (fun g hg => by omega) (fun _ _ _ _ h => h)
    have hmk := smake_any (.star (.star p)) true HOK.out (by decide) W12 _ dA none 4 dc 0 0 hS2 hN12
    rw [show sizeC (Pat.star (.star p)) = sizeC p from rfl, HSZ.out, show sideOf (ixN kD) (Pat.star (.star p)) = sStar (sStar (sideOf (ixN kD) p)) from rfl, HS.out, sStar_star] at hmk
    have x0 := Blk.cell hxx 0; have x1 := Blk.cell hxx 1; have x2 := Blk.cell hxx 2; have x3 := Blk.cell hxx 3; have x4 := Blk.cell hxx 4; have x5 := Blk.cell hxx 5
    have hxf12 := Blk.below hxf hb12 hxf.lt
    have f0 := Blk.cell hxf12 0; have f1 := Blk.cell hxf12 1
    simp only [List.getElem?_toArray, List.getElem?_cons_zero, List.getElem?_cons_succ] at x0 x1 x2 x3 x4 x5 f0 f1
    rw [<- hW12] at f0 f1
    have HMK := Lib.hid hmk; have HR12 := Lib.hid (HR.out.trans (hb12.mono hrz)); have HW12 := Lib.hid hW12
    clear hxx hxf hTx hNx hb12 hz12 hx1 hx2 hT12 hS1 hS2 hN12 hmk hxf12 hW12 y0 y1 y2 y4 z0 z1 z2 z4 hrz
    go_wp2_with fail
    rw [HW12.out]
    refine HMK.out.mono ?_
    clear HMK x0 x1 x2 x3 x4 x5 f0 f1
    rintro e W13 ⟨hb13, h⟩
    rcases h with ⟨-, v, rfl, hsv⟩ | ⟨h2, -⟩
    rotate_left
    ·omega
    have hrc := hsv.reads
    rw [show (sStar s).n = s.n from rfl, show (sStar s).sets = s.sets from rfl, show (sStar s).ends = s.ends from rfl, show (sStar s).first = s.first from rfl, show (sStar s).none_ = 0 from rfl, HFB.out] at hrc
    obtain ⟨D1, q1, D2, q2, D3, q3, D4, q4, rfl, -⟩ := hrc.ex
    rw [HMB.out] at hrc ⊢
    obtain ⟨W14, hW14⟩ : ∃ W14, W13.alloc (.cells #[.slice D1 s.n q1, .slice D2 s.n q2, .slice D3 s.n q3, .slice D4 mb q4, .int .i64 0] 39) = W14 := ⟨_, rfl⟩
    have hb14 : Below W13.heap.size W13 W14 := by rw [<- hW14]; exact (Below.refl _ _).alloc (Nat.le_refl _) _
    have hr14 := (HR12.out.trans (hb13.mono HR12.out.size)).trans (hb14.mono (by have h1 := HR12.out.size; have h2 := hb13.size; omega))
    have hxb := (HFR.out _ hr14).2
    have hsm := ssame_any (HRB.out _ hr14) (hrc.below hb14) (by have := HNB.out; omega)
    have z0 := Blk.cell hxb 0; have z1 := Blk.cell hxb 1; have z2 := Blk.cell hxb 2; have z3 := Blk.cell hxb 3; have z4 := Blk.cell hxb 4
    simp only [List.getElem?_toArray, List.getElem?_cons_zero, List.getElem?_cons_succ] at z0 z1 z2 z3 z4
    rw [<- hW14] at z0 z1 z2 z3 z4
    have HSM := Lib.hid hsm; have HW14 := Lib.hid hW14; have HBF := Lib.hid (HB9.out.trans (hr14.mono HB9.out.size))
    clear hsm hW14 hr14 hxb hb14 hrc hsv hb13
    go_wp2_with fail
    rw [HW14.out]
    refine HSM.out.mono ?_
    rintro e w15 ⟨rfl, hb15⟩
    go_wp2_with fail
    go_ret
    exact ⟨rfl, HBF.out.trans (hb15.mono HBF.out.size)⟩
end Go.Proofs.YtfccnadbiglagaaGreat
