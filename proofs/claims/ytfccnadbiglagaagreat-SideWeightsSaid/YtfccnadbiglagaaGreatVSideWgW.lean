/- Contract of the document's own Same of sides, at two that read alike. The law SideWeights, walked. -/
import Derived.Test.YtfccnadbiglagaaGreatVSideNa
import Derived.Test.YtfccnadbiglagaaGreatVSideKp
import Derived.Test.YtfccnadbiglagaaGreatVAny
import Derived.Test.YtfccnadbiglagaaGreatVConcatI
set_option linter.unusedVariables false
set_option linter.unusedSimpArgs false
set_option maxRecDepth 100000
set_option maxHeartbeats 8000000
namespace Go.Proofs.YtfccnadbiglagaaGreat
open Go Go.RowKit Go.Proofs
theorem srefadd_any (a b : Int) (w : World) (ha : IsCost a) (hb : IsCost b) :
  Calls Tryz.prog 32 #[.int .i64 a, .int .i64 b] w fun e w' => e = .returned (.int .i64 (plus a b)) /\ w = w' := by
  obtain ⟨h1, h2⟩ := ha; obtain ⟨h3, h4⟩ := hb
  by_cases h : 1152921504606846976 <= a + b
  ·have hc : plus a b = 1152921504606846976 := if_pos h
   have HC := Lib.hid hc; clear hc
   go_enter Tryz.func32, Tryz.ntmps32
   go_wp2_with fail
   all_goals
    go_ret
    exact ⟨ret_int (by have := HC.out; omega), rfl⟩
  ·have hc : plus a b = a + b := if_neg h
   have HC := Lib.hid hc; clear hc
   go_enter Tryz.func32, Tryz.ntmps32
   go_wp2_with fail
   all_goals
    go_ret
    exact ⟨ret_int (by have := HC.out; omega), rfl⟩
theorem sints_any {w : World} {v u : Value} {n : Nat} {l : List Int} (h : ReadsI w v n l) (h' : ReadsI w u n l) :
  Calls Tryz.prog 33 #[v, u] w fun e w' => e = .returned (.bool true) /\ Below w.heap.size w w' := by
  obtain ⟨a, cap, rfl, q1, q2, -⟩ := h.form
  obtain ⟨a', cap', rfl, -, -, -⟩ := h'.form
  have H3 := Lib.hid h; have H3' := Lib.hid h'; clear h h'
  go_enter Tryz.func33, Tryz.ntmps33
  go_wp2_with fail
  go_loopw [5] (fun i wr => ∃ (k m : Nat), k <= n /\ i = .int .i64 k /\ wr = w.drewN m) (fun i _ => n - (intOf i).toNat)
  case atStart => exact ⟨0, 0, Nat.zero_le _, rfl, rfl⟩
  case round =>
   obtain ⟨k, m, hk, rfl, rfl⟩ := hrel
   by_cases hlt : k < n
   ·obtain ⟨b, off, rfl, -, c1⟩ := H3.out.at k hlt
    obtain ⟨b', off', rfl, -, c2⟩ := H3'.out.at k hlt
    have i0 : (0 : Int) <= (k : Int) := Int.natCast_nonneg _
    have i1 : (k : Int) < (n : Int) := by omega
    generalize l.getD k 0 = x at *
    go_wp2_with fail
    go_quiet (fail)
    go_wp2_with fail
    exact ⟨⟨k + 1, _, by omega, by go_num, rfl⟩, by simp [intOf]; omega⟩
   ·go_wp2
    go_ret
    exact ⟨rfl, ⟨rfl, rfl, rfl, Nat.le_refl _, fun _ _ => rfl⟩⟩
theorem ssame_any {w : World} {v u : Value} {n : Nat} {S F E : List Int} {L : List ArcP} {z : Int} (h : SideR w v n S F E L z) (h' : SideR w u n S F E L z) (hn : n <= 1000000000) :
  Calls Tryz.prog 19 #[v, u] w fun e w' => e = .returned (.bool true) /\ Below w.heap.size w w' := by
  have HS := Lib.hid h; have HS' := Lib.hid h'
  obtain ⟨A1, c1, A2, c2, A3, c3, A4, c4, rfl, -⟩ := h.ex
  obtain ⟨B1, d1, B2, d2, B3, d3, B4, d4, rfl, -⟩ := h'.ex
  clear h h'
  obtain ⟨nl, hnl⟩ : ∃ m, L.length = m := ⟨_, rfl⟩
  rw [hnl] at HS HS' ⊢
  obtain ⟨W0, hW0⟩ : ∃ W0, (w.alloc (.cells #[.slice A1 n c1, .slice A2 n c2, .slice A3 n c3, .slice A4 nl c4, .int .i64 z] 39)).alloc (.cells #[.slice B1 n d1, .slice B2 n d2, .slice B3 n d3, .slice B4 nl d4, .int .i64 z] 39) = W0 := ⟨_, rfl⟩
  have hb0 : Below w.heap.size w W0 := by rw [<- hW0]; exact ((Below.refl _ _).alloc (Nat.le_refl _) _).alloc (by simp) _
  obtain ⟨g, hg⟩ : ∃ g, w.heap.size = g := ⟨_, rfl⟩
  have hx0 : Blk W0 g 39 #[.slice A1 n c1, .slice A2 n c2, .slice A3 n c3, .slice A4 nl c4, .int .i64 z] := by rw [<- hW0, <- hg]; exact Blk.alloc (Blk.new _ _ _) _
  have hx1 : Blk W0 (g + 1) 39 #[.slice B1 n d1, .slice B2 n d2, .slice B3 n d3, .slice B4 nl d4, .int .i64 z] := by
   rw [<- hW0, <- hg]
   have := Blk.new (w.alloc (.cells #[.slice A1 n c1, .slice A2 n c2, .slice A3 n c3, .slice A4 nl c4, .int .i64 z] 39)) 39 #[.slice B1 n d1, .slice B2 n d2, .slice B3 n d3, .slice B4 nl d4, .int .i64 z]
   rwa [World.size_alloc] at this
  have y0 := Blk.cell hx0 0; have y1 := Blk.cell hx0 1; have y2 := Blk.cell hx0 2; have y3 := Blk.cell hx0 3; have y4 := Blk.cell hx0 4
  have z0 := Blk.cell hx1 0; have z1 := Blk.cell hx1 1; have z2 := Blk.cell hx1 2; have z3 := Blk.cell hx1 3; have z4 := Blk.cell hx1 4
  simp only [List.getElem?_toArray, List.getElem?_cons_zero, List.getElem?_cons_succ] at y0 y1 y2 y3 y4 z0 z1 z2 z3 z4
  have hs0 := HS.out.below hb0; have hs0' := HS'.out.below hb0
  obtain ⟨-, r1, r2, r3, r4⟩ := hs0.forms
  obtain ⟨-, q1, q2, q3, q4⟩ := hs0'.forms
  have HX0 := Lib.hid hx0; have HX1 := Lib.hid hx1; have HB0 := Lib.hid hb0; have HW0 := Lib.hid hW0
  have hR : ∀ W, Below W0.heap.size W0 W -> ReadsI W (.slice A1 n c1) n S /\ ReadsI W (.slice B1 n d1) n S /\ ReadsI W (.slice A2 n c2) n F /\ ReadsI W (.slice B2 n d2) n F /\ ReadsI W (.slice A3 n c3) n E /\ ReadsI W (.slice B3 n d3) n E /\ ReadsE encA 3 W (.slice A4 nl c4) nl L /\ ReadsE encA 3 W (.slice B4 nl d4) nl L := fun W hb => ⟨r1.below hb, q1.below hb, r2.below hb, q2.below hb, r3.below hb, q3.below hb, r4.below hb, q4.below hb⟩
  have HR := Lib.hid hR; have HNL := Lib.hid hnl
  clear hx0 hx1 hb0 hW0 hs0 hs0' r1 r2 r3 r4 q1 q2 q3 q4 hR hnl HS HS'
  rw [<- HW0.out, <- hg] at y0 y1 y2 y3 y4 z0 z1 z2 z3 z4
  go_enter Tryz.func19, Tryz.ntmps19
  go_wp2_with fail
  rw [HW0.out]
  refine (sints_any (HR.out _ (Below.refl _ _)).1 (HR.out _ (Below.refl _ _)).2.1).mono ?_
  rintro e w1 ⟨rfl, hb1⟩
  clear y0 y1 y2 y3 y4 z0 z1 z2 z3 z4
  have hx0 := Blk.below HX0.out hb1 HX0.out.lt; have hx1 := Blk.below HX1.out hb1 HX1.out.lt
  have y0 := Blk.cell hx0 0; have y1 := Blk.cell hx0 1; have y2 := Blk.cell hx0 2; have y3 := Blk.cell hx0 3; have y4 := Blk.cell hx0 4
  have z0 := Blk.cell hx1 0; have z1 := Blk.cell hx1 1; have z2 := Blk.cell hx1 2; have z3 := Blk.cell hx1 3; have z4 := Blk.cell hx1 4
  simp only [List.getElem?_toArray, List.getElem?_cons_zero, List.getElem?_cons_succ] at y0 y1 y2 y3 y4 z0 z1 z2 z3 z4
  have HB1 := Lib.hid hb1
  clear hb1 hx0 hx1
  go_wp2_with fail
  have hr1 := HR.out _ HB1.out
  refine (sints_any hr1.2.2.1 hr1.2.2.2.1).mono ?_
  rintro e w2 ⟨rfl, hb2'⟩
  have hb2 := HB1.out.trans (hb2'.mono HB1.out.size)
  clear y0 y1 y2 y3 y4 z0 z1 z2 z3 z4 hr1 hb2' HB1
  have hx0 := Blk.below HX0.out hb2 HX0.out.lt; have hx1 := Blk.below HX1.out hb2 HX1.out.lt
  have y0 := Blk.cell hx0 0; have y1 := Blk.cell hx0 1; have y2 := Blk.cell hx0 2; have y3 := Blk.cell hx0 3; have y4 := Blk.cell hx0 4
  have z0 := Blk.cell hx1 0; have z1 := Blk.cell hx1 1; have z2 := Blk.cell hx1 2; have z3 := Blk.cell hx1 3; have z4 := Blk.cell hx1 4
  simp only [List.getElem?_toArray, List.getElem?_cons_zero, List.getElem?_cons_succ] at y0 y1 y2 y3 y4 z0 z1 z2 z3 z4
  have HB2 := Lib.hid hb2
  clear hb2 hx0 hx1
  go_wp2_with fail
  have hr1 := HR.out _ HB2.out
  refine (sints_any hr1.2.2.2.2.1 hr1.2.2.2.2.2.1).mono ?_
  rintro e w3 ⟨rfl, hb2'⟩
  have hb3 := HB2.out.trans (hb2'.mono HB2.out.size)
  clear y0 y1 y2 y3 y4 z0 z1 z2 z3 z4 hr1 hb2' HB2
  have hx0 := Blk.below HX0.out hb3 HX0.out.lt; have hx1 := Blk.below HX1.out hb3 HX1.out.lt
  have y0 := Blk.cell hx0 0; have y1 := Blk.cell hx0 1; have y2 := Blk.cell hx0 2; have y3 := Blk.cell hx0 3; have y4 := Blk.cell hx0 4
  have z0 := Blk.cell hx1 0; have z1 := Blk.cell hx1 1; have z2 := Blk.cell hx1 2; have z3 := Blk.cell hx1 3; have z4 := Blk.cell hx1 4
  simp only [List.getElem?_toArray, List.getElem?_cons_zero, List.getElem?_cons_succ] at y0 y1 y2 y3 y4 z0 z1 z2 z3 z4
  have hr := HR.out _ hb3
  have HA := Lib.hid hr.2.2.2.2.2.2.1; have HA' := Lib.hid hr.2.2.2.2.2.2.2
  have hnlm : nl <= 9223372036854775807 := by obtain ⟨_, _, _, q1, q2, _⟩ := hr.2.2.2.2.2.2.1.form; omega
  have HB3 := Lib.hid (HB0.out.trans (hb3.mono HB0.out.size))
  clear hb3 hx0 hx1 hr
  go_wp2_with fail
  clear HX0 HX1 HB0 HW0 HR
  go_loopw [5] (fun i wr => ∃ (k m : Nat), k <= nl /\ i = .int .i64 k /\ wr = w3.drewN m) (fun i _ => nl - (intOf i).toNat)
  case atStart => exact ⟨0, 0, Nat.zero_le _, rfl, rfl⟩
  case round =>
   obtain ⟨k, m, hk, rfl, rfl⟩ := hrel
   by_cases hlt : k < nl
   ·have hkl : k < L.length := by rw [HNL.out]; exact hlt
    obtain ⟨b, off, rfl, hbl, hc⟩ := HA.out.at encA_len (by omega) k L[k] (List.getElem?_eq_getElem hkl)
    obtain ⟨b', off', rfl, hbl', hc'⟩ := HA'.out.at encA_len (by omega) k L[k] (List.getElem?_eq_getElem hkl)
    have e0 := hc 0 _ rfl; have e1 := hc 1 _ rfl; have e2 := hc 2 _ rfl
    have f0 := hc' 0 _ rfl; have f1 := hc' 1 _ rfl; have f2 := hc' 2 _ rfl
    simp only [Nat.add_zero] at e0 f0
    have i0 : (0 : Int) <= (k : Int) := Int.natCast_nonneg _
    have i1 : (k : Int) < (nl : Int) := by omega
    generalize (L[k]).1 = x at *
    generalize (L[k]).2.1 = y at *
    generalize (L[k]).2.2 = t at *
    clear hc hc'
    go_wp2_with fail
    go_quiet (fail)
    go_wp2_with fail
    all_goals exact ⟨⟨k + 1, _, by omega, by go_num, rfl⟩, by simp [intOf]; omega⟩
   ·go_wp2
    go_ret
    exact ⟨rfl, HB3.out.os, HB3.out.tape, HB3.out.output, HB3.out.size, HB3.out.block⟩
end Go.Proofs.YtfccnadbiglagaaGreat
namespace Go.Proofs.YtfccnadbiglagaaGreat
open Go Go.RowKit Go.Proofs
def updW (F : List Int) (q : Int) (k : Nat) : List Int := (F.take k).map (fun x => plC x q) ++ F.drop k
theorem updW_zero (F : List Int) (q : Int) : updW F q 0 = F := by simp [updW]
theorem updW_end (F : List Int) (q : Int) : updW F q F.length = F.map (fun x => plC x q) := by simp [updW]
theorem updW_at {F : List Int} {q : Int} {k : Nat} (h : k < F.length) : (updW F q k).getD k 0 = F[k] := by
 unfold updW
 rw [List.getD_eq_getElem?_getD, List.getElem?_append_right (by simp; omega), List.length_map, List.length_take, Nat.min_eq_left (by omega), Nat.sub_self, List.getElem?_drop, Nat.add_zero, List.getElem?_eq_getElem h]
 rfl
theorem updW_set {F : List Int} {q : Int} {k : Nat} (h : k < F.length) : (updW F q k).set k (plC F[k] q) = updW F q (k + 1) := by
 unfold updW
 rw [List.set_append_right _ _ (by simp; omega), List.length_map, List.length_take, Nat.min_eq_left (by omega), Nat.sub_self, List.drop_eq_getElem_cons h, List.set_cons_zero, List.take_succ_eq_append_getElem h, List.map_append, List.append_assoc]
 rfl
theorem sideWeights_walk (lv : Value) (l : List RawP) (a1 : Int) (w : World) (w0 : RawL w lv l) (w1 : (Lit.int .i64 a1).wf = true) :
  Calls Tryz.prog 10 #[lv, .int .i64 a1] w fun e w' => e = .returned (.bool true) /\ Below w.heap.size w w' := by
  have hL := w0
  have hwl := fun W : World => swth_any a1 1000 (by omega) (by omega) W
  have bl := wthN_lt a1 1000 (by omega)
  rw [show ((1000 : Nat) : Int) = 1000 from rfl] at bl
  obtain ⟨q, hq⟩ : ∃ k, wthN a1 1000 = k := ⟨_, rfl⟩
  rw [hq] at hwl bl
  obtain ⟨LA, ll, lc, rfl, hll, hlc, hlm, -⟩ := w0
  have HWL := Lib.hid hwl; have HL := Lib.hid hL; have HLL := Lib.hid hll
  clear hL hll hwl hq w1
  unfold maxLen at hlm
  have l0 : (0 : Int) <= (ll : Int) := Int.natCast_nonneg _
  go_enter Tryz.func10, Tryz.ntmps10
  go_wp2_with fail
  refine (known7_ok w).mono ?_
  rintro e W1 ⟨rfl, hb1⟩
  have hfw := few_any l W1 _ (HL.out.below hb1)
  have HB1 := Lib.hid hb1; clear hb1
  by_cases hfew : sizeR 6 l <= 30
  rotate_left
  ·have hf : fewB l = false := by unfold fewB; simpa using hfew
   rw [hf] at hfw
   have HFW := Lib.hid hfw
   clear hfw hf hfew
   go_wp2_with fail
   refine HFW.out.mono ?_
   rintro e W ⟨rfl, rfl⟩
   go_wp2_with fail
   go_ret
   exact ⟨rfl, HB1.out⟩
  have hf : fewB l = true := by unfold fewB; simpa using hfew
  rw [hf] at hfw
  have HFW := Lib.hid hfw; have HFEW := Lib.hid hfew
  clear hfw hf hfew
  go_wp2_with fail
  refine HFW.out.mono ?_
  rintro e w2 ⟨rfl, rfl⟩
  obtain ⟨w2, hw2⟩ : ∃ W, W1 = W := ⟨_, rfl⟩
  rw [hw2] at HB1 ⊢
  clear hw2 HFW
  by_cases hl0 : ll = 0
  ·have l1 : (ll : Int) = 0 := by omega
   go_wp2_with fail
   go_ret
   exact ⟨rfl, HB1.out⟩
  have l1 : ¬ (ll : Int) = 0 := by omega
  have l2 : 0 < ll := by omega
  have l3 : (0 : Int) < (ll : Int) := by omega
  have i0 : 0 < l.length := by rw [HLL.out]; omega
  obtain ⟨g, o, m', c', u, e, -, -, -, hcs, -, hwf0, hu⟩ := HL.out.get i0
  simp only [Value.slice.injEq] at e
  obtain ⟨rfl, -, -⟩ := e
  have hf0 := (few_mem HFEW.out (List.getElem_mem i0)).1
  have hma : ∀ W, Below w2.heap.size w2 W -> Calls Tryz.prog 16 #[.agg #[.int .i64 (l[0]).k, .int .i64 (l[0]).n, u], .bool false] W (MadeR W ((l[0]).pat false)) := fun W hW => make_any false 5 (l[0]) W u hf0 ((hu.below HB1.out).below hW) hwf0
  have hok0 := (RawP.ok (D := kD) (fun s h => h) false 5 (l[0]) hf0).1
  obtain ⟨ka, hka⟩ : ∃ z, (l[0]).k = z := ⟨_, rfl⟩
  obtain ⟨na, hna⟩ : ∃ z, (l[0]).n = z := ⟨_, rfl⟩
  obtain ⟨p, hpa⟩ : ∃ z, (l[0]).pat false = z := ⟨_, rfl⟩
  rw [hka, hna] at hma hcs
  rw [hpa] at hma hok0
  obtain ⟨uA, un, uc, rfl, -⟩ := hu
  unfold MadeR at hma
  rw [show o + 0 * 3 = o by omega] at hcs
  have hca := And.intro (bel_q HB1.out (hcs 0 _ rfl)) (And.intro (bel_q HB1.out (hcs 1 _ rfl)) (bel_q HB1.out (hcs 2 _ rfl)))
  have HDM := Lib.hid (defs_made [] w2 (.slice none 0 0) (IntsR.nil w2))
  have HCA := Lib.hid hca; have HMA := Lib.hid hma; have HOK := Lib.hid hok0
  clear hca hma hok0 hka hna hpa hcs hf0 hwf0 i0 HL HLL HFEW
  go_wp2_with fail
  refine HDM.out.mono ?_
  clear HDM
  rintro e W2 ⟨u, rfl, hdo, hb2⟩
  have hda := hdo.at_
  obtain ⟨dA, dc, cs, rfl, -, -, -, -, -⟩ := id hda
  rw [show ((defsOf []).map DefP.tree).length = 4 from rfl] at hdo hda ⊢
  have hnil : dA = none -> dc = 0 := nil_cap hdo.choose_spec.1
  obtain ⟨W3, hW3⟩ : ∃ W3, W2.alloc (.cells #[.slice dA 4 dc, .slice none 0 0] 30) = W3 := ⟨_, rfl⟩
  have hb3 : Below W2.heap.size W2 W3 := by rw [<- hW3]; exact (Below.refl _ _).alloc (Nat.le_refl _) _
  have hxf : Blk W3 W2.heap.size 30 #[.slice dA 4 dc, .slice none 0 0] := by rw [<- hW3]; exact Blk.new _ _ _
  have hb23 := hb2.trans (hb3.mono hb2.size)
  have c0 := bel_q hb23 HCA.out.1; have c1 := bel_q hb23 HCA.out.2.1; have c2 := bel_q hb23 HCA.out.2.2
  rw [Nat.add_zero] at c0
  have hNm : Names W3 (fun g => g < W3.heap.size) (.slice dA 4 dc) kD := ((hda.names (fun A n c e q => by simp only [Value.slice.injEq] at e; obtain ⟨rfl, _, rfl⟩ := e; exact hnil q) (fun g h => h)).keep (fun _ h => h) (fun g _ i x hx => bel_q hb3 hx)).low
  have HMK := Lib.hid (HMA.out W3 hb23)
  have HNM := Lib.hid hNm; have HXF := Lib.hid hxf; have HB3 := Lib.hid (HB1.out.trans (hb23.mono HB1.out.size)); have HW3 := Lib.hid hW3
  obtain ⟨F, hF⟩ : ∃ F, W2.heap.size = F := ⟨_, rfl⟩
  rw [hF] at HXF
  have HFZ := Lib.hid (show F < W3.heap.size from HXF.out.lt)
  clear hdo hda hnil hb2 hb3 hxf hb23 hNm HCA HMA HB1
  rw [<- hW3] at c0 c1 c2
  clear hW3
  go_wp2_with fail
  rw [HW3.out]
  refine HMK.out.mono ?_
  clear c0 c1 c2 HMK
  rintro e W4 ⟨v, rfl, -, hT, hb4⟩
  obtain ⟨k1, lo1, hi1, wt1, nm, A1, n1, c1, rfl, -⟩ := hT.kinded
  obtain ⟨W5, hW5⟩ : ∃ W5, W4.alloc (.cells #[.int .i64 k1, .int .i64 lo1, .int .i64 hi1, .int .i64 wt1, .string nm, .slice A1 n1 c1] 33) = W5 := ⟨_, rfl⟩
  have hb5 : Below W4.heap.size W4 W5 := by rw [<- hW5]; exact (Below.refl _ _).alloc (Nat.le_refl _) _
  have hz5 : W5.heap.size = W4.heap.size + 1 := by rw [<- hW5]; simp
  obtain ⟨X, hX⟩ : ∃ X, W4.heap.size = X := ⟨_, rfl⟩
  have hxx : Blk W5 X 33 #[.int .i64 k1, .int .i64 lo1, .int .i64 hi1, .int .i64 wt1, .string nm, .slice A1 n1 c1] := by rw [<- hW5, <- hX]; exact Blk.new _ _ _
  have hxf : Blk W5 F 30 #[.slice dA 4 dc, .slice none 0 0] := Blk.below (Blk.below HXF.out hb4 HFZ.out) hb5 (Nat.lt_of_lt_of_le HFZ.out hb4.size)
  have hb35 : Below W3.heap.size W3 W5 := hb4.trans (hb5.mono hb4.size)
  have hT5 : TreeV true W5 (fun g => g < W5.heap.size) (.agg #[.int .i64 k1, .int .i64 lo1, .int .i64 hi1, .int .i64 wt1, .string nm, .slice A1 n1 c1]) p.tree := hT.bound.bel (fun g hg => by omega) hb5
  have hNm5 : Names W5 (fun g => g < W5.heap.size) (.slice dA 4 dc) kD := ((HNM.out).fr hb35).keep (fun g hg => by have := hb35.size; omega) (fun _ _ _ _ h => h)
  have hmk := smake_any p true HOK.out (by decide) W5 _ dA none 4 dc 0 0 hT5 hNm5
  have y0 := Blk.cell hxx 0; have y1 := Blk.cell hxx 1; have y2 := Blk.cell hxx 2; have y3 := Blk.cell hxx 3; have y4 := Blk.cell hxx 4; have y5 := Blk.cell hxx 5
  have f0 := Blk.cell hxf 0; have f1 := Blk.cell hxf 1
  simp only [List.getElem?_toArray, List.getElem?_cons_zero, List.getElem?_cons_succ] at y0 y1 y2 y3 y4 y5 f0 f1
  rw [<- hW5] at y0 y1 y2 y3 y4 y5 f0 f1
  have HMK := Lib.hid hmk; have HXX := Lib.hid hxx; have HX5 := Lib.hid hxf; have HT5 := Lib.hid hT5; have HN5 := Lib.hid hNm5; have HB5 := Lib.hid (HB3.out.trans (hb35.mono HB3.out.size)); have HW5 := Lib.hid hW5; have HHX := Lib.hid hX
  have HXL := Lib.hid (show w.heap.size <= X by have h1 := HB3.out.size; have h2 := hb4.size; omega)
  clear hT hb4 hb5 hz5 hxx hxf hb35 hT5 hNm5 hmk hW5 HNM HXF HB3 HW3 HFZ
  go_wp2_with fail
  clear hX
  refine (HWL.out _).mono ?_
  rintro e w5 ⟨rfl, rfl⟩
  go_wp2_with fail
  rw [HW5.out]
  refine HMK.out.mono ?_
  clear HMK y0 y1 y2 y3 y4 y5 f0 f1
  rintro e W6 ⟨hb6, h⟩
  obtain ⟨sz, hsz⟩ : ∃ k, sizeC p = k := ⟨_, rfl⟩
  rw [hsz] at h
  have HSZ := Lib.hid hsz
  clear hsz
  obtain ⟨s, hs⟩ : ∃ s, sideOf (ixN kD) p = s := ⟨_, rfl⟩
  rw [hs] at h
  have HS := Lib.hid hs
  clear hs
  obtain ⟨S1, S2, S3, S4, s1, s2, s3, s4, m1, m2, m3, m4, z, is, rfl, his, hsr⟩ : ∃ S1 S2 S3 S4 s1 s2 s3 s4 m1 m2 m3 m4 z is, e = .returned (.tuple #[.agg #[.slice S1 m1 s1, .slice S2 m2 s2, .slice S3 m3 s3, .slice S4 m4 s4, .int .i64 z], .bool is]) /\ is = decide (sz <= 120) /\ (sz <= 120 -> m1 = s.n /\ m2 = s.n /\ m3 = s.n /\ m4 = (arcsOf s.n s.arc).length /\ z = s.none_ /\ SideR W6 (.agg #[.slice S1 m1 s1, .slice S2 m2 s2, .slice S3 m3 s3, .slice S4 m4 s4, .int .i64 z]) s.n s.sets s.first s.ends (arcsOf s.n s.arc) s.none_ /\ Own W6 W5.heap.size (.slice S2 m2 s2) s.n s.first) := by
   rcases h with ⟨h1, v, e1, hsv⟩ | ⟨h1, e1⟩
   ·have hrd := hsv.reads
    obtain ⟨A1, c1, A2, c2, A3, c3, A4, c4, rfl, h1', h2', h3', h4'⟩ := hrd.ex
    obtain ⟨vs, vf, ve, va, e2, -, g2, -⟩ := hsv
    simp only [Value.agg.injEq, Array.mk.injEq, List.cons.injEq] at e2
    rw [<- e2.2.1] at g2
    exact ⟨A1, A2, A3, A4, c1, c2, c3, c4, _, _, _, _, _, true, e1, by simp [h1], fun _ => ⟨rfl, rfl, rfl, rfl, rfl, hrd, g2⟩⟩
   ·exact ⟨none, none, none, none, 0, 0, 0, 0, 0, 0, 0, 0, 0, false, e1, by rw [decide_eq_false (by omega)], fun q => by omega⟩
  clear h
  obtain ⟨Y, hY⟩ : ∃ Y, W6.heap.size = Y := ⟨_, rfl⟩
  obtain ⟨N, hN⟩ : ∃ N, Y + 1 = N := ⟨_, rfl⟩
  have hz5 := hb6.size
  have hxl := HXX.out.lt; have hfl := HX5.out.lt
  obtain ⟨W7, hW7⟩ : ∃ W7, (W6.alloc (.cells #[.slice S1 m1 s1, .slice S2 m2 s2, .slice S3 m3 s3, .slice S4 m4 s4, .int .i64 z] 39)).alloc (.cells #[.int .i64 k1, .int .i64 lo1, .int .i64 hi1, .int .i64 wt1, .string nm, .slice A1 n1 c1] 33) = W7 := ⟨_, rfl⟩
  have hb7 : Below W6.heap.size W6 W7 := by rw [<- hW7]; exact ((Below.refl _ _).alloc (Nat.le_refl _) _).alloc (by simp) _
  have hz7 : W7.heap.size = Y + 2 := by rw [<- hW7, <- hY]; simp
  have hxx6 := Blk.below HXX.out hb6 hxl
  have hxf6 := Blk.below HX5.out hb6 hfl
  have hxx7 := Blk.below hxx6 hb7 (by omega)
  have hxf7 := Blk.below hxf6 hb7 (by omega)
  have hxa7 : Blk W7 Y 39 #[.slice S1 m1 s1, .slice S2 m2 s2, .slice S3 m3 s3, .slice S4 m4 s4, .int .i64 z] := by rw [<- hW7, <- hY]; exact Blk.alloc (Blk.new _ _ _) _
  have hxn7 : Blk W7 N 33 #[.int .i64 k1, .int .i64 lo1, .int .i64 hi1, .int .i64 wt1, .string nm, .slice A1 n1 c1] := by
   rw [<- hW7, <- hN, <- hY]
   have := Blk.new (W6.alloc (.cells #[.slice S1 m1 s1, .slice S2 m2 s2, .slice S3 m3 s3, .slice S4 m4 s4, .int .i64 z] 39)) 33 #[.int .i64 k1, .int .i64 lo1, .int .i64 hi1, .int .i64 wt1, .string nm, .slice A1 n1 c1]
   rwa [World.size_alloc] at this
  have hb57 : Below W5.heap.size W5 W7 := hb6.trans (hb7.mono hb6.size)
  have hT7 : TreeV true W7 (fun g => g < W7.heap.size) (.agg #[.int .i64 k1, .int .i64 lo1, .int .i64 hi1, .int .i64 wt1, .string nm, .slice A1 n1 c1]) p.tree := (HT5.out.fr hb57).keep (fun g hg => by have := hb57.size; omega) (fun _ _ _ _ h => h)
  have hTW : TreeV true W7 (fun g => g < W7.heap.size) (.agg #[.int .i64 8, .int .i64 0, .int .i64 0, .int .i64 (q : Nat), .string ⟨#[]⟩, .slice (some ⟨N, 0, none⟩) 1 1]) (Pat.weight p q).tree := TreeV.one6 8 0 0 (q : Nat) hxn7 hT7 (by omega)
  have hNm7 : Names W7 (fun g => g < W7.heap.size) (.slice dA 4 dc) kD := (HN5.out.fr hb57).keep (fun g hg => by have := hb57.size; omega) (fun _ _ _ _ h => h)
  have hmk := smake_any (.weight p q) true ⟨HOK.out, rfl, by omega⟩ (by decide) W7 _ dA none 4 dc 0 0 hTW hNm7
  rw [show sizeC (Pat.weight p q) = sizeC p from rfl, HSZ.out, show sideOf (ixN kD) (Pat.weight p q) = sWeight (sideOf (ixN kD) p) q from rfl, HS.out] at hmk
  have x0 := Blk.cell (Blk.alloc hxx6 (.cells #[.slice S1 m1 s1, .slice S2 m2 s2, .slice S3 m3 s3, .slice S4 m4 s4, .int .i64 z] 39)) 0; have x1 := Blk.cell (Blk.alloc hxx6 (.cells #[.slice S1 m1 s1, .slice S2 m2 s2, .slice S3 m3 s3, .slice S4 m4 s4, .int .i64 z] 39)) 1; have x2 := Blk.cell (Blk.alloc hxx6 (.cells #[.slice S1 m1 s1, .slice S2 m2 s2, .slice S3 m3 s3, .slice S4 m4 s4, .int .i64 z] 39)) 2; have x3 := Blk.cell (Blk.alloc hxx6 (.cells #[.slice S1 m1 s1, .slice S2 m2 s2, .slice S3 m3 s3, .slice S4 m4 s4, .int .i64 z] 39)) 3; have x4 := Blk.cell (Blk.alloc hxx6 (.cells #[.slice S1 m1 s1, .slice S2 m2 s2, .slice S3 m3 s3, .slice S4 m4 s4, .int .i64 z] 39)) 4; have x5 := Blk.cell (Blk.alloc hxx6 (.cells #[.slice S1 m1 s1, .slice S2 m2 s2, .slice S3 m3 s3, .slice S4 m4 s4, .int .i64 z] 39)) 5
  have f0 := Blk.cell hxf7 0; have f1 := Blk.cell hxf7 1
  simp only [List.getElem?_toArray, List.getElem?_cons_zero, List.getElem?_cons_succ] at x0 x1 x2 x3 x4 x5 f0 f1
  rw [<- hW7] at f0 f1
  have HMK := Lib.hid hmk; have HXA := Lib.hid hxa7; have HB7 := Lib.hid (HB5.out.trans (hb57.mono HB5.out.size)); have HB67 := Lib.hid hb7; have HW7 := Lib.hid hW7; have HSR := Lib.hid hsr; have HIS := Lib.hid his; have HZ7 := Lib.hid hz7; have HWY := Lib.hid (show w.heap.size <= Y by have := HB5.out.size; omega); have HN := Lib.hid hN; have HZ5 := Lib.hid (show W5.heap.size <= Y by omega); have HY := Lib.hid hY
  clear hz5 hxl hfl hb7 hz7 hxx6 hxf6 hxx7 hxf7 hxa7 hxn7 hb57 hT7 hTW hNm7 hmk hb6 hsr his HT5 HN5 HXX HX5 HB5 HW5 HHX HXL hW7
  go_wp2_with fail
  clear hY hN
  rw [HW7.out]
  refine HMK.out.mono ?_
  clear HMK x0 x1 x2 x3 x4 x5 f0 f1
  rintro e W8 ⟨hb8, h⟩
  have hxa8 := Blk.below HXA.out hb8 HXA.out.lt
  have HB8 := Lib.hid (HB7.out.trans (hb8.mono HB7.out.size)); have HXA := Lib.hid hxa8
  have HZ8 := Lib.hid (show Y + 2 <= W8.heap.size by have := hb8.size; have := HZ7.out; omega)
  have HB68 := Lib.hid (HB67.out.trans (hb8.mono HB67.out.size))
  clear hxa8 HB7 HB67 hb8 HN HZ7
  rcases h with ⟨h1, v, rfl, hsv⟩ | ⟨h1, rfl⟩
  rotate_left
  ·have hi1 : is = false := by rw [HIS.out]; simpa using h1
   subst hi1
   go_wp2_with fail
   go_ret
   exact ⟨rfl, HB8.out.alloc HB8.out.size _⟩
  have hi1 : is = true := by rw [HIS.out]; simpa using h1
  subst hi1
  obtain ⟨rfl, rfl, rfl, hm4, rfl, hsr, how⟩ := HSR.out h1
  have hrb := hsv.reads
  have hok := sideOf_ok (ixN kD) p HOK.out.wb
  rw [HS.out] at hok
  obtain ⟨z', hz'⟩ : ∃ z', (sWeight s q).none_ = z' := ⟨_, rfl⟩
  rw [hz'] at hrb
  rw [show (sWeight s q).n = s.n from rfl, show (sWeight s q).sets = s.sets from rfl, show (sWeight s q).ends = s.ends from rfl, show (sWeight s q).arc = s.arc from rfl, show (sWeight s q).first = s.first.map (fun x => plC x (q : Nat)) from rfl] at hrb
  obtain ⟨B1, d1, B2, d2, B3, d3, B4, d4, rfl, -⟩ := hrb.ex
  rw [<- hm4] at hrb ⊢
  obtain ⟨B, hB⟩ : ∃ B, W8.heap.size = B := ⟨_, rfl⟩
  obtain ⟨V, hV⟩ : ∃ V, B + 1 = V := ⟨_, rfl⟩
  obtain ⟨U, hU⟩ : ∃ U, V + 1 = U := ⟨_, rfl⟩
  have hYB : Y < B := by have := HZ8.out; omega
  obtain ⟨W11, hW11⟩ : ∃ W11, ((W8.alloc (.cells #[.slice B1 s.n d1, .slice B2 s.n d2, .slice B3 s.n d3, .slice B4 m4 d4, .int .i64 z'] 39)).alloc (.cells #[.slice S1 s.n s1, .slice S2 s.n s2, .slice S3 s.n s3, .slice S4 m4 s4, .int .i64 s.none_] 39)).alloc (.cells #[] 3) = W11 := ⟨_, rfl⟩
  have hb11 : Below W8.heap.size W8 W11 := by rw [<- hW11]; exact (((Below.refl _ _).alloc (Nat.le_refl _) _).alloc (by simp) _).alloc (by simp; omega) _
  have hz11 : W11.heap.size = B + 3 := by rw [<- hW11, <- hB]; simp
  have hxa9 := Blk.alloc HXA.out (.cells #[.slice B1 s.n d1, .slice B2 s.n d2, .slice B3 s.n d3, .slice B4 m4 d4, .int .i64 z'] 39)
  have hxa11 := Blk.below HXA.out hb11 HXA.out.lt
  have hxb11 : Blk W11 B 39 #[.slice B1 s.n d1, .slice B2 s.n d2, .slice B3 s.n d3, .slice B4 m4 d4, .int .i64 z'] := by rw [<- hW11, <- hB]; exact Blk.alloc (Blk.alloc (Blk.new _ _ _) _) _
  have hxv11 : Blk W11 V 39 #[.slice S1 s.n s1, .slice S2 s.n s2, .slice S3 s.n s3, .slice S4 m4 s4, .int .i64 s.none_] := by
   rw [<- hW11, <- hV, <- hB]
   have := Blk.new (W8.alloc (.cells #[.slice B1 s.n d1, .slice B2 s.n d2, .slice B3 s.n d3, .slice B4 m4 d4, .int .i64 z'] 39)) 39 #[.slice S1 s.n s1, .slice S2 s.n s2, .slice S3 s.n s3, .slice S4 m4 s4, .int .i64 s.none_]
   rw [World.size_alloc] at this
   exact Blk.alloc this _
  have hem : Own W11 U (.slice (some ⟨U, 0, none⟩) 0 0) 0 [] := by
   refine ⟨rfl, .inr ⟨U, 0, #[], rfl, Nat.le_refl _, ?_, by simp [maxLen]⟩⟩
   have := heap_alloc_new ((W8.alloc (.cells #[.slice B1 s.n d1, .slice B2 s.n d2, .slice B3 s.n d3, .slice B4 m4 d4, .int .i64 z'] 39)).alloc (.cells #[.slice S1 s.n s1, .slice S2 s.n s2, .slice S3 s.n s3, .slice S4 m4 s4, .int .i64 s.none_] 39)) (.cells #[] 3)
   rwa [hW11, World.size_alloc, World.size_alloc, hB, hV, hU] at this
  have hnb : s.n <= 120 := by
   have e1 := sizeC_min p
   rw [HSZ.out] at e1
   have e2 := sideOf_n (ixN kD) p
   rw [HS.out] at e2
   omega
  have hsr8 := hsr.below HB68.out
  have hsr11 := hsr8.below hb11
  have HS8 := Lib.hid hsr8
  have hfo := hsr11.forms.2.2.1
  have HFO := Lib.hid hfo; have HNB := Lib.hid hnb; have HUL := Lib.hid (show U <= W11.heap.size by omega)
  clear hsr8 hfo hnb
  have x0 := Blk.cell hxa9 0; have x1 := Blk.cell hxa9 1; have x2 := Blk.cell hxa9 2; have x3 := Blk.cell hxa9 3; have x4 := Blk.cell hxa9 4
  have y1 := Blk.cell hxa11 1; have v1 := Blk.cell hxv11 1; have fv1 := Blk.frozen hxv11 1
  simp only [List.getElem?_toArray, List.getElem?_cons_zero, List.getElem?_cons_succ] at x0 x1 x2 x3 x4 y1 v1
  rw [<- hW11] at y1
  have HXA := Lib.hid hxa11; have HXB := Lib.hid hxb11; have HXV := Lib.hid hxv11; have HEM := Lib.hid hem; have HRB := Lib.hid hrb; have HSR := Lib.hid hsr11; have HOW := Lib.hid how; have HOKS := Lib.hid hok; have HZP := Lib.hid hz'; have HM4 := Lib.hid hm4; have HB11 := Lib.hid (HB8.out.trans (hb11.mono HB8.out.size)); have HW11 := Lib.hid hW11; have HZ11 := Lib.hid hz11; have HB6 := Lib.hid hb11
  clear hxa9 hxa11 hxb11 hxv11 hem hsr11 how hok hz' hm4 hb11 hW11 hz11 hrb hsr hsv HB8 HB68 HIS HSZ
  go_wp2_with (at_builtin; rw [HW11.out]; refine wpList_concatI rfl (.tmp 57) (.tmp 59) rfl U _ _ _ (by rfl) HEM.out _ _ _ (by rfl) HFO.out (by have := HNB.out; omega) HUL.out ?_
               intro v' w12 h2 h3 _ _
               simp only [Nat.zero_add, List.nil_append] at h2
               obtain ⟨VA, vc, rfl, -, -, -⟩ := h2.readsI.form
               have hx12 := Blk.below HXV.out h3 (by omega)
               have v1 := Blk.cell hx12 1
               have fv1 := Blk.frozen hx12 1
               simp only [List.getElem?_toArray, List.getElem?_cons_zero, List.getElem?_cons_succ] at v1
               have OW := Lib.hid h2; have B12 := Lib.hid h3; have X12 := Lib.hid hx12
               clear h2 h3 hx12)
  go_loopw [13] (fun i wr => ∃ (k : Nat), i = .int .i64 k /\ k <= s.n /\ Hid (Own wr U (.slice VA s.n vc) s.n (updW s.first (q : Nat) k)) /\ Hid (Blk wr V 39 #[.slice S1 s.n s1, .slice VA s.n vc, .slice S3 s.n s3, .slice S4 m4 s4, .int .i64 s.none_]) /\ Hid (Below V W11 wr)) (fun i _ => s.n - (intOf i).toNat)
  case atStart =>
   refine ⟨0, rfl, Nat.zero_le _, ?_, ?_, ?_⟩
   ·refine Lib.hid ?_
    rw [updW_zero]
    exact Own.stored_other OW.out (fun e => by have h : U <= V := (OW.out.lt _ e).1; omega) _
   ·refine Lib.hid ?_
    have := X12.out.set_ 1 (.slice VA s.n vc)
    simpa using this
   ·exact Lib.hid ((B12.out.mono (show V <= U by omega)).setCell (p := ⟨V, 1, none⟩) (Nat.le_refl _) _)
  case round =>
   clear OW X12 B12 v1 fv1
   obtain ⟨k, rfl, hk, HO, HX, HB⟩ := hrel
   have i0 : (0 : Int) <= (k : Int) := Int.natCast_nonneg _
   have hnb := HNB.out
   have v1 := Blk.cell HX.out 1
   simp only [List.getElem?_toArray, List.getElem?_cons_zero, List.getElem?_cons_succ] at v1
   by_cases hlt : k < s.n
   ·have i1 : (k : Int) < (s.n : Int) := by omega
    rcases HO.out.form with ⟨_, e0, _⟩ | ⟨G, cap, e, hGU, _, _, hc⟩
    ·omega
    simp only [Value.slice.injEq, true_and] at e
    obtain ⟨rfl, rfl⟩ := e
    have hkF : k < s.first.length := by rw [HOKS.out.lf]; exact hlt
    have cG := hc k hlt
    rw [Nat.zero_add, updW_at hkF] at cG
    have hst := updW_set (q := (q : Int)) hkF
    have hcf : CostC s.first[k] := HOKS.out.cf _ (List.getElem_mem hkF)
    have HF0 := Lib.hid hcf
    obtain ⟨f, hf⟩ : ∃ f, s.first[k] = f := ⟨_, rfl⟩
    rw [hf] at cG hst HF0
    have HF : Hid (IsCost f) := HF0
    have HQ : Hid (IsCost ((q : Nat) : Int)) := Lib.hid ⟨by omega, by omega⟩
    have HST := Lib.hid hst
    clear hst hcf HF0 hf hc hkF
    go_wp2_with fail
    refine region_x 11 (fun w' : World => w'.cell? ⟨V, 1, none⟩ = some (.slice (some ⟨G, 0, none⟩) s.n vc) /\ w'.cell? ⟨G, k, none⟩ = some (.int .i64 f)) (by kernel_rfl) ?_
    have hO0 := HO.out.drew; have hx0 := Blk.drew HX.out; have hb0 : Below V W11 wr.drew := HB.out.trans ((Below.refl _ _).drew)
    have hS : (fun w' : World => w'.cell? ⟨V, 1, none⟩ = some (.slice (some ⟨G, 0, none⟩) s.n vc) /\ w'.cell? ⟨G, k, none⟩ = some (.int .i64 f)) wr.drew := ⟨Blk.cell hx0 1, cG⟩
    obtain ⟨V0, eV⟩ : ∃ W', wr.drew = W' := ⟨_, rfl⟩
    rw [eV] at hS hO0 hx0 hb0 ⊢
    clear eV
    refine tkx (i := 0) (v := ?_) hS ?_ ?_
    rotate_left
    ·rintro w' ⟨b0, b1⟩
     go_simp
     try with_reducible rfl
    try simp only [Act.put, zq1, zq2, zq3, zq4, zq5, zq6]
    refine tkx (i := 1) (v := ?_) hS ?_ ?_
    rotate_left
    ·rintro w' ⟨b0, b1⟩
     go_simp
     try with_reducible rfl
    try simp only [Act.put, zq1, zq2, zq3, zq4, zq5, zq6]
    refine tkx (i := 2) (v := ?_) hS ?_ ?_
    rotate_left
    ·rintro w' ⟨b0, b1⟩
     go_simp
     try with_reducible rfl
    try simp only [Act.put, zq1, zq2, zq3, zq4, zq5, zq6]
    refine tkx (i := 3) (v := ?_) hS ?_ ?_
    rotate_left
    ·rintro w' ⟨b0, b1⟩
     go_simp
     try with_reducible rfl
    try simp only [Act.put, zq1, zq2, zq3, zq4, zq5, zq6]
    refine tkx (i := 4) (v := ?_) hS ?_ ?_
    rotate_left
    ·rintro w' ⟨b0, b1⟩
     go_simp
     try with_reducible rfl
    try simp only [Act.put, zq1, zq2, zq3, zq4, zq5, zq6]
    refine tkx (i := 5) (v := ?_) hS ?_ ?_
    rotate_left
    ·rintro w' ⟨b0, b1⟩
     go_simp
     try with_reducible rfl
    try simp only [Act.put, zq1, zq2, zq3, zq4, zq5, zq6]
    refine tkx (i := 6) (v := ?_) hS ?_ ?_
    rotate_left
    ·rintro w' ⟨b0, b1⟩
     go_simp
     try with_reducible rfl
    try simp only [Act.put, zq1, zq2, zq3, zq4, zq5, zq6]
    refine tkx (i := 7) (v := ?_) hS ?_ ?_
    rotate_left
    ·rintro w' ⟨b0, b1⟩
     go_simp
     try with_reducible rfl
    try simp only [Act.put, zq1, zq2, zq3, zq4, zq5, zq6]
    refine tkx (i := 8) (v := ?_) hS ?_ ?_
    rotate_left
    ·rintro w' ⟨b0, b1⟩
     go_simp
     try with_reducible rfl
    try simp only [Act.put, zq1, zq2, zq3, zq4, zq5, zq6]
    refine anyX_g (i := 9) (by kernel_rfl) (by decide) rfl (by rfl) ?_
    intro K hK
    try simp only [zq1, zq2, zq3]
    refine wp_enterE #[.int .i64 f, .int .i64 (q : Nat)] Tryz.func32 (by kernel_rfl) (by kernel_rfl) ?_ (srefadd_any f (q : Nat) V0 HF.out HQ.out) ?_
    ·go_simp
    rintro e w6 ⟨rfl, rfl⟩
    refine ⟨_, rfl, ?_⟩
    refine hK _ _ hS ?_
    clear hK
    try simp only [Act.put, zq1, zq2, zq3, zq4, zq5, zq6]
    refine tkx (i := 10) (v := ?_) hS ?_ ?_
    rotate_left
    ·rintro w' ⟨b0, b1⟩
     go_simp
     try with_reducible rfl
    try simp only [Act.put, zq1, zq2, zq3, zq4, zq5, zq6]
    have fG := Own.frozen hO0 k
    have cG := hS.2
    have gx : G ≠ V := by omega
    refine anyX_last (by kernel_rfl) (by kernel_rfl) rfl rfl ?_
    try simp only [zq1, zq2, zq3]
    go_simp
    try apply_assumption
    have hb9 : Below V W11 (V0.setCell ⟨G, k, none⟩ (.int .i64 (plus f (q : Nat)))) := hb0.setCell (p := ⟨G, k, none⟩) (show V <= G by omega) _
    have hx9 := hx0.far (p := ⟨G, k, none⟩) (show V ≠ G by omega) (.int .i64 (plus f (q : Nat)))
    have hO9 := (Own.stored hO0 k (plus f (q : Nat))).1
    rw [show (updW s.first (q : Int) k).set k (plus f (q : Nat)) = updW s.first (q : Int) (k + 1) from HST.out] at hO9
    have H1 := Lib.hid hO9; have H2 := Lib.hid hx9; have H3 := Lib.hid hb9
    clear hO9 hx9 hb9 hb0 hx0 hO0 hS HST
    go_wp2_with fail
    exact ⟨⟨k + 1, by go_num, by omega, H1, H2, H3⟩, by simp [intOf]; omega⟩
   ·obtain rfl : k = s.n := by omega
    have hend : updW s.first (q : Int) s.n = s.first.map (fun x => plC x (q : Nat)) := by
     have := updW_end s.first (q : Int)
     rwa [HOKS.out.lf] at this
    have hxa := Blk.below HXA.out HB.out (show Y < V by omega)
    have hxb := Blk.below HXB.out HB.out (show B < V by omega)
    have y4 := Blk.cell hxa 4; have v4 := Blk.cell HX.out 4; have fv4 := Blk.frozen HX.out 4
    simp only [List.getElem?_toArray, List.getElem?_cons_zero, List.getElem?_cons_succ] at y4 v4
    have hadd := srefadd_any s.none_ (q : Nat) wr HOKS.out.cn ⟨by omega, by omega⟩
    rw [show plus s.none_ (q : Nat) = z' from HZP.out] at hadd
    have HADD := Lib.hid hadd
    have hx14 : Blk (wr.setCell ⟨V, 4, none⟩ (.int .i64 z')) V 39 #[.slice S1 s.n s1, .slice VA s.n vc, .slice S3 s.n s3, .slice S4 m4 s4, .int .i64 z'] := by
     have := HX.out.set_ 4 (.int .i64 z')
     simpa using this
    have hxb14 := hxb.far (p := ⟨V, 4, none⟩) (show B ≠ V by omega) (.int .i64 z')
    have hO14 : Own (wr.setCell ⟨V, 4, none⟩ (.int .i64 z')) U (.slice VA s.n vc) s.n (s.first.map (fun x => plC x (q : Nat))) := by
     rw [<- hend]
     exact Own.stored_other HO.out (fun e => by have h : U <= V := (HO.out.lt _ e).1; omega) _
    have hb14 : Below V W11 (wr.setCell ⟨V, 4, none⟩ (.int .i64 z')) := HB.out.setCell (p := ⟨V, 4, none⟩) (Nat.le_refl _) _
    have hb814 := HB6.out.trans (hb14.mono (show W8.heap.size <= V by omega))
    have hsb := HRB.out.below hb814
    have hsw : SideR (wr.setCell ⟨V, 4, none⟩ (.int .i64 z')) (.agg #[.slice S1 s.n s1, .slice VA s.n vc, .slice S3 s.n s3, .slice S4 m4 s4, .int .i64 z']) s.n s.sets (s.first.map (fun x => plC x (q : Nat))) s.ends (arcsOf s.n s.arc) z' := by
     obtain ⟨-, r1, -, r3, r4⟩ := (HS8.out.below hb814).forms
     rw [HM4.out] at r4 ⊢
     exact ⟨S1, s1, VA, vc, S3, s3, S4, s4, rfl, r1, hO14.readsI, r3, r4⟩
    have p0 := Blk.cell hx14 0; have p1 := Blk.cell hx14 1; have p2 := Blk.cell hx14 2; have p3 := Blk.cell hx14 3; have p4 := Blk.cell hx14 4
    have u0 := Blk.cell hxb14 0; have u1 := Blk.cell hxb14 1; have u2 := Blk.cell hxb14 2; have u3 := Blk.cell hxb14 3; have u4 := Blk.cell hxb14 4
    simp only [List.getElem?_toArray, List.getElem?_cons_zero, List.getElem?_cons_succ] at p0 p1 p2 p3 p4 u0 u1 u2 u3 u4
    have hsm := ssame_any hsb hsw (by omega)
    have HSM := Lib.hid hsm
    have HBF := Lib.hid (HB11.out.trans (hb14.mono (show w.heap.size <= V by have := HWY.out; omega)))
    clear hsm hsb hsw hb814 hb14 hO14 hxb14 hx14 hadd hxb hxa hend HO HX HB
    go_wp2_with fail
    refine HADD.out.mono ?_
    rintro e w' ⟨rfl, rfl⟩
    go_wp2_with fail
    refine HSM.out.mono ?_
    rintro e w15 ⟨rfl, hb15⟩
    go_wp2_with fail
    go_ret
    exact ⟨rfl, HBF.out.trans (hb15.mono HBF.out.size)⟩
end Go.Proofs.YtfccnadbiglagaaGreat
