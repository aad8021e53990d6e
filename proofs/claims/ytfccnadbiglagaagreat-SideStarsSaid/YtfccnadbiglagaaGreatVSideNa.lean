/- Positions and the letters of their sets: letters, has, only. Positions and the letters of their sets: newNet, begin, next, end. Along a text: begin, next, end. -/
import Derived.Test.YtfccnadbiglagaaGreatVSideW
import Derived.Test.YtfccnadbiglagaaGreatVPartG
import Derived.Laws.Cover1
set_option linter.unusedVariables false
set_option linter.unusedSimpArgs false
set_option maxRecDepth 100000
set_option maxHeartbeats 8000000
namespace Go.Proofs.YtfccnadbiglagaaGreat
open Go Go.RowKit Go.Proofs
def rowI (I : List (List Bool)) (x : Int) : List Bool := if 0 <= x /\ x < I.length then I.getD x.toNat [] else []
def hasN (S : List Int) (I : List (List Bool)) (at_ k : Nat) : Bool := (S.getD at_ 0 == -1) || (rowI I (S.getD at_ 0)).getD k false
def onlyL (S : List Int) (I : List (List Bool)) (C : List Int) (k : Nat) : List Int := (List.range C.length).map fun i => if hasN S I i k then C.getD i 0 else infC
structure NetV (w : World) (v : Value) (n : Nat) (S F E : List Int) (L : List ArcP) (z : Int) (I : List (List Bool)) : Prop where
 ex : ∃ A1 c1 A2 c2 A3 c3 A4 c4 A5 c5, v = .agg #[.slice A1 n c1, .slice A2 n c2, .slice A3 n c3, .slice A4 L.length c4, .int .i64 z, .slice A5 I.length c5] /\ ReadsI w (.slice A1 n c1) n S /\ ReadsI w (.slice A2 n c2) n F /\ ReadsI w (.slice A3 n c3) n E /\
  ReadsE encA 3 w (.slice A4 L.length c4) L.length L /\ ReadsBB w (.slice A5 I.length c5) I.length I
theorem NetV.below {w w' : World} {v : Value} {n : Nat} {S F E : List Int} {L : List ArcP} {z : Int} {I : List (List Bool)} (h : NetV w v n S F E L z I) (hb : Below w.heap.size w w') : NetV w' v n S F E L z I := by
 obtain ⟨A1, c1, A2, c2, A3, c3, A4, c4, A5, c5, e, h1, h2, h3, h4, h5⟩ := h.ex
 exact ⟨A1, c1, A2, c2, A3, c3, A4, c4, A5, c5, e, h1.below hb, h2.below hb, h3.below hb, h4.below hb, h5.below hb⟩
def TellsR (w : World) (l : List Bool) (e : Ending) (w' : World) : Prop := ∃ a m c, e = .returned (.slice a m c) /\ m = l.length /\ ReadsB w' (.slice a m c) l /\ Below w.heap.size w w'
theorem ReadsB.nil (w : World) : ReadsB w (.slice none 0 0) [] := ⟨none, 0, rfl, fun j hj => absurd hj (Nat.not_lt_zero j)⟩
theorem ReadsB.below {w w' : World} {u : Value} {l : List Bool} (h : ReadsB w u l) (hb : Below w.heap.size w w') : ReadsB w' u l :=
 h.same fun b o x hx => by rw [hb.cell (p := ⟨b, o, none⟩) (World.block_lt_of_cell? w _ hx)]; exact hx
theorem letters_any {w : World} {v : Value} {n : Nat} {S F E : List Int} {L : List ArcP} {z : Int} {I : List (List Bool)} (h : NetV w v n S F E L z I) (i : Nat) (hi : i < n) :
  Calls Tryz.prog 131 #[v, .int .i64 i] w (TellsR w (rowI I (S.getD i 0))) := by
  obtain ⟨A1, c1, A2, c2, A3, c3, A4, c4, A5, c5, rfl, h1, h2, h3, h4, h5⟩ := h.ex
  obtain ⟨nl, hnl⟩ : ∃ m, L.length = m := ⟨_, rfl⟩
  obtain ⟨ni, hni⟩ : ∃ m, I.length = m := ⟨_, rfl⟩
  rw [hni] at h5
  obtain ⟨b, off, rfl, hbl, hc⟩ := h1.at i hi
  obtain ⟨x, hx⟩ : ∃ x, S.getD i 0 = x := ⟨_, rfl⟩
  rw [hx] at hc ⊢
  have i0 : (0 : Int) <= (i : Int) := Int.natCast_nonneg _
  have i1 : (i : Int) < (n : Int) := by omega
  have n0 : (0 : Int) <= (ni : Int) := Int.natCast_nonneg _
  rw [hnl, hni]
  have hb : Below w.heap.size w (w.alloc (.cells #[.slice (some ⟨b, off, none⟩) n c1, .slice A2 n c2, .slice A3 n c3, .slice A4 nl c4, .int .i64 z, .slice A5 ni c5] 99)) := (Below.refl _ _).alloc (Nat.le_refl _) _
  have hc' := bel_q hb hc
  have HB := Lib.hid hb
  by_cases hin : 0 <= x /\ x < (ni : Int)
  ·obtain ⟨k, hk⟩ : ∃ k : Nat, x = k := ⟨x.toNat, by omega⟩
   subst hk
   have hk : k < ni := by omega
   obtain ⟨b2, o2, a', cap', rfl, hc2, hr⟩ := h5.at k hk
   have hc2' := bel_q hb hc2
   have hrow : rowI I (k : Int) = I.getD k [] := by unfold rowI; rw [if_pos (by rw [hni]; exact hin)]; rfl
   rw [hrow]
   have HR := Lib.hid hr
   obtain ⟨m, hm⟩ : ∃ m, (I.getD k []).length = m := ⟨_, rfl⟩
   rw [hm] at hc2' HR
   have HM := Lib.hid hm
   have k0 : (0 : Int) <= (k : Int) := Int.natCast_nonneg _
   have k1 : (k : Int) < (ni : Int) := hin.2
   have d1 : decide ((0 : Int) <= (k : Int)) = true := by simp
   have d2 : decide ((k : Int) < (ni : Int)) = true := by simp; exact hk
   have d3 : decide (k < ni) = true := by simp; exact hk
   clear hin h h1 h2 h3 h4 h5 hc hc2 hr hx hnl hni hrow hm hb
   go_enter Tryz.func131, Tryz.ntmps131
   go_wp2_with fail
   go_ret
   exact ⟨_, _, _, rfl, HM.out.symm, HR.out.below HB.out, HB.out⟩
  ·have hrow : rowI I x = [] := by unfold rowI; rw [if_neg (by rw [hni]; exact hin)]
   rw [hrow]
   clear h h1 h2 h3 h4 h5 hc hx hnl hni hrow hb
   by_cases h0 : 0 <= x
   ·have hx1 : ¬ x < (ni : Int) := fun q => hin ⟨h0, q⟩
    have d1 : decide ((0 : Int) <= x) = true := by simp; exact h0
    have d2 : decide (x < (ni : Int)) = false := by simp; omega
    clear hin
    go_enter Tryz.func131, Tryz.ntmps131
    go_wp2_with fail
    go_ret
    exact ⟨_, _, _, rfl, rfl, ReadsB.nil _, HB.out⟩
   ·have d1 : decide ((0 : Int) <= x) = false := by simp; omega
    clear hin
    go_enter Tryz.func131, Tryz.ntmps131
    go_wp2_with fail
    go_ret
    exact ⟨_, _, _, rfl, rfl, ReadsB.nil _, HB.out⟩
theorem nhas_any {w : World} {v : Value} {n : Nat} {S F E : List Int} {L : List ArcP} {z : Int} {I : List (List Bool)} (h : NetV w v n S F E L z I) (i : Nat) (hi : i < n) (k : Nat) :
  Calls Tryz.prog 126 #[v, .int .i64 i, .int .i64 k] w fun e w' => e = .returned (.bool (hasN S I i k)) /\ Below w.heap.size w w' := by
  have hle := fun W (hW : Below w.heap.size w W) => letters_any (h.below hW) i hi
  obtain ⟨A1, c1, A2, c2, A3, c3, A4, c4, A5, c5, rfl, h1, h2, h3, h4, h5⟩ := h.ex
  obtain ⟨nl, hnl⟩ : ∃ m, L.length = m := ⟨_, rfl⟩
  obtain ⟨ni, hni⟩ : ∃ m, I.length = m := ⟨_, rfl⟩
  obtain ⟨b, off, rfl, hbl, hc⟩ := h1.at i hi
  obtain ⟨x, hx⟩ : ∃ x, S.getD i 0 = x := ⟨_, rfl⟩
  obtain ⟨r, hr⟩ : ∃ r, rowI I x = r := ⟨_, rfl⟩
  have hh : hasN S I i k = ((x == -1) || r.getD k false) := by unfold hasN; rw [hx, hr]
  rw [hh]
  rw [hx] at hc hle
  rw [hr] at hle
  have i0 : (0 : Int) <= (i : Int) := Int.natCast_nonneg _
  have i1 : (i : Int) < (n : Int) := by omega
  have k0 : (0 : Int) <= (k : Int) := Int.natCast_nonneg _
  rw [hnl, hni] at hle ⊢
  have hb : Below w.heap.size w (w.alloc (.cells #[.slice (some ⟨b, off, none⟩) n c1, .slice A2 n c2, .slice A3 n c3, .slice A4 nl c4, .int .i64 z, .slice A5 ni c5] 99)) := (Below.refl _ _).alloc (Nat.le_refl _) _
  have hle1 := hle _ hb
  have HB := Lib.hid hb; have HC := Lib.hid hc; have HL := Lib.hid hle1
  clear h h1 h2 h3 h4 h5 hc hle hle1 hx hr hh hnl hni hb
  go_enter Tryz.func126, Tryz.ntmps126
  go_wp2_with fail
  refine HL.out.mono ?_
  rintro e w1 ⟨a, m, c, rfl, hm, hr, hb1⟩
  have hbw := HB.out.trans (hb1.mono HB.out.size)
  have hc1 := bel_q hbw HC.out
  have hx1 : Blk w1 w.heap.size 99 #[.slice (some ⟨b, off, none⟩) n c1, .slice A2 n c2, .slice A3 n c3, .slice A4 nl c4, .int .i64 z, .slice A5 ni c5] := Blk.below (Blk.new w _ _) hb1 (by simp)
  have y0 := Blk.cell hx1 0
  simp only [List.getElem?_toArray, List.getElem?_cons_zero, List.getElem?_cons_succ] at y0
  have HBW := Lib.hid hbw; have HR := Lib.hid hr; have HM := Lib.hid hm
  clear hbw hr hm hx1 hb1 HL
  by_cases hx : x = -1
  ·subst hx
   go_wp2_with fail
   go_ret
   exact ⟨by simp, HBW.out⟩
  ·have e1 : (x == -1) = false := by simpa using hx
   have E1 := Lib.hid e1
   by_cases hk : k < m
   ·obtain ⟨b2, o2, rfl, hc2⟩ := HR.out.at k (by rw [<- HM.out]; exact hk)
    obtain ⟨q, hq⟩ : ∃ q, r.getD k false = q := ⟨_, rfl⟩
    rw [hq] at hc2
    have HQ := Lib.hid hq
    have k1 : (k : Int) < (m : Int) := by omega
    have d1 : decide (k < m) = true := by simpa using hk
    clear hq
    go_wp2_with fail
    go_ret
    exact ⟨by rw [E1.out, HQ.out]; rfl, HBW.out⟩
   ·have hq : r.getD k false = false := by rw [List.getD_eq_getElem?_getD, List.getElem?_eq_none (by rw [<- HM.out]; omega)]; rfl
    have HQ := Lib.hid hq
    have k1 : ¬ (k : Int) < (m : Int) := by omega
    have d1 : decide (k < m) = false := by simpa using hk
    clear hq
    go_wp2_with fail
    go_ret
    exact ⟨by rw [E1.out, HQ.out]; rfl, HBW.out⟩
def fillO (S : List Int) (I : List (List Bool)) (C : List Int) (k i : Nat) : List Int := (List.range C.length).map fun j => if decide (j < i) && hasN S I j k then C.getD j 0 else infC
theorem fillO_zero (S : List Int) (I : List (List Bool)) (C : List Int) (k : Nat) : fillO S I C k 0 = List.replicate C.length infC := by
 unfold fillO
 rw [List.map_congr_left (g := fun _ => infC) (fun j _ => by simp), List.map_const', List.length_range]
theorem fillO_all (S : List Int) (I : List (List Bool)) (C : List Int) (k : Nat) : fillO S I C k C.length = onlyL S I C k := List.map_congr_left fun j hj => by
 rw [show decide (j < C.length) = true by simpa using hj, Bool.true_and]
theorem fillO_len (S : List Int) (I : List (List Bool)) (C : List Int) (k i : Nat) : (fillO S I C k i).length = C.length := by simp [fillO]
theorem fillO_no {S : List Int} {I : List (List Bool)} {C : List Int} {k i : Nat} (h : hasN S I i k = false) : fillO S I C k (i + 1) = fillO S I C k i := List.map_congr_left fun j _ => by
 by_cases e : j = i
 ·subst e; rw [h, Bool.and_false, Bool.and_false]
 ·rw [show decide (j < i + 1) = decide (j < i) from decide_eq_decide.2 (by omega)]
theorem fillO_yes {S : List Int} {I : List (List Bool)} {C : List Int} {k i : Nat} (h : hasN S I i k = true) : (fillO S I C k i).set i (C.getD i 0) = fillO S I C k (i + 1) := by
 refine List.ext_getElem? fun j => ?_
 rw [List.getElem?_set, fillO_len]
 unfold fillO
 rw [List.getElem?_map, List.getElem?_map]
 by_cases hj : j < C.length
 ·rw [List.getElem?_range hj]
  by_cases e : i = j
  ·subst e
   rw [if_pos rfl, if_pos hj]
   simp [h]
  ·rw [if_neg e]
   simp only [Option.map_some]
   rw [show decide (j < i + 1) = decide (j < i) from decide_eq_decide.2 (by omega)]
 ·rw [List.getElem?_eq_none (by simpa using hj)]
  by_cases e : i = j
  ·subst e
   rw [if_pos rfl, if_neg hj]; rfl
  ·rw [if_neg e]; rfl
theorem only_any {w : World} {v u : Value} {n : Nat} {S F E : List Int} {L : List ArcP} {z : Int} {I : List (List Bool)} (h : NetV w v n S F E L z I) (hn : n <= 1000) {C : List Int} (hC : ReadsI w u n C) (k : Nat) :
  Calls Tryz.prog 97 #[v, u, .int .i64 k] w fun e w' => ∃ g, e = .returned (.slice (some ⟨g, 0, none⟩) n n) /\ w.heap.size <= g /\ Blk w' g 3 ((onlyL S I C k).map (Value.int .i64)).toArray /\ Below w.heap.size w w' := by
  have hha := fun W (hW : Below w.heap.size w W) i (hi : i < n) => nhas_any (h.below hW) i hi k
  obtain ⟨A1, c1, A2, c2, A3, c3, A4, c4, A5, c5, rfl, h1, h2, h3, h4, h5⟩ := h.ex
  obtain ⟨nl, hnl⟩ : ∃ m, L.length = m := ⟨_, rfl⟩
  obtain ⟨ni, hni⟩ : ∃ m, I.length = m := ⟨_, rfl⟩
  obtain ⟨a, cap, rfl, q1, q2, q3⟩ := hC.form
  have hCl : C.length = n := q3
  rw [hnl, hni] at hha ⊢
  obtain ⟨W0, hW0⟩ : ∃ W0, w.alloc (.cells #[.slice A1 n c1, .slice A2 n c2, .slice A3 n c3, .slice A4 nl c4, .int .i64 z, .slice A5 ni c5] 99) = W0 := ⟨_, rfl⟩
  have hb0 : Below w.heap.size w W0 := by rw [<- hW0]; exact (Below.refl _ _).alloc (Nat.le_refl _) _
  have hx0 : Blk W0 w.heap.size 99 #[.slice A1 n c1, .slice A2 n c2, .slice A3 n c3, .slice A4 nl c4, .int .i64 z, .slice A5 ni c5] := by rw [<- hW0]; exact Blk.new _ _ _
  have hz0 : W0.heap.size = w.heap.size + 1 := by rw [<- hW0]; simp
  have hfb := forb_any n hn W0
  have n0 : (0 : Int) <= (n : Int) := Int.natCast_nonneg _
  have HHA := Lib.hid hha; have HC := Lib.hid hC; have HB0 := Lib.hid hb0; have HX0 := Lib.hid hx0; have HZ0 := Lib.hid hz0; have HFB := Lib.hid hfb; have HW0 := Lib.hid hW0; have HCL := Lib.hid hCl
  clear h h1 h2 h3 h4 h5 hnl hni hha hC hb0 hx0 hz0 hfb hW0 hCl q3
  go_enter Tryz.func97, Tryz.ntmps97
  go_wp2_with fail
  rw [HW0.out]
  refine HFB.out.mono ?_
  rintro e w1 ⟨rfl, hg, hb1⟩
  obtain ⟨g, hgE⟩ : ∃ g, W0.heap.size + 1 = g := ⟨_, rfl⟩
  rw [hgE] at hg ⊢
  have hg' : Blk w1 g 3 ((fillO S I C k 0).map (Value.int .i64)).toArray := by rw [fillO_zero, List.map_replicate, HCL.out]; exact hg
  have hx1 := Blk.below HX0.out hb1 HX0.out.lt
  have HG := Lib.hid hg'; have HX1 := Lib.hid hx1; have HB1 := Lib.hid (HB0.out.trans (hb1.mono HB0.out.size)); have HGE := Lib.hid hgE
  clear hg hg' hx1 hb1 hgE HFB
  go_wp2_with fail
  go_loopg [15] n (fun gk vi wr => ∃ i : Nat, vi = .int .i64 i /\ gk = n - i /\ i <= n /\ Hid (Blk wr g 3 ((fillO S I C k i).map (Value.int .i64)).toArray) /\ Hid (Blk wr w.heap.size 99 #[.slice A1 n c1, .slice A2 n c2, .slice A3 n c3, .slice A4 nl c4, .int .i64 z, .slice A5 ni c5]) /\ Hid (Below w.heap.size w wr))
  case atStart => exact ⟨0, rfl, rfl, Nat.zero_le _, HG, HX1, HB1⟩
  case round =>
   clear HG HX1 HB1
   obtain ⟨i, rfl, hgk, hin, HG, HX, HB⟩ := hrel
   have HGK := Lib.hid hgk; clear hgk
   have i0 : (0 : Int) <= (i : Int) := Int.natCast_nonneg _
   by_cases hlt : i < n
   ·have i1 : (i : Int) < (n : Int) := by omega
    obtain ⟨b, off, rfl, hbl, hc⟩ := HC.out.at i hlt
    have hc1 := bel_q HB.out hc
    obtain ⟨x, hx⟩ : ∃ x, C.getD i 0 = x := ⟨_, rfl⟩
    rw [hx] at hc1
    have y0 := Blk.cell HX.out 0; have y1 := Blk.cell HX.out 1; have y2 := Blk.cell HX.out 2; have y3 := Blk.cell HX.out 3; have y4 := Blk.cell HX.out 4; have y5 := Blk.cell HX.out 5
    simp only [List.getElem?_toArray, List.getElem?_cons_zero, List.getElem?_cons_succ] at y0 y1 y2 y3 y4 y5
    have hcall := HHA.out wr HB.out i hlt
    have hgr := HB.out.size
    have HCC := Lib.hid hcall; have HXV := Lib.hid hx
    clear hc hcall hx hgr
    cases hh : hasN S I i k with
    | true =>
      have HH := Lib.hid hh
      rw [hh] at HCC
      clear hh
      go_wp2_with fail
      refine HCC.out.mono ?_
      clear y0 y1 y2 y3 y4 y5 hc1 HCC
      rintro e w3 ⟨rfl, hb3⟩
      have hg3 := Blk.below HG.out hb3 HG.out.lt
      have f1 := Blk.frozen hg3 i
      have d1 := Blk.cell hg3 i
      rw [List.getElem?_toArray, List.getElem?_map, List.getElem?_eq_getElem (show i < (fillO S I C k i).length by rw [fillO_len, HCL.out]; exact hlt)] at d1
      simp only [Option.map_some] at d1
      obtain ⟨y, hy⟩ : ∃ y, (fillO S I C k i)[i]'(by rw [fillO_len, HCL.out]; exact hlt) = y := ⟨_, rfl⟩
      rw [hy] at d1
      have hgz : w.heap.size < g := by have := HGE.out; have := HZ0.out; omega
      have HG3 := Lib.hid hg3; have HX3 := Lib.hid (Blk.below HX.out hb3 HX.out.lt); have HB3 := Lib.hid (HB.out.trans (hb3.mono HB.out.size)); have HGZ := Lib.hid hgz
      clear hg3 hb3 hy hgz
      go_wp2_with fail
      go_roundg (n - (i + 1))
      case measure => have := HGK.out; omega
      case rel =>
       refine ⟨i + 1, by go_num, rfl, hlt, Lib.hid ?_, Lib.hid (Blk.far HX3.out (p := ⟨g, i, none⟩) (by show w.heap.size ≠ g; have := HGZ.out; omega) _), Lib.hid (HB3.out.setCell (p := ⟨g, i, none⟩) (by show w.heap.size <= g; have := HGZ.out; omega) _)⟩
       have h9 := HG3.out.set_ i (.int .i64 x)
       rw [List.setIfInBounds_toArray, <- List.map_set, <- HXV.out, fillO_yes HH.out] at h9
       rw [<- HXV.out]
       exact h9
    | false =>
      have HH := Lib.hid hh
      rw [hh] at HCC
      clear hh
      go_wp2_with fail
      refine HCC.out.mono ?_
      clear y0 y1 y2 y3 y4 y5 hc1 HCC
      rintro e w3 ⟨rfl, hb3⟩
      have HG3 := Lib.hid (Blk.below HG.out hb3 HG.out.lt); have HX3 := Lib.hid (Blk.below HX.out hb3 HX.out.lt); have HB3 := Lib.hid (HB.out.trans (hb3.mono HB.out.size))
      clear hb3
      go_wp2_with fail
      go_roundg (n - (i + 1))
      case measure => have := HGK.out; omega
      case rel => exact ⟨i + 1, by go_num, rfl, hlt, Lib.hid (by rw [fillO_no HH.out]; exact HG3.out), HX3, HB3⟩
   ·obtain rfl : i = n := by omega
    go_wp2_with fail
    go_ret
    refine ⟨g, rfl, by have := HGE.out; have := HZ0.out; omega, ?_, HB.out⟩
    have h9 := HG.out
    rw [<- HCL.out, fillO_all] at h9
    exact h9
end Go.Proofs.YtfccnadbiglagaaGreat
namespace Go.Proofs.YtfccnadbiglagaaGreat
open Go Go.RowKit Go.Proofs
structure SideR (w : World) (v : Value) (n : Nat) (S F E : List Int) (L : List ArcP) (z : Int) : Prop where
 ex : ∃ A1 c1 A2 c2 A3 c3 A4 c4, v = .agg #[.slice A1 n c1, .slice A2 n c2, .slice A3 n c3, .slice A4 L.length c4, .int .i64 z] /\ ReadsI w (.slice A1 n c1) n S /\ ReadsI w (.slice A2 n c2) n F /\ ReadsI w (.slice A3 n c3) n E /\ ReadsE encA 3 w (.slice A4 L.length c4) L.length L
theorem SideR.below {w w' : World} {v : Value} {n : Nat} {S F E : List Int} {L : List ArcP} {z : Int} (h : SideR w v n S F E L z) (hb : Below w.heap.size w w') : SideR w' v n S F E L z := by
 obtain ⟨A1, c1, A2, c2, A3, c3, A4, c4, e, h1, h2, h3, h4⟩ := h.ex
 exact ⟨A1, c1, A2, c2, A3, c3, A4, c4, e, h1.below hb, h2.below hb, h3.below hb, h4.below hb⟩
theorem SideR.forms {w : World} {n nl : Nat} {A1 A2 A3 A4 : Option Addr} {c1 c2 c3 c4 : Nat} {S F E : List Int} {L : List ArcP} {z : Int} (h : SideR w (.agg #[.slice A1 n c1, .slice A2 n c2, .slice A3 n c3, .slice A4 nl c4, .int .i64 z]) n S F E L z) :
  nl = L.length /\ ReadsI w (.slice A1 n c1) n S /\ ReadsI w (.slice A2 n c2) n F /\ ReadsI w (.slice A3 n c3) n E /\ ReadsE encA 3 w (.slice A4 nl c4) nl L := by
  obtain ⟨B1, d1, B2, d2, B3, d3, B4, d4, e, h1, h2, h3, h4⟩ := h.ex
  simp only [Value.agg.injEq, Array.mk.injEq, List.cons.injEq, Value.slice.injEq, true_and, and_true] at e
  obtain ⟨⟨rfl, rfl⟩, ⟨rfl, rfl⟩, ⟨rfl, rfl⟩, rfl, rfl, rfl⟩ := e
  exact ⟨rfl, h1, h2, h3, h4⟩
theorem OwnLL.kept_ {w w' : World} {B : Nat} {e e' : TypeId} {sz k : Nat} {v : Value} {xss : List (Nat × List Value)} {row : Option Nat} (h : OwnLL w B e e' sz v k xss) (hg : w.grownBy w' row) (hr : ∀ b, row = some b -> b < B) : OwnLL w' B e e' sz v k xss := by
 obtain ⟨h1, vals, h2, h3⟩ := h
 have ne : ∀ {n s : Nat} {t : TypeId} {u : Value} {xs : List Value}, w.ownsRow B t s u n xs -> u.ownBlock = none \/ u.ownBlock ≠ row := fun {n s t u xs} hu => by
  cases hv : u.ownBlock with
  | none => exact .inl rfl
  | some g => exact .inr (fun q => by have := hr g q.symm; have := (World.ownsRow.lt hu g hv).1; omega)
 exact ⟨h1, vals, World.ownsRow.kept h2 hg (ne h2), fun i hi => ⟨World.ownsRow.kept (h3 i hi).1 hg (ne (h3 i hi).1), (h3 i hi).2⟩⟩
theorem SideV.reads {w : World} {B : Nat} {v : Value} {s : SideP} (h : SideV w B v s) : SideR w v s.n s.sets s.first s.ends (arcsOf s.n s.arc) s.none_ := by
 obtain ⟨vs, vf, ve, va, rfl, h1, h2, h3, h4⟩ := h
 have r1 := h1.readsI; have r2 := h2.readsI; have r3 := h3.readsI; have r4 := h4.reads encA_len (by omega)
 obtain ⟨A1, c1, rfl, -, -, -⟩ := r1.form
 obtain ⟨A2, c2, rfl, -, -, -⟩ := r2.form
 obtain ⟨A3, c3, rfl, -, -, -⟩ := r3.form
 obtain ⟨A4, c4, rfl, -, -, -⟩ := r4.form
 exact ⟨A1, c1, A2, c2, A3, c3, A4, c4, rfl, r1, r2, r3, r4⟩
def ArcsIn (n : Nat) (L : List ArcP) : Prop := ∀ x ∈ L, (∃ i : Nat, x.1 = i /\ i < n) /\ (∃ j : Nat, x.2.1 = j /\ j < n) /\ CostC x.2.2
theorem arcsOf_in {n : Nat} {f : Mat} (hf : ∀ i j, CostC (f i j)) : ArcsIn n (arcsOf n f) := fun x hx => by
 obtain ⟨i, j, hi, hj, rfl, _⟩ := arcsOf_mem hx
 exact ⟨⟨i, rfl, hi⟩, ⟨j, rfl, hj⟩, hf i j⟩
theorem newNet_any {w : World} {v u : Value} {n : Nat} {S F E : List Int} {L : List ArcP} {z : Int} {I : List (List Bool)} {row : Option Nat} (h : ∀ W, w.grownBy W row -> SideR W v n S F E L z) (hI : ∀ W, w.grownBy W row -> ReadsBB W u I.length I) (hrow : ∀ b, row = some b -> b < w.heap.size) (hn : n <= 1000) (hL : ArcsIn n L) (hLl : L.length <= 100000000) :
  Calls Tryz.prog 52 #[v, u] w fun e w' => ∃ v', e = .returned v' /\ (∀ W, w'.grownBy W row -> NetV W v' n S F E L z I) /\ Below w.heap.size w w' := by
  obtain ⟨A1, c1, A2, c2, A3, c3, A4, c4, rfl, h1, h2, h3, h4⟩ := (h w (only_refl w row)).ex
  obtain ⟨-, A5, c5, rfl, -⟩ := id (hI w (only_refl w row))
  have n1 : n <= c1 := by obtain ⟨_, _, e, q, _⟩ := h1.form; simp only [Value.slice.injEq, true_and] at e; omega
  have n2 : n <= c2 := by obtain ⟨_, _, e, q, _⟩ := h2.form; simp only [Value.slice.injEq, true_and] at e; omega
  have n3 : n <= c3 := by obtain ⟨_, _, e, q, _⟩ := h3.form; simp only [Value.slice.injEq, true_and] at e; omega
  obtain ⟨nl, hnl⟩ : ∃ m, L.length = m := ⟨_, rfl⟩
  obtain ⟨ni, hni⟩ : ∃ m, I.length = m := ⟨_, rfl⟩
  rw [hnl] at h4 ⊢
  rw [hni]
  obtain ⟨W0, hW0⟩ : ∃ W0, (w.alloc (.cells #[.slice A1 n c1, .slice A2 n c2, .slice A3 n c3, .slice A4 nl c4, .int .i64 z] 39)).alloc (.cells #[.slice none 0 0, .slice none 0 0, .slice none 0 0, .slice none 0 0, .int .i64 0, .slice none 0 0] 99) = W0 := ⟨_, rfl⟩
  have hb0 : Below w.heap.size w W0 := by rw [<- hW0]; exact ((Below.refl _ _).alloc (Nat.le_refl _) _).alloc (by simp) _
  have hz0 : W0.heap.size = w.heap.size + 2 := by rw [<- hW0]; simp
  have hx0 : Blk W0 w.heap.size 39 #[.slice A1 n c1, .slice A2 n c2, .slice A3 n c3, .slice A4 nl c4, .int .i64 z] := by rw [<- hW0]; exact Blk.alloc (Blk.new _ _ _) _
  have hx1 : Blk W0 (w.heap.size + 1) 99 #[.slice none 0 0, .slice none 0 0, .slice none 0 0, .slice none 0 0, .int .i64 0, .slice none 0 0] := by
   rw [<- hW0]
   have := Blk.new (w.alloc (.cells #[.slice A1 n c1, .slice A2 n c2, .slice A3 n c3, .slice A4 nl c4, .int .i64 z] 39)) 99 #[.slice none 0 0, .slice none 0 0, .slice none 0 0, .slice none 0 0, .int .i64 0, .slice none 0 0]
   rwa [World.size_alloc] at this
  have n0 : (0 : Int) <= (n : Int) := Int.natCast_nonneg _
  have n4 : ¬ (c1 : Int) < (n : Int) := by omega
  have n5 : ¬ (c2 : Int) < (n : Int) := by omega
  have n6 : ¬ (c3 : Int) < (n : Int) := by omega
  have HSR := Lib.hid h; have HROW := Lib.hid hrow; have H4 := Lib.hid h4; have HI := Lib.hid hI; have HX0 := Lib.hid hx0; have HX1 := Lib.hid hx1; have HB0 := Lib.hid hb0; have HZ0 := Lib.hid hz0; have HW0 := Lib.hid hW0; have HNL := Lib.hid hnl; have HNI := Lib.hid hni; have HL := Lib.hid hL; have HLL := Lib.hid hLl
  clear h hrow h1 h2 h3 h4 hI hx0 hx1 hb0 hz0 hW0 hnl hni hL hLl
  go_enter Tryz.func52, Tryz.ntmps52
  go_wp2_with fail
  rw [HW0.out]
  refine region_x 17 (fun w' : World => w'.cell? ⟨w.heap.size, 0, none⟩ = some (.slice A1 n c1) /\ w'.cell? ⟨w.heap.size, 1, none⟩ = some (.slice A2 n c2) /\ w'.cell? ⟨w.heap.size, 2, none⟩ = some (.slice A3 n c3)) (by kernel_rfl) ?_
  have hS : (fun w' : World => w'.cell? ⟨w.heap.size, 0, none⟩ = some (.slice A1 n c1) /\ w'.cell? ⟨w.heap.size, 1, none⟩ = some (.slice A2 n c2) /\ w'.cell? ⟨w.heap.size, 2, none⟩ = some (.slice A3 n c3)) W0.drew := ⟨Blk.cell HX0.out.drew 0, Blk.cell HX0.out.drew 1, Blk.cell HX0.out.drew 2⟩
  have hxd := HX0.out.drew
  obtain ⟨V0, eV⟩ : ∃ W', W0.drew = W' := ⟨_, rfl⟩
  have hbd : Below W0.heap.size W0 V0 := by rw [<- eV]; exact (Below.refl _ _).drew
  rw [eV] at hS hxd ⊢
  clear eV
  refine tkx (i := 0) (v := ?_) hS ?_ ?_
  rotate_left
  ·rintro w' ⟨b0, b1, b2⟩
   go_simp
   try with_reducible rfl
  try simp only [Act.put, zq1, zq2, zq3, zq4, zq5, zq6]
  refine tkx (i := 1) (v := ?_) hS ?_ ?_
  rotate_left
  ·rintro w' ⟨b0, b1, b2⟩
   go_simp
   try with_reducible rfl
  try simp only [Act.put, zq1, zq2, zq3, zq4, zq5, zq6]
  refine tkx (i := 2) (v := ?_) hS ?_ ?_
  rotate_left
  ·rintro w' ⟨b0, b1, b2⟩
   go_simp
   try with_reducible rfl
  try simp only [Act.put, zq1, zq2, zq3, zq4, zq5, zq6]
  refine tkx (i := 3) (v := ?_) hS ?_ ?_
  rotate_left
  ·rintro w' ⟨b0, b1, b2⟩
   go_simp
   try with_reducible rfl
  try simp only [Act.put, zq1, zq2, zq3, zq4, zq5, zq6]
  refine tkx (i := 4) (v := ?_) hS ?_ ?_
  rotate_left
  ·rintro w' ⟨b0, b1, b2⟩
   go_simp
   try with_reducible rfl
  try simp only [Act.put, zq1, zq2, zq3, zq4, zq5, zq6]
  refine tkx (i := 5) (v := ?_) hS ?_ ?_
  rotate_left
  ·rintro w' ⟨b0, b1, b2⟩
   go_simp
   try with_reducible rfl
  try simp only [Act.put, zq1, zq2, zq3, zq4, zq5, zq6]
  refine tkx (i := 6) (v := ?_) hS ?_ ?_
  rotate_left
  ·rintro w' ⟨b0, b1, b2⟩
   go_simp
   try with_reducible rfl
  try simp only [Act.put, zq1, zq2, zq3, zq4, zq5, zq6]
  refine tkx (i := 7) (v := ?_) hS ?_ ?_
  rotate_left
  ·rintro w' ⟨b0, b1, b2⟩
   go_simp
   try with_reducible rfl
  try simp only [Act.put, zq1, zq2, zq3, zq4, zq5, zq6]
  refine tkx (i := 8) (v := ?_) hS ?_ ?_
  rotate_left
  ·rintro w' ⟨b0, b1, b2⟩
   go_simp
   try with_reducible rfl
  try simp only [Act.put, zq1, zq2, zq3, zq4, zq5, zq6]
  refine tkx (i := 9) (v := ?_) hS ?_ ?_
  rotate_left
  ·rintro w' ⟨b0, b1, b2⟩
   go_simp
   try with_reducible rfl
  try simp only [Act.put, zq1, zq2, zq3, zq4, zq5, zq6]
  refine tkx (i := 10) (v := ?_) hS ?_ ?_
  rotate_left
  ·rintro w' ⟨b0, b1, b2⟩
   go_simp
   try with_reducible rfl
  try simp only [Act.put, zq1, zq2, zq3, zq4, zq5, zq6]
  refine tkx (i := 11) (v := ?_) hS ?_ ?_
  rotate_left
  ·rintro w' ⟨b0, b1, b2⟩
   go_simp
   try with_reducible rfl
  try simp only [Act.put, zq1, zq2, zq3, zq4, zq5, zq6]
  have hbw0 : Below w.heap.size w V0 := HB0.out.trans (hbd.mono HB0.out.size)
  have hxn := Blk.below HX1.out hbd HX1.out.lt
  refine tkx (i := 12) (v := ?_) hS ?_ ?_
  rotate_left
  ·rintro w' ⟨b0, b1, b2⟩
   go_simp
   try with_reducible rfl
  try simp only [Act.put, zq1, zq2, zq3, zq4, zq5, zq6]
  have r0 := Blk.cell hxd 0
  have f0 := Blk.frozen hxd 0
  simp only [List.getElem?_toArray, List.getElem?_cons_zero, List.getElem?_cons_succ] at r0
  refine anyX_g (i := 13) (by kernel_rfl) (by decide) rfl (by rfl) ?_
  intro K hK
  try simp only [zq1, zq2, zq3]
  go_simp
  obtain ⟨V1, eV⟩ : ∃ W', V0.setCell ⟨w.heap.size, 0, none⟩ (.slice A1 n c1) = W' := ⟨_, rfl⟩
  have hxd1 : Blk V1 w.heap.size 39 #[.slice A1 n c1, .slice A2 n c2, .slice A3 n c3, .slice A4 nl c4, .int .i64 z] := by rw [<- eV]; simpa using hxd.set_ 0 (.slice A1 n c1)
  have hbw1 : Below w.heap.size w V1 := by rw [<- eV]; exact hbw0.setCell (p := ⟨w.heap.size, 0, none⟩) (Nat.le_refl _) _
  have hsV1 : V1.heap.size = V0.heap.size := by rw [<- eV]; simp
  rw [eV]
  have hS1 : (fun w' : World => w'.cell? ⟨w.heap.size, 0, none⟩ = some (.slice A1 n c1) /\ w'.cell? ⟨w.heap.size, 1, none⟩ = some (.slice A2 n c2) /\ w'.cell? ⟨w.heap.size, 2, none⟩ = some (.slice A3 n c3)) V1 := ⟨Blk.cell hxd1 0, Blk.cell hxd1 1, Blk.cell hxd1 2⟩
  have hxn1 : Blk V1 (w.heap.size + 1) 99 #[.slice none 0 0, .slice none 0 0, .slice none 0 0, .slice none 0 0, .int .i64 0, .slice none 0 0] := by rw [<- eV]; exact hxn.far (p := ⟨w.heap.size, 0, none⟩) (by simp) _
  clear eV r0 f0
  refine hK _ _ hS1 ?_
  clear hK
  try simp only [Act.put, zq1, zq2, zq3, zq4, zq5, zq6]
  refine tkx (i := 14) (v := ?_) hS1 ?_ ?_
  rotate_left
  ·rintro w' ⟨b0, b1, b2⟩
   go_simp
   try with_reducible rfl
  try simp only [Act.put, zq1, zq2, zq3, zq4, zq5, zq6]
  have r1 := Blk.cell hxd1 1
  have f1 := Blk.frozen hxd1 1
  simp only [List.getElem?_toArray, List.getElem?_cons_zero, List.getElem?_cons_succ] at r1
  refine anyX_g (i := 15) (by kernel_rfl) (by decide) rfl (by rfl) ?_
  intro K hK
  try simp only [zq1, zq2, zq3]
  go_simp
  obtain ⟨V2, eV⟩ : ∃ W', V1.setCell ⟨w.heap.size, 1, none⟩ (.slice A2 n c2) = W' := ⟨_, rfl⟩
  have hxd2 : Blk V2 w.heap.size 39 #[.slice A1 n c1, .slice A2 n c2, .slice A3 n c3, .slice A4 nl c4, .int .i64 z] := by rw [<- eV]; simpa using hxd1.set_ 1 (.slice A2 n c2)
  have hbw2 : Below w.heap.size w V2 := by rw [<- eV]; exact hbw1.setCell (p := ⟨w.heap.size, 1, none⟩) (Nat.le_refl _) _
  have hsV2 : V2.heap.size = V1.heap.size := by rw [<- eV]; simp
  rw [eV]
  have hS2 : (fun w' : World => w'.cell? ⟨w.heap.size, 0, none⟩ = some (.slice A1 n c1) /\ w'.cell? ⟨w.heap.size, 1, none⟩ = some (.slice A2 n c2) /\ w'.cell? ⟨w.heap.size, 2, none⟩ = some (.slice A3 n c3)) V2 := ⟨Blk.cell hxd2 0, Blk.cell hxd2 1, Blk.cell hxd2 2⟩
  have hxn2 : Blk V2 (w.heap.size + 1) 99 #[.slice none 0 0, .slice none 0 0, .slice none 0 0, .slice none 0 0, .int .i64 0, .slice none 0 0] := by rw [<- eV]; exact hxn1.far (p := ⟨w.heap.size, 1, none⟩) (by simp) _
  clear eV r1 f1
  refine hK _ _ hS2 ?_
  clear hK
  try simp only [Act.put, zq1, zq2, zq3, zq4, zq5, zq6]
  refine tkx (i := 16) (v := ?_) hS2 ?_ ?_
  rotate_left
  ·rintro w' ⟨b0, b1, b2⟩
   go_simp
   try with_reducible rfl
  try simp only [Act.put, zq1, zq2, zq3, zq4, zq5, zq6]
  have r2 := Blk.cell hxd2 2
  have f2 := Blk.frozen hxd2 2
  simp only [List.getElem?_toArray, List.getElem?_cons_zero, List.getElem?_cons_succ] at r2
  obtain ⟨V3, eV⟩ : ∃ W', V2.setCell ⟨w.heap.size, 2, none⟩ (.slice A3 n c3) = W' := ⟨_, rfl⟩
  have hxd3 : Blk V3 w.heap.size 39 #[.slice A1 n c1, .slice A2 n c2, .slice A3 n c3, .slice A4 nl c4, .int .i64 z] := by rw [<- eV]; simpa using hxd2.set_ 2 (.slice A3 n c3)
  have hbw3 : Below w.heap.size w V3 := by rw [<- eV]; exact hbw2.setCell (p := ⟨w.heap.size, 2, none⟩) (Nat.le_refl _) _
  have hsV3 : V3.heap.size = V2.heap.size := by rw [<- eV]; simp
  have hxn3 : Blk V3 (w.heap.size + 1) 99 #[.slice none 0 0, .slice none 0 0, .slice none 0 0, .slice none 0 0, .int .i64 0, .slice none 0 0] := by rw [<- eV]; exact hxn2.far (p := ⟨w.heap.size, 2, none⟩) (by simp) _
  have hz3 : w.heap.size + 2 <= V3.heap.size := by have := hbd.size; have := HZ0.out; omega
  refine anyX_last (by kernel_rfl) (by kernel_rfl) rfl rfl ?_
  try simp only [zq1, zq2, zq3]
  go_simp
  try apply_assumption
  try rw [eV]
  have HX3 := Lib.hid hxd3; have HN3 := Lib.hid hxn3; have HB3 := Lib.hid hbw3; have HZ3 := Lib.hid hz3
  clear eV r2 f2 hS hS1 hS2 hxd hxd1 hxd2 hxd3 hxn hxn1 hxn2 hxn3 hbw0 hbw1 hbw2 hbw3 hbd hsV1 hsV2 hsV3 hz3
  have y3 := Blk.cell HX3.out 3
  simp only [List.getElem?_toArray, List.getElem?_cons_zero, List.getElem?_cons_succ] at y3
  go_wp2_with fail
  clear y3
  go_loopg [6, 37] nl (fun gk vs vi wr => ∃ (i : Nat) (A' : Option Addr) (c' : Nat), vs = .slice A' i c' /\ vi = .int .i64 i /\ gk = nl - i /\ i <= nl /\ Hid (OwnE encA 58 3 wr (w.heap.size + 2) (.slice A' i c') i (L.take i)) /\ Hid (Blk wr w.heap.size 39 #[.slice A1 n c1, .slice A2 n c2, .slice A3 n c3, .slice A4 nl c4, .int .i64 z]) /\ Hid (Blk wr (w.heap.size + 1) 99 #[.slice none 0 0, .slice none 0 0, .slice none 0 0, .slice none 0 0, .int .i64 0, .slice none 0 0]) /\ Hid (Below w.heap.size w wr) /\ Hid (w.heap.size + 2 <= wr.heap.size))
  case atStart => exact ⟨0, none, 0, rfl, rfl, rfl, Nat.zero_le _, Lib.hid (OwnE.nil _ _), HX3, HN3, HB3, HZ3⟩
  case round =>
   clear HX3 HN3 HB3 HZ3
   obtain ⟨i, A', c', rfl, rfl, hgk, hin, HO, HX, HN, HB, HZ⟩ := hrel
   have HGK := Lib.hid hgk; clear hgk
   have i0 : (0 : Int) <= (i : Int) := Int.natCast_nonneg _
   by_cases hlt : i < nl
   ·have i1 : (i : Int) < (nl : Int) := by omega
    have hil : i < L.length := by rw [HNL.out]; exact hlt
    have hx := List.getElem?_eq_getElem hil
    obtain ⟨⟨p, q, m⟩, hpq⟩ : ∃ x, L[i] = x := ⟨_, rfl⟩
    rw [hpq] at hx
    obtain ⟨⟨pn, e1, p1⟩, ⟨qn, e2, q1⟩, -⟩ := HL.out _ (List.getElem_mem hil)
    rw [hpq] at e1 e2
    obtain ⟨b, off, rfl, hbl, hc⟩ := H4.out.at encA_len (by omega) i _ hx
    have z0 := bel_q HB.out (hc 0 _ rfl); have z1 := bel_q HB.out (hc 1 _ rfl); have z2 := bel_q HB.out (hc 2 _ rfl)
    rw [Nat.add_zero] at z0
    have hst : L.take (i + 1) = L.take i ++ [(p, q, m)] := by rw [take_snoc_ L i hil, hpq]
    have p0 : (0 : Int) <= p := by have : p = pn := e1; omega
    have p2 : p < (n : Int) := by have : p = pn := e1; omega
    have q0 : (0 : Int) <= q := by have : q = qn := e2; omega
    have q2 : q < (n : Int) := by have : q = qn := e2; omega
    have m0 : (0 : Int) <= min p q := by omega
    have m1 : max p q < (n : Int) := by omega
    have d0 : decide ((0 : Int) <= min p q) = true := by simpa using m0
    have d1 : decide (max p q < (n : Int)) = true := by simpa using m1
    have hbs : w.heap.size + 2 <= (wr.alloc (.cells #[.int .i64 p, .int .i64 q, .int .i64 m] 58)).heap.size := by have := HZ.out; simp; omega
    have hil2 : i <= 1000000000 := by have := HLL.out; omega
    have hbw : Below w.heap.size w (wr.alloc (.cells #[.int .i64 p, .int .i64 q, .int .i64 m] 58)) := HB.out.alloc HB.out.size _
    have HST := Lib.hid hst; have HO1 := Lib.hid (OwnE.alloc HO.out (.cells #[.int .i64 p, .int .i64 q, .int .i64 m] 58)); have HBW := Lib.hid hbw
    clear hx hpq e1 e2 hc hst hbw
    go_wp2_with (at_builtin; refine wpList_pushE rfl (.tmp 56) (.tmp 58) 37 rfl 24 _ Tryz.underlying37 info_arc rfl (by omega) (by omega) (w.heap.size + 2) (wr.alloc (.cells #[.int .i64 p, .int .i64 q, .int .i64 m] 58)) (.slice A' i c') i (L.take i) (p, q, m) _ rfl rfl (by simp [encA, Value.oneCell']) (by rfl) HO1.out (wr.heap.size + 1) (by rfl) (by simp) hil2 hbs ?_; intro g9 cap9 w9 hp9; have HP := Lib.hid hp9; clear hp9)
    have hgrow := HP.out.grow
    have hob : ∀ r, (Value.slice A' i c').ownBlock = some r -> w.heap.size + 2 <= r := fun r hr => (HP.out.old r hr).1
    go_roundg (nl - (i + 1))
    case measure => have := HGK.out; omega
    case rel =>
     refine ⟨i + 1, _, cap9, rfl, by go_num, rfl, hlt, Lib.hid (by rw [HST.out]; exact HP.out.own), Lib.hid (Blk.grown (Blk.alloc HX.out _) hgrow (fun e => by have := hob _ e.symm; omega)), Lib.hid (Blk.grown (Blk.alloc HN.out _) hgrow (fun e => by have := hob _ e.symm; omega)), Lib.hid (HBW.out.grown hgrow (Nat.le_trans (by omega) hbs) (fun r hr => by have := hob r hr; omega)), Lib.hid (Nat.le_trans hbs hgrow.size)⟩
   ·obtain rfl : i = nl := by omega
    have y0 := Blk.cell HX.out 0; have y1 := Blk.cell HX.out 1; have y2 := Blk.cell HX.out 2; have y3 := Blk.cell HX.out 3; have y4 := Blk.cell HX.out 4
    have f3 := Blk.frozen HX.out 3
    have r0 := Blk.cell HN.out 0; have r1 := Blk.cell HN.out 1; have r2 := Blk.cell HN.out 2; have r3 := Blk.cell HN.out 3; have r4 := Blk.cell HN.out 4; have r5 := Blk.cell HN.out 5
    have fr0 := Blk.frozen HN.out 0; have fr1 := Blk.frozen HN.out 1; have fr2 := Blk.frozen HN.out 2; have fr3 := Blk.frozen HN.out 3; have fr4 := Blk.frozen HN.out 4; have fr5 := Blk.frozen HN.out 5
    simp only [List.getElem?_toArray, List.getElem?_cons_zero, List.getElem?_cons_succ] at y0 y1 y2 y3 y4 r0 r1 r2 r3 r4 r5
    go_wp2_with fail
    have hbf := (((((((HB.out.setCell (p := ⟨w.heap.size, 3, none⟩) (Nat.le_refl _) (.slice A' i c')).setCell (p := ⟨w.heap.size + 1, 0, none⟩) (by simp) (.slice A1 n c1)).setCell (p := ⟨w.heap.size + 1, 1, none⟩) (by simp) (.slice A2 n c2)).setCell (p := ⟨w.heap.size + 1, 2, none⟩) (by simp) (.slice A3 n c3)).setCell (p := ⟨w.heap.size + 1, 3, none⟩) (by simp) (.slice A' i c')).setCell (p := ⟨w.heap.size + 1, 4, none⟩) (by simp) (.int .i64 z)).setCell (p := ⟨w.heap.size + 1, 5, none⟩) (by simp) (.slice A5 ni c5))
    have hof : OwnE encA 58 3 _ (w.heap.size + 2) (.slice A' i c') i (L.take i) := (ownsRow_setCell_below (ownsRow_setCell_below (ownsRow_setCell_below (ownsRow_setCell_below (ownsRow_setCell_below (ownsRow_setCell_below (ownsRow_setCell_below HO.out (a := ⟨w.heap.size, 3, none⟩) (by show w.heap.size < w.heap.size + 2; omega) (.slice A' i c')) (a := ⟨w.heap.size + 1, 0, none⟩) (by show w.heap.size + 1 < w.heap.size + 2; omega) (.slice A1 n c1)) (a := ⟨w.heap.size + 1, 1, none⟩) (by show w.heap.size + 1 < w.heap.size + 2; omega) (.slice A2 n c2)) (a := ⟨w.heap.size + 1, 2, none⟩) (by show w.heap.size + 1 < w.heap.size + 2; omega) (.slice A3 n c3)) (a := ⟨w.heap.size + 1, 3, none⟩) (by show w.heap.size + 1 < w.heap.size + 2; omega) (.slice A' i c')) (a := ⟨w.heap.size + 1, 4, none⟩) (by show w.heap.size + 1 < w.heap.size + 2; omega) (.int .i64 z)) (a := ⟨w.heap.size + 1, 5, none⟩) (by show w.heap.size + 1 < w.heap.size + 2; omega) (.slice A5 ni c5))
    refine bodyPost_ret (v := .agg #[.slice A1 n c1, .slice A2 n c2, .slice A3 n c3, .slice A' i c', .int .i64 z, .slice A5 ni c5]) (by simp [results, Tryz.results52, go_sem, r0, r1, r2, r3, r4, r5]) rfl ⟨_, rfl, fun W hW => ?_, hbf⟩
    have hgW := only_trans (only_of_below hbf row) hW
    have hsr := HSR.out W hgW
    rw [HNL.out] at hsr
    obtain ⟨-, s1, s2, s3, -⟩ := hsr.forms
    have hor := (OwnE.kept hof hW (by
     cases hv : (Value.slice A' i c').ownBlock with
     | none => exact .inl rfl
     | some g => exact .inr (fun q => by have := HROW.out g q.symm; have := (hof.lt g hv).1; omega))).reads encA_len (by omega)
    rw [List.take_of_length_le (by rw [HNL.out]; exact Nat.le_refl _)] at hor
    have hib := HI.out W hgW
    exact ⟨A1, c1, A2, c2, A3, c3, A', c', A5, c5, by rw [HNL.out, HNI.out], s1, s2, s3, by rw [HNL.out]; exact hor, by rw [HNI.out] at hib ⊢; exact hib⟩
end Go.Proofs.YtfccnadbiglagaaGreat
namespace Go.Proofs.YtfccnadbiglagaaGreat
open Go Go.RowKit Go.Proofs
def NetB (w : World) (b : Nat) (v : Value) (n : Nat) (S F E : List Int) (L : List ArcP) (z : Int) (I : List (List Bool)) : Prop := ∀ W, w.grownBy W (some b) -> NetV W v n S F E L z I
theorem NetB.on {w W : World} {b : Nat} {v : Value} {n : Nat} {S F E : List Int} {L : List ArcP} {z : Int} {I : List (List Bool)} (h : NetB w b v n S F E L z I) (hg : w.grownBy W (some b)) : NetB W b v n S F E L z I := fun V hV => h V (only_trans hg hV)
def nextL (n : Nat) (P : List Int) (L : List ArcP) : List Int := L.foldl (fun c a => c.set a.2.1.toNat (mnC (c.getD a.2.1.toNat 0) (plC (P.getD a.1.toNat 0) a.2.2))) (List.replicate n infC)
def endL (P E : List Int) : Int := (List.range P.length).foldl (fun m i => mnC m (plC (P.getD i 0) (E.getD i 0))) infC
theorem NetV.lens {w : World} {v : Value} {n : Nat} {S F E : List Int} {L : List ArcP} {z : Int} {I : List (List Bool)} (h : NetV w v n S F E L z I) : S.length = n /\ F.length = n /\ E.length = n := by
 obtain ⟨A1, c1, A2, c2, A3, c3, A4, c4, A5, c5, e, h1, h2, h3, h4, h5⟩ := h.ex
 exact ⟨h1.1, h2.1, h3.1⟩
theorem NetV.forms {w : World} {n nl ni : Nat} {A1 A2 A3 A4 A5 : Option Addr} {c1 c2 c3 c4 c5 : Nat} {S F E : List Int} {L : List ArcP} {z : Int} {I : List (List Bool)} (h : NetV w (.agg #[.slice A1 n c1, .slice A2 n c2, .slice A3 n c3, .slice A4 nl c4, .int .i64 z, .slice A5 ni c5]) n S F E L z I) :
  nl = L.length /\ ni = I.length /\ ReadsI w (.slice A1 n c1) n S /\ ReadsI w (.slice A2 n c2) n F /\ ReadsI w (.slice A3 n c3) n E /\ ReadsE encA 3 w (.slice A4 nl c4) nl L := by
  obtain ⟨B1, d1, B2, d2, B3, d3, B4, d4, B5, d5, e, h1, h2, h3, h4, h5⟩ := h.ex
  simp only [Value.agg.injEq, Array.mk.injEq, List.cons.injEq, Value.slice.injEq, true_and, and_true] at e
  obtain ⟨⟨rfl, rfl⟩, ⟨rfl, rfl⟩, ⟨rfl, rfl⟩, ⟨rfl, rfl, rfl⟩, rfl, rfl, rfl⟩ := e
  exact ⟨rfl, rfl, h1, h2, h3, h4⟩
theorem begin_any {w : World} {b n nl ni k : Nat} {A1 A2 A3 A4 A5 : Option Addr} {c1 c2 c3 c4 c5 : Nat} {S F E : List Int} {L : List ArcP} {z : Int} {I : List (List Bool)} {vp : Value} (h : NetB w b (.agg #[.slice A1 n c1, .slice A2 n c2, .slice A3 n c3, .slice A4 nl c4, .int .i64 z, .slice A5 ni c5]) n S F E L z I) (hn : n <= 1000) (hb : Blk w b 110 #[.slice A1 n c1, .slice A2 n c2, .slice A3 n c3, .slice A4 nl c4, .int .i64 z, .slice A5 ni c5, vp]) :
  Calls Tryz.prog 60 #[.pointer (some ⟨b, 0, none⟩), .int .i64 k] w fun e w' => ∃ g, e = .returned (.tuple #[]) /\ w.heap.size <= g /\ Blk w' b 110 #[.slice A1 n c1, .slice A2 n c2, .slice A3 n c3, .slice A4 nl c4, .int .i64 z, .slice A5 ni c5, .slice (some ⟨g, 0, none⟩) n n] /\ Blk w' g 3 ((onlyL S I F k).map (Value.int .i64)).toArray /\ w.grownBy w' (some b) := by
  obtain ⟨-, -, -, hF, -, -⟩ := (h w (only_refl _ _)).forms
  have H := Lib.hid h; have HN := Lib.hid hn; have HF := Lib.hid hF; have HX := Lib.hid hb
  clear h hn hF hb
  go_enter Tryz.func60, Tryz.ntmps60
  go_wp2_with fail
  refine region_x 15 (fun w' : World => w'.cell? ⟨b, 0, none⟩ = some (.slice A1 n c1) /\ w'.cell? ⟨b, 1, none⟩ = some (.slice A2 n c2) /\ w'.cell? ⟨b, 2, none⟩ = some (.slice A3 n c3) /\ w'.cell? ⟨b, 3, none⟩ = some (.slice A4 nl c4) /\ w'.cell? ⟨b, 4, none⟩ = some (.int .i64 z) /\ w'.cell? ⟨b, 5, none⟩ = some (.slice A5 ni c5)) (by kernel_rfl) ?_
  have hxd := HX.out.drew
  have hbd : Below w.heap.size w w.drew := (Below.refl _ _).drew
  obtain ⟨V0, eV⟩ : ∃ W', w.drew = W' := ⟨_, rfl⟩
  rw [eV] at hxd hbd ⊢
  clear eV
  have hS : (fun w' : World => w'.cell? ⟨b, 0, none⟩ = some (.slice A1 n c1) /\ w'.cell? ⟨b, 1, none⟩ = some (.slice A2 n c2) /\ w'.cell? ⟨b, 2, none⟩ = some (.slice A3 n c3) /\ w'.cell? ⟨b, 3, none⟩ = some (.slice A4 nl c4) /\ w'.cell? ⟨b, 4, none⟩ = some (.int .i64 z) /\ w'.cell? ⟨b, 5, none⟩ = some (.slice A5 ni c5)) V0 := ⟨Blk.cell hxd 0, Blk.cell hxd 1, Blk.cell hxd 2, Blk.cell hxd 3, Blk.cell hxd 4, Blk.cell hxd 5⟩
  refine tkx (i := 0) (v := ?_) hS ?_ ?_
  rotate_left
  ·rintro w' ⟨b0, b1, b2, b3, b4, b5⟩
   go_simp
   try with_reducible rfl
  try simp only [Act.put, zq1, zq2, zq3, zq4, zq5, zq6]
  refine tkx (i := 1) (v := ?_) hS ?_ ?_
  rotate_left
  ·rintro w' ⟨b0, b1, b2, b3, b4, b5⟩
   go_simp
   try with_reducible rfl
  try simp only [Act.put, zq1, zq2, zq3, zq4, zq5, zq6]
  refine tkx (i := 2) (v := ?_) hS ?_ ?_
  rotate_left
  ·rintro w' ⟨b0, b1, b2, b3, b4, b5⟩
   go_simp
   try with_reducible rfl
  try simp only [Act.put, zq1, zq2, zq3, zq4, zq5, zq6]
  refine tkx (i := 3) (v := ?_) hS ?_ ?_
  rotate_left
  ·rintro w' ⟨b0, b1, b2, b3, b4, b5⟩
   go_simp
   try with_reducible rfl
  try simp only [Act.put, zq1, zq2, zq3, zq4, zq5, zq6]
  refine tkx (i := 4) (v := ?_) hS ?_ ?_
  rotate_left
  ·rintro w' ⟨b0, b1, b2, b3, b4, b5⟩
   go_simp
   try with_reducible rfl
  try simp only [Act.put, zq1, zq2, zq3, zq4, zq5, zq6]
  refine tkx (i := 5) (v := ?_) hS ?_ ?_
  rotate_left
  ·rintro w' ⟨b0, b1, b2, b3, b4, b5⟩
   go_simp
   try with_reducible rfl
  try simp only [Act.put, zq1, zq2, zq3, zq4, zq5, zq6]
  refine tkx (i := 6) (v := ?_) hS ?_ ?_
  rotate_left
  ·rintro w' ⟨b0, b1, b2, b3, b4, b5⟩
   go_simp
   try with_reducible rfl
  try simp only [Act.put, zq1, zq2, zq3, zq4, zq5, zq6]
  refine tkx (i := 7) (v := ?_) hS ?_ ?_
  rotate_left
  ·rintro w' ⟨b0, b1, b2, b3, b4, b5⟩
   go_simp
   try with_reducible rfl
  try simp only [Act.put, zq1, zq2, zq3, zq4, zq5, zq6]
  refine tkx (i := 8) (v := ?_) hS ?_ ?_
  rotate_left
  ·rintro w' ⟨b0, b1, b2, b3, b4, b5⟩
   go_simp
   try with_reducible rfl
  try simp only [Act.put, zq1, zq2, zq3, zq4, zq5, zq6]
  refine tkx (i := 9) (v := ?_) hS ?_ ?_
  rotate_left
  ·rintro w' ⟨b0, b1, b2, b3, b4, b5⟩
   go_simp
   try with_reducible rfl
  try simp only [Act.put, zq1, zq2, zq3, zq4, zq5, zq6]
  refine tkx (i := 10) (v := ?_) hS ?_ ?_
  rotate_left
  ·rintro w' ⟨b0, b1, b2, b3, b4, b5⟩
   go_simp
   try with_reducible rfl
  try simp only [Act.put, zq1, zq2, zq3, zq4, zq5, zq6]
  refine tkx (i := 11) (v := ?_) hS ?_ ?_
  rotate_left
  ·rintro w' ⟨b0, b1, b2, b3, b4, b5⟩
   go_simp
   try with_reducible rfl
  try simp only [Act.put, zq1, zq2, zq3, zq4, zq5, zq6]
  refine anyX_g (i := 12) (by kernel_rfl) (by decide) rfl (by rfl) ?_
  intro K hK
  try simp only [zq1, zq2, zq3]
  refine wp_enterE #[.agg #[.slice A1 n c1, .slice A2 n c2, .slice A3 n c3, .slice A4 nl c4, .int .i64 z, .slice A5 ni c5], .slice A2 n c2, .int .i64 k] Tryz.func97 (by kernel_rfl) (by kernel_rfl) ?_ (only_any (H.out V0 (only_of_below hbd _)) HN.out (HF.out.below hbd) k) ?_
  ·go_simp
  rintro e w1 ⟨g, rfl, hg, hxg, hb1⟩
  refine ⟨_, rfl, ?_⟩
  have hx1 := Blk.below hxd hb1 hxd.lt
  have hS1 : (fun w' : World => w'.cell? ⟨b, 0, none⟩ = some (.slice A1 n c1) /\ w'.cell? ⟨b, 1, none⟩ = some (.slice A2 n c2) /\ w'.cell? ⟨b, 2, none⟩ = some (.slice A3 n c3) /\ w'.cell? ⟨b, 3, none⟩ = some (.slice A4 nl c4) /\ w'.cell? ⟨b, 4, none⟩ = some (.int .i64 z) /\ w'.cell? ⟨b, 5, none⟩ = some (.slice A5 ni c5)) w1 := ⟨Blk.cell hx1 0, Blk.cell hx1 1, Blk.cell hx1 2, Blk.cell hx1 3, Blk.cell hx1 4, Blk.cell hx1 5⟩
  have hbw1 : Below w.heap.size w w1 := hbd.trans (hb1.mono hbd.size)
  have hgb : w.heap.size <= g := Nat.le_trans hbd.size hg
  clear hg hb1
  refine hK _ _ hS1 ?_
  clear hK
  try simp only [Act.put, zq1, zq2, zq3, zq4, zq5, zq6]
  refine tkg [14] (i := 13) (v := ?_) hS1 ?_ ?_
  rotate_left
  ·rintro w' ⟨b0, b1, b2, b3, b4, b5⟩
   go_simp
   try with_reducible rfl
  try simp only [Act.put, zq1, zq2, zq3, zq4, zq5, zq6]
  refine tkx (i := 14) (v := ?_) hS1 ?_ ?_
  rotate_left
  ·rintro w' ⟨b0, b1, b2, b3, b4, b5⟩
   go_simp
   try with_reducible rfl
  try simp only [Act.put, zq1, zq2, zq3, zq4, zq5, zq6]
  have r6 := Blk.cell hx1 6
  have f6 := Blk.frozen hx1 6
  simp only [List.getElem?_toArray, List.getElem?_cons_zero, List.getElem?_cons_succ] at r6
  have HX1 := Lib.hid hx1; have HG := Lib.hid hxg; have HBW := Lib.hid hbw1; have HGB := Lib.hid hgb
  clear hS hS1 hxd hbd hx1 hxg hbw1 hgb
  refine anyX_last (by kernel_rfl) (by kernel_rfl) rfl rfl ?_
  try simp only [zq1, zq2, zq3]
  go_simp
  try apply_assumption
  go_wp2_with fail
  go_end0
  refine ⟨g, rfl, HGB.out, by simpa using HX1.out.set_ 6 (.slice (some ⟨g, 0, none⟩) n n), HG.out.far (p := ⟨b, 6, none⟩) (by show g ≠ b; have := HGB.out; have := HX.out.lt; omega) _, only_setCell (only_of_below HBW.out _) (p := ⟨b, 6, none⟩) (.inl rfl) _⟩
theorem end_any {w : World} {b n nl ni k : Nat} {A1 A2 A3 A4 A5 : Option Addr} {c1 c2 c3 c4 c5 : Nat} {S F E : List Int} {L : List ArcP} {z : Int} {I : List (List Bool)} {gp : Nat} {P : List Int} (h : NetB w b (.agg #[.slice A1 n c1, .slice A2 n c2, .slice A3 n c3, .slice A4 nl c4, .int .i64 z, .slice A5 ni c5]) n S F E L z I) (hn : n <= 1000) (hb : Blk w b 110 #[.slice A1 n c1, .slice A2 n c2, .slice A3 n c3, .slice A4 nl c4, .int .i64 z, .slice A5 ni c5, .slice (some ⟨gp, 0, none⟩) n n]) (hP : Blk w gp 3 (P.map (Value.int .i64)).toArray) (hPl : P.length = n) (hPc : ∀ x ∈ P, CostC x) (hEc : ∀ x ∈ E, CostC x) :
  Calls Tryz.prog 63 #[.pointer (some ⟨b, 0, none⟩)] w fun e w' => e = .returned (.int .i64 (endL P E)) /\ Below w.heap.size w w' := by
  obtain ⟨-, -, -, -, hE, -⟩ := (h w (only_refl _ _)).forms
  have n0 : (0 : Int) <= (n : Int) := Int.natCast_nonneg _
  have hEl := hE.1
  have hst : ∀ i, (List.range (i + 1)).foldl (fun m i => mnC m (plC (P.getD i 0) (E.getD i 0))) infC = mnC ((List.range i).foldl (fun m i => mnC m (plC (P.getD i 0) (E.getD i 0))) infC) (plC (P.getD i 0) (E.getD i 0)) := fun i => by rw [List.range_succ, List.foldl_append]; rfl
  obtain ⟨acc, hacc⟩ : ∃ acc : Nat -> Int, acc = fun i => (List.range i).foldl (fun m i => mnC m (plC (P.getD i 0) (E.getD i 0))) infC := ⟨_, rfl⟩
  have hs0 : acc 0 = 1152921504606846976 := by rw [hacc]; rfl
  have hs1 : ∀ i, acc (i + 1) = mnC (acc i) (plC (P.getD i 0) (E.getD i 0)) := fun i => by rw [hacc]; exact hst i
  have hsn : endL P E = acc n := by rw [hacc]; unfold endL; rw [hPl]
  rw [hsn]
  have HE := Lib.hid hE; have HX := Lib.hid hb; have HP := Lib.hid hP; have HPL := Lib.hid hPl; have HPC := Lib.hid hPc; have HEC := Lib.hid hEc; have HS0 := Lib.hid hs0; have HS1 := Lib.hid hs1; have HEL := Lib.hid hEl
  have y6 := Blk.cell hb 6
  simp only [List.getElem?_toArray, List.getElem?_cons_zero, List.getElem?_cons_succ] at y6
  clear h hE hb hP hPl hPc hEc hst hacc hs0 hs1 hsn hEl
  go_enter Tryz.func63, Tryz.ntmps63
  go_wp2_with fail
  clear y6
  go_loopg [3, 11] n (fun gk vm vi wr => ∃ (i : Nat) (m : Int), vm = .int .i64 m /\ vi = .int .i64 i /\ gk = n - i /\ i <= n /\ Hid (m = acc i /\ CostC m) /\ Hid (Below w.heap.size w wr))
  case atStart => exact ⟨0, _, rfl, rfl, rfl, Nat.zero_le _, Lib.hid ⟨HS0.out.symm, infC_is⟩, Lib.hid (Below.refl _ _)⟩
  case round =>
   obtain ⟨i, m, rfl, rfl, hgk, hin, HM, HB⟩ := hrel
   have HGK := Lib.hid hgk; clear hgk
   have i0 : (0 : Int) <= (i : Int) := Int.natCast_nonneg _
   by_cases hlt : i < n
   ·have i1 : (i : Int) < (n : Int) := by omega
    have hxr := Blk.below HX.out HB.out HX.out.lt
    have hpr := Blk.below HP.out HB.out HP.out.lt
    have y2 := Blk.cell hxr 2; have y6 := Blk.cell hxr 6
    simp only [List.getElem?_toArray, List.getElem?_cons_zero, List.getElem?_cons_succ] at y2 y6
    have hpl : i < P.length := by rw [HPL.out]; exact hlt
    have hel : i < E.length := by rw [HEL.out]; exact hlt
    have q0 := Blk.cell hpr i
    rw [List.getElem?_toArray, List.getElem?_map, List.getElem?_eq_getElem hpl] at q0
    simp only [Option.map_some] at q0
    have hpc : CostC (P[i]) := HPC.out _ (List.getElem_mem hpl)
    have hec : CostC (E[i]) := HEC.out _ (List.getElem_mem hel)
    have hP0 : P.getD i 0 = P[i] := by simp [List.getD, List.getElem?_eq_getElem hpl]
    have hE0 : E.getD i 0 = E[i] := by simp [List.getD, List.getElem?_eq_getElem hel]
    obtain ⟨b2, off, rfl, hbl, hc⟩ := HE.out.at i hlt
    have q1 := bel_q HB.out hc
    have hstep := HS1.out i
    rw [hE0] at q1
    rw [hP0, hE0] at hstep
    obtain ⟨p, hp⟩ : ∃ p, P[i] = p := ⟨_, rfl⟩
    obtain ⟨d, hd⟩ : ∃ d, E[i] = d := ⟨_, rfl⟩
    rw [hp] at q0 hpc hstep
    rw [hd] at q1 hec hstep
    have HPC1 := Lib.hid hpc; have HEC1 := Lib.hid hec; have HST := Lib.hid hstep
    clear hxr hpr hpc hec hP0 hE0 hstep hp hd hc hpl hel
    go_wp2_with fail
    refine (sadd_any p d _ HPC1.out HEC1.out).mono ?_
    rintro e w2 ⟨rfl, rfl⟩
    clear q0 q1 y2 y6
    obtain ⟨W1, hW1⟩ : ∃ W1, wr.alloc (.cells #[.int .i64 m, .int .i64 (plC p d)] 3) = W1 := ⟨_, rfl⟩
    have hb1 : Below wr.heap.size wr W1 := by rw [<- hW1]; exact (Below.refl _ _).alloc (Nat.le_refl _) _
    have hx1 : Blk W1 wr.heap.size 3 #[.int .i64 m, .int .i64 (plC p d)] := by rw [<- hW1]; exact Blk.new _ _ _
    have hmn := smin_any m (plC p d) wr.heap.size W1 HM.out.2 (Blk.cell hx1 0) (Blk.cell hx1 1)
    have HMN := Lib.hid hmn; have HB1 := Lib.hid (HB.out.trans (hb1.mono HB.out.size)); have HW1 := Lib.hid hW1
    clear hW1 hb1 hx1 hmn
    go_wp2_with fail
    rw [HW1.out]
    refine HMN.out.mono ?_
    rintro e w3 ⟨rfl, rfl⟩
    go_wp2_with fail
    go_roundg (n - (i + 1))
    case measure => have := HGK.out; omega
    case rel => exact ⟨i + 1, _, rfl, by go_num, rfl, hlt, Lib.hid ⟨by rw [HST.out, <- HM.out.1], mnC_is HM.out.2 (plC_is HPC1.out HEC1.out)⟩, HB1⟩
   ·obtain rfl : i = n := by omega
    go_wp2_with fail
    go_ret
    exact ⟨congrArg (fun x : Int => Ending.returned (.int .i64 x)) HM.out.1, HB.out⟩
theorem nextL_snoc (n : Nat) (P : List Int) (L : List ArcP) (a : ArcP) : nextL n P (L ++ [a]) = (nextL n P L).set a.2.1.toNat (mnC ((nextL n P L).getD a.2.1.toNat 0) (plC (P.getD a.1.toNat 0) a.2.2)) := by simp [nextL]
theorem nextL_is {n : Nat} {P : List Int} (hP : ∀ x ∈ P, CostC x) (hPl : P.length = n) : ∀ (L : List ArcP), ArcsIn n L -> (nextL n P L).length = n /\ ∀ x ∈ nextL n P L, CostC x := by
 intro L
 have key : ∀ (L : List ArcP) (c : List Int), ArcsIn n L -> c.length = n -> (∀ x ∈ c, CostC x) ->
   (L.foldl (fun c a => c.set a.2.1.toNat (mnC (c.getD a.2.1.toNat 0) (plC (P.getD a.1.toNat 0) a.2.2))) c).length = n /\ ∀ x ∈ L.foldl (fun c a => c.set a.2.1.toNat (mnC (c.getD a.2.1.toNat 0) (plC (P.getD a.1.toNat 0) a.2.2))) c, CostC x := by
   intro L
   induction L with
   | nil => intro c _ hc hx; exact ⟨hc, hx⟩
   | cons a L ih =>
     intro c hL hc hx
     obtain ⟨⟨i, e1, hi⟩, ⟨j, e2, hj⟩, hw⟩ := hL a (by simp)
     rw [List.foldl_cons]
     refine ih _ (fun y hy => hL y (by simp [hy])) (by rw [List.length_set]; exact hc) (fun x hmem => ?_)
     rcases List.mem_or_eq_of_mem_set hmem with q | q
     ·exact hx x q
     ·rw [q]
      have g : ∀ (l : List Int) (k : Nat), k < l.length -> (∀ x ∈ l, CostC x) -> CostC (l.getD k 0) := fun l k hk hl => by
       rw [List.getD_eq_getElem?_getD, List.getElem?_eq_getElem hk]; exact hl _ (List.getElem_mem hk)
      exact mnC_is (g c _ (by rw [e2, hc]; simpa using hj) hx) (plC_is (g P _ (by rw [e1, hPl]; simpa using hi) hP) hw)
 exact fun hL => key L _ hL (by simp) (fun x hx => by rw [List.eq_of_mem_replicate hx]; exact infC_is)
theorem onlyL_len (S : List Int) (I : List (List Bool)) (C : List Int) (k : Nat) : (onlyL S I C k).length = C.length := by simp [onlyL]
theorem onlyL_cost {S : List Int} {I : List (List Bool)} {C : List Int} {k : Nat} (h : ∀ x ∈ C, CostC x) : ∀ x ∈ onlyL S I C k, CostC x := fun x hx => by
 unfold onlyL at hx
 obtain ⟨i, hi, rfl⟩ := List.mem_map.1 hx
 split
 ·rw [List.getD_eq_getElem?_getD, List.getElem?_eq_getElem (List.mem_range.1 hi)]; exact h _ (List.getElem_mem _)
 ·exact infC_is
theorem snext_any {w : World} {b n nl ni k : Nat} {A1 A2 A3 A4 A5 : Option Addr} {c1 c2 c3 c4 c5 : Nat} {S F E : List Int} {L : List ArcP} {z : Int} {I : List (List Bool)} {gp : Nat} {P : List Int} (h : NetB w b (.agg #[.slice A1 n c1, .slice A2 n c2, .slice A3 n c3, .slice A4 nl c4, .int .i64 z, .slice A5 ni c5]) n S F E L z I) (hn : n <= 1000) (hb : Blk w b 110 #[.slice A1 n c1, .slice A2 n c2, .slice A3 n c3, .slice A4 nl c4, .int .i64 z, .slice A5 ni c5, .slice (some ⟨gp, 0, none⟩) n n]) (hP : Blk w gp 3 (P.map (Value.int .i64)).toArray) (hPl : P.length = n) (hPc : ∀ x ∈ P, CostC x) (hL : ArcsIn n L) (hLl : L.length <= 100000000) :
  Calls Tryz.prog 62 #[.pointer (some ⟨b, 0, none⟩), .int .i64 k] w fun e w' => ∃ g, e = .returned (.tuple #[]) /\ w.heap.size <= g /\ Blk w' b 110 #[.slice A1 n c1, .slice A2 n c2, .slice A3 n c3, .slice A4 nl c4, .int .i64 z, .slice A5 ni c5, .slice (some ⟨g, 0, none⟩) n n] /\ Blk w' g 3 ((onlyL S I (nextL n P L) k).map (Value.int .i64)).toArray /\ w.grownBy w' (some b) := by
  obtain ⟨hnl, -, -, -, -, hLr⟩ := (h w (only_refl _ _)).forms
  have n0 : (0 : Int) <= (n : Int) := Int.natCast_nonneg _
  have hnlb : nl <= 100000000 := by omega
  have hfb := forb_any n hn w
  have y6 := Blk.cell hb 6; have y3 := Blk.cell hb 3
  simp only [List.getElem?_toArray, List.getElem?_cons_zero, List.getElem?_cons_succ] at y6 y3
  have H := Lib.hid h; have HN := Lib.hid hn; have HX := Lib.hid hb; have HP := Lib.hid hP; have HPL := Lib.hid hPl; have HPC := Lib.hid hPc; have HL := Lib.hid hL; have HLR := Lib.hid hLr; have HNL := Lib.hid hnl; have HFB := Lib.hid hfb
  clear h hb hP hPl hPc hL hLl hLr hnl hfb
  go_enter Tryz.func62, Tryz.ntmps62
  go_wp2_with fail
  refine HFB.out.mono ?_
  rintro e w1 ⟨rfl, hg, hb1⟩
  obtain ⟨g, hgE⟩ : ∃ g, w.heap.size + 1 = g := ⟨_, rfl⟩
  rw [hgE] at hg ⊢
  have hg' : Blk w1 g 3 ((nextL n P (L.take 0)).map (Value.int .i64)).toArray := by rw [List.take_zero]; unfold nextL; rw [List.foldl_nil, List.map_replicate]; exact hg
  have y6' := bel_q hb1 y6; have y3' := bel_q hb1 y3
  have HG := Lib.hid hg'; have HB1 := Lib.hid hb1; have HGE := Lib.hid hgE; have HZ1 := Lib.hid hg.lt
  clear hg hg' hb1 hgE HFB y6 y3
  go_wp2_with fail
  clear y6' y3'
  go_loopg [20] nl (fun gk vi wr => ∃ i : Nat, vi = .int .i64 i /\ gk = nl - i /\ i <= nl /\ Hid (Blk wr g 3 ((nextL n P (L.take i)).map (Value.int .i64)).toArray) /\ Hid (Below w.heap.size w wr))
  case atStart => exact ⟨0, rfl, rfl, Nat.zero_le _, HG, HB1⟩
  case round =>
   clear HG HB1
   obtain ⟨i, rfl, hgk, hin, HG, HBR⟩ := hrel
   have HGK := Lib.hid hgk; clear hgk
   have i0 : (0 : Int) <= (i : Int) := Int.natCast_nonneg _
   by_cases hlt : i < nl
   ·have i1 : (i : Int) < (nl : Int) := by omega
    have hil : i < L.length := by rw [<- HNL.out]; exact hlt
    have hx := List.getElem?_eq_getElem hil
    obtain ⟨⟨⟨p, hp, hpn⟩, ⟨q, hq, hqn⟩, hdc⟩, hmem⟩ : ((∃ p : Nat, (L[i]).1 = p /\ p < n) /\ (∃ q : Nat, (L[i]).2.1 = q /\ q < n) /\ CostC (L[i]).2.2) /\ True := ⟨HL.out _ (List.getElem_mem hil), trivial⟩
    obtain ⟨d, hd⟩ : ∃ d, (L[i]).2.2 = d := ⟨_, rfl⟩
    rw [hd] at hdc
    have hLi : L[i] = ((p : Int), (q : Int), d) := Prod.ext hp (Prod.ext hq hd)
    rw [hLi] at hx
    obtain ⟨b2, off, rfl, hbl, hc⟩ := HLR.out.at encA_len (by omega) i _ hx
    have z0 := bel_q HBR.out (hc 0 _ rfl); have z1 := bel_q HBR.out (hc 1 _ rfl); have z2 := bel_q HBR.out (hc 2 _ rfl)
    rw [Nat.add_zero] at z0
    obtain ⟨M, hM⟩ : ∃ M, nextL n P (L.take i) = M := ⟨_, rfl⟩
    have hMi := nextL_is HPC.out HPL.out (L.take i) (fun x hx => HL.out x (List.mem_of_mem_take hx))
    have hsn : nextL n P (L.take (i + 1)) = M.set q (mnC (M.getD q 0) (plC (P.getD p 0) d)) := by rw [take_snoc_ L i hil, hLi, nextL_snoc, hM]; rfl
    rw [hM] at hMi
    have hql : q < M.length := by rw [hMi.1]; exact hqn
    have hpl : p < P.length := by rw [HPL.out]; exact hpn
    obtain ⟨m, hm⟩ : ∃ m, M[q] = m := ⟨_, rfl⟩
    obtain ⟨c, hcE⟩ : ∃ c, P[p] = c := ⟨_, rfl⟩
    have hmc : CostC m := by rw [<- hm]; exact hMi.2 _ (List.getElem_mem hql)
    have hcc : CostC c := by rw [<- hcE]; exact HPC.out _ (List.getElem_mem hpl)
    rw [show M.getD q 0 = m by rw [<- hm]; simp [List.getD, List.getElem?_eq_getElem hql], show P.getD p 0 = c by rw [<- hcE]; simp [List.getD, List.getElem?_eq_getElem hpl]] at hsn
    have hg1 := HG.out
    rw [hM] at hg1
    obtain ⟨W2, hW2⟩ : ∃ W2, wr.alloc (.cells #[.int .i64 p, .int .i64 q, .int .i64 d] 58) = W2 := ⟨_, rfl⟩
    have hb2 : Below wr.heap.size wr W2 := by rw [<- hW2]; exact (Below.refl _ _).alloc (Nat.le_refl _) _
    have hx2 : Blk W2 wr.heap.size 58 #[.int .i64 p, .int .i64 q, .int .i64 d] := by rw [<- hW2]; exact Blk.new _ _ _
    obtain ⟨Bx, hBx⟩ : ∃ H, wr.heap.size = H := ⟨_, rfl⟩
    rw [hBx] at hx2
    have hg2 := Blk.below hg1 hb2 hg1.lt
    have hbw2 := HBR.out.trans (hb2.mono HBR.out.size)
    have k3 : W2.cell? ⟨g, q, none⟩ = some (.int .i64 m) := by rw [Blk.cell hg2 q, List.getElem?_toArray, List.getElem?_map, List.getElem?_eq_getElem hql, hm]; rfl
    have k4 : W2.cell? ⟨gp, p, none⟩ = some (.int .i64 c) := by rw [Blk.cell (Blk.below HP.out hbw2 HP.out.lt) p, List.getElem?_toArray, List.getElem?_map, List.getElem?_eq_getElem hpl, hcE]; rfl
    have k5 : W2.cell? ⟨b, 6, none⟩ = some (.slice (some ⟨gp, 0, none⟩) n n) := Blk.cell (Blk.below HX.out hbw2 HX.out.lt) 6
    have hks : ∀ W : World, Below W2.heap.size W2 W -> (fun w' : World => w'.cell? ⟨Bx, 0, none⟩ = some (.int .i64 (p : Int)) /\ w'.cell? ⟨Bx, 1, none⟩ = some (.int .i64 (q : Int)) /\ w'.cell? ⟨Bx, 2, none⟩ = some (.int .i64 d) /\ w'.cell? ⟨g, q, none⟩ = some (.int .i64 m) /\ w'.cell? ⟨gp, p, none⟩ = some (.int .i64 c) /\ w'.cell? ⟨b, 6, none⟩ = some (.slice (some ⟨gp, 0, none⟩) n n)) W := fun W hW => ⟨bel_q hW (Blk.cell hx2 0), bel_q hW (Blk.cell hx2 1), bel_q hW (Blk.cell hx2 2), bel_q hW k3, bel_q hW k4, bel_q hW k5⟩
    have HKS := Lib.hid hks; have HROW := Lib.hid hg2; have HCM := Lib.hid hmc; have HCP := Lib.hid hcc; have HCW := Lib.hid hdc; have HSN := Lib.hid hsn; have HBW2 := Lib.hid hbw2; have HW2 := Lib.hid hW2; have HBX := Lib.hid hBx
    have p0 : (0 : Int) <= (p : Int) := Int.natCast_nonneg _
    have p1 : (p : Int) < (n : Int) := by omega
    have q0 : (0 : Int) <= (q : Int) := Int.natCast_nonneg _
    have q1 : (q : Int) < (n : Int) := by omega
    clear hx hp hq hdc hmem hd hLi hc hM hMi hsn hql hpl hm hcE hmc hcc hg1 hb2 hx2 hg2 hbw2 k3 k4 k5 hks hW2 hBx
    go_wp2_with fail
    rw [HW2.out]
    try rw [HBX.out]
    clear z0 z1 z2
    refine region_x 22 (fun w' : World => w'.cell? ⟨Bx, 0, none⟩ = some (.int .i64 (p : Int)) /\ w'.cell? ⟨Bx, 1, none⟩ = some (.int .i64 (q : Int)) /\ w'.cell? ⟨Bx, 2, none⟩ = some (.int .i64 d) /\ w'.cell? ⟨g, q, none⟩ = some (.int .i64 m) /\ w'.cell? ⟨gp, p, none⟩ = some (.int .i64 c) /\ w'.cell? ⟨b, 6, none⟩ = some (.slice (some ⟨gp, 0, none⟩) n n)) (by kernel_rfl) ?_
    have hS := HKS.out _ (Below.refl _ _).drew
    refine tkx (i := 0) (v := ?_) hS ?_ ?_
    rotate_left
    ·rintro w' ⟨b0, b1, b2, b3, b4, b5⟩
     go_simp
     try with_reducible rfl
    try simp only [Act.put, zq1, zq2, zq3, zq4, zq5, zq6]
    refine tkx (i := 1) (v := ?_) hS ?_ ?_
    rotate_left
    ·rintro w' ⟨b0, b1, b2, b3, b4, b5⟩
     go_simp
     try with_reducible rfl
    try simp only [Act.put, zq1, zq2, zq3, zq4, zq5, zq6]
    refine tkx (i := 2) (v := ?_) hS ?_ ?_
    rotate_left
    ·rintro w' ⟨b0, b1, b2, b3, b4, b5⟩
     go_simp
     try with_reducible rfl
    try simp only [Act.put, zq1, zq2, zq3, zq4, zq5, zq6]
    refine tkx (i := 3) (v := ?_) hS ?_ ?_
    rotate_left
    ·rintro w' ⟨b0, b1, b2, b3, b4, b5⟩
     go_simp
     try with_reducible rfl
    try simp only [Act.put, zq1, zq2, zq3, zq4, zq5, zq6]
    refine tkx (i := 4) (v := ?_) hS ?_ ?_
    rotate_left
    ·rintro w' ⟨b0, b1, b2, b3, b4, b5⟩
     go_simp
     try with_reducible rfl
    try simp only [Act.put, zq1, zq2, zq3, zq4, zq5, zq6]
    refine tkx (i := 5) (v := ?_) hS ?_ ?_
    rotate_left
    ·rintro w' ⟨b0, b1, b2, b3, b4, b5⟩
     go_simp
     try with_reducible rfl
    try simp only [Act.put, zq1, zq2, zq3, zq4, zq5, zq6]
    refine tkx (i := 6) (v := ?_) hS ?_ ?_
    rotate_left
    ·rintro w' ⟨b0, b1, b2, b3, b4, b5⟩
     go_simp
     try with_reducible rfl
    try simp only [Act.put, zq1, zq2, zq3, zq4, zq5, zq6]
    refine tkx (i := 7) (v := ?_) hS ?_ ?_
    rotate_left
    ·rintro w' ⟨b0, b1, b2, b3, b4, b5⟩
     go_simp
     try with_reducible rfl
    try simp only [Act.put, zq1, zq2, zq3, zq4, zq5, zq6]
    refine tkx (i := 8) (v := ?_) hS ?_ ?_
    rotate_left
    ·rintro w' ⟨b0, b1, b2, b3, b4, b5⟩
     go_simp
     try with_reducible rfl
    try simp only [Act.put, zq1, zq2, zq3, zq4, zq5, zq6]
    refine tkx (i := 9) (v := ?_) hS ?_ ?_
    rotate_left
    ·rintro w' ⟨b0, b1, b2, b3, b4, b5⟩
     go_simp
     try with_reducible rfl
    try simp only [Act.put, zq1, zq2, zq3, zq4, zq5, zq6]
    refine tkx (i := 10) (v := ?_) hS ?_ ?_
    rotate_left
    ·rintro w' ⟨b0, b1, b2, b3, b4, b5⟩
     go_simp
     try with_reducible rfl
    try simp only [Act.put, zq1, zq2, zq3, zq4, zq5, zq6]
    refine tkx (i := 11) (v := ?_) hS ?_ ?_
    rotate_left
    ·rintro w' ⟨b0, b1, b2, b3, b4, b5⟩
     go_simp
     try with_reducible rfl
    try simp only [Act.put, zq1, zq2, zq3, zq4, zq5, zq6]
    refine tkx (i := 12) (v := ?_) hS ?_ ?_
    rotate_left
    ·rintro w' ⟨b0, b1, b2, b3, b4, b5⟩
     go_simp
     try with_reducible rfl
    try simp only [Act.put, zq1, zq2, zq3, zq4, zq5, zq6]
    refine tkx (i := 13) (v := ?_) hS ?_ ?_
    rotate_left
    ·rintro w' ⟨b0, b1, b2, b3, b4, b5⟩
     go_simp
     try with_reducible rfl
    try simp only [Act.put, zq1, zq2, zq3, zq4, zq5, zq6]
    refine tkx (i := 14) (v := ?_) hS ?_ ?_
    rotate_left
    ·rintro w' ⟨b0, b1, b2, b3, b4, b5⟩
     go_simp
     try with_reducible rfl
    try simp only [Act.put, zq1, zq2, zq3, zq4, zq5, zq6]
    refine tkx (i := 15) (v := ?_) hS ?_ ?_
    rotate_left
    ·rintro w' ⟨b0, b1, b2, b3, b4, b5⟩
     go_simp
     try with_reducible rfl
    try simp only [Act.put, zq1, zq2, zq3, zq4, zq5, zq6]
    refine tkx (i := 16) (v := ?_) hS ?_ ?_
    rotate_left
    ·rintro w' ⟨b0, b1, b2, b3, b4, b5⟩
     go_simp
     try with_reducible rfl
    try simp only [Act.put, zq1, zq2, zq3, zq4, zq5, zq6]
    refine tkx (i := 17) (v := ?_) hS ?_ ?_
    rotate_left
    ·rintro w' ⟨b0, b1, b2, b3, b4, b5⟩
     go_simp
     try with_reducible rfl
    try simp only [Act.put, zq1, zq2, zq3, zq4, zq5, zq6]
    refine anyX_g (i := 18) (by kernel_rfl) (by decide) rfl (by rfl) ?_
    intro K hK
    try simp only [zq1, zq2, zq3]
    refine wp_enterE #[.int .i64 c, .int .i64 d] Tryz.func101 (by kernel_rfl) (by kernel_rfl) ?_ (sadd_any c d _ HCP.out HCW.out) ?_
    ·go_simp
    rintro e w1 ⟨rfl, rfl⟩
    refine ⟨_, rfl, ?_⟩
    refine hK _ _ hS ?_
    clear hK
    try simp only [Act.put, zq1, zq2, zq3, zq4, zq5, zq6]
    refine anyX_g (i := 19) (by kernel_rfl) (by decide) rfl (by rfl) ?_
    intro K hK
    try simp only [zq1, zq2, zq3]
    go_simp
    obtain ⟨V, hV⟩ : ∃ V, (W2.alloc (.cells #[.int .i64 m, .int .i64 (plC c d)] 3)).drew = V := ⟨_, rfl⟩
    have hbV : Below W2.heap.size W2 V := by rw [<- hV]; exact ((Below.refl _ _).alloc (Nat.le_refl _) _).drew
    have hxV : Blk V W2.heap.size 3 #[.int .i64 m, .int .i64 (plC c d)] := by rw [<- hV]; exact Blk.drew (Blk.new W2 _ _)
    try rw [hV]
    have hS2 := HKS.out _ hbV
    clear hV
    refine hK _ _ hS2 ?_
    clear hK
    try simp only [Act.put, zq1, zq2, zq3, zq4, zq5, zq6]
    have hmn := smin_any m (plC c d) W2.heap.size V HCM.out (Blk.cell hxV 0) (Blk.cell hxV 1)
    refine anyX_g (i := 20) (by kernel_rfl) (by decide) rfl (by rfl) ?_
    intro K hK
    try simp only [zq1, zq2, zq3]
    refine wp_enterE #[.slice (some ⟨W2.heap.size, 0, none⟩) 2 2] Tryz.func100 (by kernel_rfl) (by kernel_rfl) ?_ (hmn) ?_
    ·go_simp
    rintro e w1 ⟨rfl, rfl⟩
    refine ⟨_, rfl, ?_⟩
    refine hK _ _ hS2 ?_
    clear hK
    try simp only [Act.put, zq1, zq2, zq3, zq4, zq5, zq6]
    refine tkx (i := 21) (v := ?_) hS2 ?_ ?_
    rotate_left
    ·rintro w' ⟨b0, b1, b2, b3, b4, b5⟩
     go_simp
     try with_reducible rfl
    try simp only [Act.put, zq1, zq2, zq3, zq4, zq5, zq6]
    have HV := Lib.hid hbV
    have fr : V.frozen? ⟨g, q, none⟩ = false := Blk.frozen (Blk.below (HROW.out) hbV (HROW.out).lt) q
    obtain ⟨b0, b1, b2, b3, b4, b5⟩ := hS2
    clear hS hbV hxV hmn
    refine anyX_last (by kernel_rfl) (by kernel_rfl) rfl rfl ?_
    try simp only [zq1, zq2, zq3]
    go_simp
    try apply_assumption
    clear b0 b1 b2 b3 b4 b5 fr
    go_wp2_with fail
    go_roundg (nl - (i + 1))
    case measure => have := HGK.out; omega
    case rel =>
     refine ⟨i + 1, by go_num, rfl, hlt, Lib.hid ?_, Lib.hid ((HBW2.out.trans (HV.out.mono HBW2.out.size)).setCell (p := ⟨g, q, none⟩) (by show w.heap.size <= g; have := HGE.out; omega) _)⟩
     have h9 := (Blk.below HROW.out HV.out HROW.out.lt).set_ q (.int .i64 (mnC m (plC c d)))
     rw [List.setIfInBounds_toArray, <- List.map_set, <- HSN.out] at h9
     exact h9
   ·obtain rfl : i = nl := by omega
    have hgf := HG.out
    rw [List.take_of_length_le (by rw [<- HNL.out]; exact Nat.le_refl _)] at hgf
    have hMi := nextL_is HPC.out HPL.out L HL.out
    obtain ⟨C, hC⟩ : ∃ C, nextL n P L = C := ⟨_, rfl⟩
    rw [hC] at hgf hMi
    have HCE := Lib.hid hC
    have hrd : ReadsI wr (.slice (some ⟨g, 0, none⟩) n n) n C := by
     have h1 := own_of_blk (B := 0) hgf (Nat.zero_le _) (by rw [hMi.1]; exact HN.out)
     rw [hMi.1] at h1
     exact h1.readsI
    have hon := only_any (k := k) (H.out wr (only_of_below HBR.out _)) HN.out hrd
    have hxr := Blk.below HX.out HBR.out HX.out.lt
    have y0 := Blk.cell hxr 0; have y1 := Blk.cell hxr 1; have y2 := Blk.cell hxr 2; have y3 := Blk.cell hxr 3; have y4 := Blk.cell hxr 4; have y5 := Blk.cell hxr 5
    simp only [List.getElem?_toArray, List.getElem?_cons_zero, List.getElem?_cons_succ] at y0 y1 y2 y3 y4 y5
    have HON := Lib.hid hon; have HXR := Lib.hid hxr; have HMI := Lib.hid hMi
    clear hC hgf hrd hon hxr hMi
    go_wp2_with fail
    refine HON.out.mono ?_
    clear y0 y1 y2 y3 y4 y5
    rintro e w3 ⟨g3, rfl, hg3, hx3, hb3⟩
    have hxb := Blk.below HXR.out hb3 HXR.out.lt
    have r6 := Blk.cell hxb 6; have f6 := Blk.frozen hxb 6
    simp only [List.getElem?_toArray, List.getElem?_cons_zero, List.getElem?_cons_succ] at r6
    have hbw := HBR.out.trans (hb3.mono HBR.out.size)
    have HXB := Lib.hid hxb; have HG3 := Lib.hid hx3; have HBW := Lib.hid hbw; have HGZ := Lib.hid (Nat.le_trans HBR.out.size hg3)
    clear hxb hx3 hb3 hbw hg3
    go_wp2_with fail
    go_end0
    rw [HCE.out]
    refine ⟨g3, rfl, HGZ.out, by simpa using HXB.out.set_ 6 (.slice (some ⟨g3, 0, none⟩) n n), HG3.out.far (p := ⟨b, 6, none⟩) (by show g3 ≠ b; have := HGZ.out; have := HX.out.lt; omega) _, only_setCell (only_of_below HBW.out _) (p := ⟨b, 6, none⟩) (.inl rfl) _⟩
end Go.Proofs.YtfccnadbiglagaaGreat
