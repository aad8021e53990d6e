/- Contract of side.Cost. -/
import Derived.Test.YtfccnadbiglagaaGreatVSideNa
import Derived.Test.YtfccnadbiglagaaGreatVPartD
import Derived.Test.YtfccnadbiglagaaGreatVSynMd
import Derived.Test.YtfccnadbiglagaaGreatVAny
set_option linter.unusedVariables false
set_option linter.unusedSimpArgs false
set_option maxRecDepth 100000
set_option maxHeartbeats 8000000
namespace Go.Proofs.YtfccnadbiglagaaGreat
open Go Go.RowKit Go.Proofs
def walkL (n : Nat) (S : List Int) (L : List ArcP) (I : List (List Bool)) (lt : Int -> Nat) (P : List Int) (xs : List Int) : List Int := xs.foldl (fun P x => onlyL S I (nextL n P L) (lt x)) P
def costL (n : Nat) (S F E : List Int) (L : List ArcP) (I : List (List Bool)) (z : Int) (lt : Int -> Nat) : List Int -> Int
 | [] => z
 | x :: xs => endL (walkL n S L I lt (onlyL S I F (lt x)) xs) E
theorem walkL_is {n : Nat} {S : List Int} {L : List ArcP} {I : List (List Bool)} {lt : Int -> Nat} (hL : ArcsIn n L) : ∀ (xs P : List Int), P.length = n -> (∀ x ∈ P, CostC x) -> (walkL n S L I lt P xs).length = n /\ ∀ x ∈ walkL n S L I lt P xs, CostC x := by
 intro xs
 induction xs with
 | nil => intro P h1 h2; exact ⟨h1, h2⟩
 | cons x xs ih =>
   intro P h1 h2
   obtain ⟨q1, q2⟩ := nextL_is h2 h1 L hL
   exact ih _ (by rw [onlyL_len]; exact q1) (onlyL_cost q2)
theorem walkL_snoc (n : Nat) (S : List Int) (L : List ArcP) (I : List (List Bool)) (lt : Int -> Nat) (P xs : List Int) (x : Int) : walkL n S L I lt P (xs ++ [x]) = onlyL S I (nextL n (walkL n S L I lt P xs) L) (lt x) := by simp [walkL]
structure P11 where
 b : Nat
 vi : Value
 B1 : Option Addr
 d1 : Nat
 B2 : Option Addr
 d2 : Nat
 B3 : Option Addr
 d3 : Nat
 B4 : Option Addr
 d4 : Nat
 B5 : Option Addr
 d5 : Nat
theorem only_none {w w' W : World} {b : Nat} (hb : Below w.heap.size w w') (hbb : w.heap.size <= b) (hW : w'.grownBy W (some b)) : w.grownBy W none :=
 ⟨hW.os.trans hb.os, hW.tape.trans hb.tape, hW.output.trans hb.output, Nat.le_trans hb.size hW.size, fun g hg _ => (hW.block g (Nat.lt_of_lt_of_le hg hb.size) (fun e => by injection e with e; omega)).trans (hb.block g hg)⟩
theorem scost_any {w : World} {n nl : Nat} {A1 A2 A3 A4 : Option Addr} {c1 c2 c3 c4 : Nat} {S F E : List Int} {L : List ArcP} {z : Int} (defs : List DefP) (hnd : defs.length <= 12) (hS : SideR w (.agg #[.slice A1 n c1, .slice A2 n c2, .slice A3 n c3, .slice A4 nl c4, .int .i64 z]) n S F E L z) (hn : n <= 1000) (hL : ArcsIn n L) (hLl : L.length <= 100000000) (hFl : ∀ x ∈ F, CostC x) (hEl : ∀ x ∈ E, CostC x)
  {DA RA TA : Option Addr} {Dn Dc Rn Rc tn tc : Nat} (hD : DefsAt w (fun g => g < w.heap.size) (.slice DA Dn Dc) (defs.map DefP.tree)) (hnil : DA = none -> Dc = 0) {T : List Int} (hT : ReadsI w (.slice TA tn tc) tn T) (hTn : ∀ x ∈ T, InN x) (fr to_ : Nat) (hft : fr <= to_) (htn : to_ <= tn) (htl : tn <= 1000000) :
  Calls Tryz.prog 28 #[.agg #[.slice A1 n c1, .slice A2 n c2, .slice A3 n c3, .slice A4 nl c4, .int .i64 z], .agg #[.slice DA Dn Dc, .slice RA Rn Rc], .slice TA tn tc, .int .i64 fr, .int .i64 to_] w fun e w' => e = .returned (.int .i64 (costL n S F E L (inRows (setsOf defs defs.length) (setsOf defs defs.length).length) z (letOf (setsOf defs defs.length)) ((T.drop fr).take (to_ - fr)))) /\ Below w.heap.size w w' := by
  have hnl := hS.forms.1
  obtain ⟨W0, hW0⟩ : ∃ W0, (w.alloc (.cells #[.slice A1 n c1, .slice A2 n c2, .slice A3 n c3, .slice A4 nl c4, .int .i64 z] 39)).alloc (.cells #[.slice DA Dn Dc, .slice RA Rn Rc] 30) = W0 := ⟨_, rfl⟩
  have hb0 : Below w.heap.size w W0 := by rw [<- hW0]; exact ((Below.refl _ _).alloc (Nat.le_refl _) _).alloc (by simp) _
  have hx0 : Blk W0 w.heap.size 39 #[.slice A1 n c1, .slice A2 n c2, .slice A3 n c3, .slice A4 nl c4, .int .i64 z] := by rw [<- hW0]; exact Blk.alloc (Blk.new _ _ _) _
  have hz0 : W0.heap.size = w.heap.size + 2 := by rw [<- hW0]; simp
  have hq := hT.form
  have htc : tn <= tc := by obtain ⟨_, _, e, q, _⟩ := hq; simp only [Value.slice.injEq, true_and] at e; omega
  have htc2 : tc <= 9223372036854775807 := by obtain ⟨_, _, e, _, q, _⟩ := hq; simp only [Value.slice.injEq, true_and] at e; omega
  have f0 : (0 : Int) <= (fr : Int) := Int.natCast_nonneg _
  have f1 : (fr : Int) <= (to_ : Int) := by omega
  have f2 : (to_ : Int) <= (tn : Int) := by omega
  have t0 : (0 : Int) <= (to_ : Int) := by omega
  have e0 : decide ((fr : Int) < 0) = false := by simp
  have e1 : decide ((to_ : Int) < (fr : Int)) = false := by simp; omega
  have e2 : decide (to_ < fr) = false := by simp; omega
  have e3 : decide ((tn : Int) < (to_ : Int)) = false := by simp; omega
  have e4 : decide (tn < to_) = false := by simp; omega
  by_cases hft0 : fr = to_
  ·subst hft0
   have hlist : (T.drop fr).take (fr - fr) = [] := by simp
   rw [hlist]
   have HB0 := Lib.hid hb0
   clear hS hL hLl hFl hEl hD hT hTn hnl hb0 hx0 hz0 hq hlist
   have HW0 := Lib.hid hW0
   clear hW0
   go_enter Tryz.func28, Tryz.ntmps28
   go_wp2_with fail
   go_ret
   exact ⟨rfl, by rw [HW0.out]; exact HB0.out⟩
  have hft1 : fr < to_ := by omega
  have f3 : (fr : Int) < (to_ : Int) := by omega
  have e5 : ¬ fr = to_ := hft0
  have e6 : ((fr : Int) == (to_ : Int)) = false := by rw [beq_eq_false_iff_ne]; omega
  obtain ⟨ss, hss⟩ : ∃ ss, setsOf defs defs.length = ss := ⟨_, rfl⟩
  have hsl : ss.length = defs.length := by rw [<- hss]; exact setsOf_len defs _ (Nat.le_refl _)
  have hrt : RtAll ss := by rw [<- hss]; exact setsOf_rt defs _
  have hse := sets_ok defs (by omega) W0 (.slice DA Dn Dc) RA Rn Rc ((hD.keep (fun g hg _ => by omega) (fun g hg i y hy => by rw [hb0.cell (p := ⟨g, i, none⟩) hg]; exact hy))) (fun A n c e q => by simp only [Value.slice.injEq] at e; obtain ⟨rfl, _, rfl⟩ := e; exact hnil q)
  rw [hss] at hse ⊢
  have HSE := Lib.hid hse; have HSL := Lib.hid hsl; have HRT := Lib.hid hrt; have HSR := Lib.hid hS; have HN := Lib.hid hn; have HLI := Lib.hid hL; have HLL := Lib.hid hLl; have HFL := Lib.hid hFl; have HEL := Lib.hid hEl; have HT := Lib.hid hT; have HTN := Lib.hid hTn; have HNL := Lib.hid hnl.symm; have HB0 := Lib.hid hb0; have HX0 := Lib.hid hx0; have HZ0 := Lib.hid hz0; have HW0 := Lib.hid hW0; have HND := Lib.hid hnd
  clear hse hsl hrt hS hn hL hLl hFl hEl hD hT hTn hnl hb0 hx0 hz0 hW0 hq hnd hft0 hss
  go_enter Tryz.func28, Tryz.ntmps28
  go_wp2_with fail
  rw [HW0.out]
  refine HSE.out.mono ?_
  clear HSE
  rintro e w1 ⟨v1, rfl, hso, hb1⟩
  have hrl := hso.reads
  obtain ⟨vA, vc, rfl, -, -, -⟩ := id hrl.2
  have hcu := cuts_x hrl HRT.out (by rw [HSL.out]; have := HND.out; omega)
  have HRL := Lib.hid hrl; have HB1 := Lib.hid (HB0.out.trans (hb1.mono HB0.out.size)); have HX1 := Lib.hid (Blk.below HX0.out hb1 HX0.out.lt); have HCU := Lib.hid hcu
  clear hso hrl hb1 hcu HX0
  go_wp2_with fail
  refine HCU.out.mono ?_
  clear HCU
  rintro e w2 ⟨m, ca, cc, ca', cc', rfl, hm, hc1, hc2, hb2⟩
  obtain ⟨v1, hv1⟩ : ∃ v, Value.slice vA ss.length vc = v := ⟨_, rfl⟩
  obtain ⟨ni, hni⟩ : ∃ k, (inRows ss ss.length).length = k := ⟨_, rfl⟩
  have hin : ∀ V, Below w2.heap.size w2 V -> Calls Tryz.prog 59 #[v1, .slice ca m cc, .slice ca' m cc'] V (TellsBB V (inRows ss ss.length)) := fun V hV => by
   rw [<- hv1]
   exact in_any ((HRL.out.below hb2).below hV) HRT.out (hc1.below hV) (hc2.below hV) (by omega) (by rw [HSL.out]; have := HND.out; omega)
  rw [hv1]
  have HIN := Lib.hid hin; have HC1 := Lib.hid hc1; have HC2 := Lib.hid hc2; have HBW2 := Lib.hid (HB1.out.trans (hb2.mono HB1.out.size)); have HXS := Lib.hid (Blk.below HX1.out hb2 HX1.out.lt); have HM := Lib.hid hm; have HNI := Lib.hid hni; have HV1 := Lib.hid hv1
  have HPL := Lib.hid (fun V (hV : Below w2.heap.size w2 V) x (hx : InN x) => plet_x HRT.out (hc1.below hV) (hc2.below hV) (show m <= 1000000000 by omega) hx)
  clear hin hc1 hc2 hb2 hm hni hv1 HRL HX1 HB1
  go_wp2_with fail
  refine region_xq (π := P11) 8 (fun w' : World => w'.cell? ⟨w.heap.size, 0, none⟩ = some (.slice A1 n c1) /\ w'.cell? ⟨w.heap.size, 1, none⟩ = some (.slice A2 n c2) /\ w'.cell? ⟨w.heap.size, 2, none⟩ = some (.slice A3 n c3) /\ w'.cell? ⟨w.heap.size, 3, none⟩ = some (.slice A4 nl c4) /\ w'.cell? ⟨w.heap.size, 4, none⟩ = some (.int .i64 z)) (fun (p : P11) (a : Act) => ((((((((a.put (some 42) (.agg #[.slice A1 n c1, .slice A2 n c2, .slice A3 n c3, .slice A4 nl c4, .int .i64 z])).put (some 43) v1).put (some 44) (.slice ca m cc)).put (some 45) (.slice ca' m cc')).put (some 46) p.vi).put (some 47) (.agg #[.slice p.B1 n p.d1, .slice p.B2 n p.d2, .slice p.B3 n p.d3, .slice p.B4 nl p.d4, .int .i64 z, .slice p.B5 ni p.d5])).put (some 48) (.agg #[.slice p.B1 n p.d1, .slice p.B2 n p.d2, .slice p.B3 n p.d3, .slice p.B4 nl p.d4, .int .i64 z, .slice p.B5 ni p.d5, .slice none 0 0])).put (some 14) (.pointer (some ⟨p.b, 0, none⟩)))) (fun (p : P11) (W : World) => Below w2.heap.size w2 W /\ Blk W p.b 110 #[.slice p.B1 n p.d1, .slice p.B2 n p.d2, .slice p.B3 n p.d3, .slice p.B4 nl p.d4, .int .i64 z, .slice p.B5 ni p.d5, .slice none 0 0] /\ w2.heap.size <= p.b /\ NetB W p.b (.agg #[.slice p.B1 n p.d1, .slice p.B2 n p.d2, .slice p.B3 n p.d3, .slice p.B4 nl p.d4, .int .i64 z, .slice p.B5 ni p.d5]) n S F E L z (inRows ss ss.length)) (fun (p : P11) (W : World) => Below w2.heap.size w2 W /\ Blk W p.b 110 #[.slice none 0 0, .slice none 0 0, .slice none 0 0, .slice none 0 0, .int .i64 0, .slice none 0 0, .slice none 0 0] /\ w2.heap.size <= p.b /\ NetB W p.b (.agg #[.slice p.B1 n p.d1, .slice p.B2 n p.d2, .slice p.B3 n p.d3, .slice p.B4 nl p.d4, .int .i64 z, .slice p.B5 ni p.d5]) n S F E L z (inRows ss ss.length) /\ (W.cell? ⟨w.heap.size, 0, none⟩ = some (.slice A1 n c1) /\ W.cell? ⟨w.heap.size, 1, none⟩ = some (.slice A2 n c2) /\ W.cell? ⟨w.heap.size, 2, none⟩ = some (.slice A3 n c3) /\ W.cell? ⟨w.heap.size, 3, none⟩ = some (.slice A4 nl c4) /\ W.cell? ⟨w.heap.size, 4, none⟩ = some (.int .i64 z))) 1 #[true, true, true, true, true, true, true, true, false] (by kernel_rfl) ?_ ?_ ?_
  ·clear HIN HC1 HC2 HPL HSR HXS
   rintro ⟨b, vi, B1, d1, B2, d2, B3, d3, B4, d4, B5, d5⟩ W ⟨h1, h2, h3, h4, h5⟩
   dsimp only at h2 h3 h4 ⊢
   try simp only [Act.put, zq1, zq2, zq3, zq4, zq5, zq6]
   have r0 := Blk.cell h2 0; have r1 := Blk.cell h2 1; have r2 := Blk.cell h2 2; have r3 := Blk.cell h2 3; have r4 := Blk.cell h2 4; have r5 := Blk.cell h2 5; have r6 := Blk.cell h2 6
   have f0 := Blk.frozen h2 0; have f1 := Blk.frozen h2 1; have f2 := Blk.frozen h2 2; have f3 := Blk.frozen h2 3; have f4 := Blk.frozen h2 4; have f5 := Blk.frozen h2 5; have f6 := Blk.frozen h2 6
   simp only [List.getElem?_toArray, List.getElem?_cons_zero, List.getElem?_cons_succ] at r0 r1 r2 r3 r4 r5 r6
   have H1 := Lib.hid h1; have H2 := Lib.hid h2; have H3 := Lib.hid h3; have H4 := Lib.hid h4
   clear h1 h2 h3 h4 h5
   refine anyX_last (by kernel_rfl) (by kernel_rfl) rfl rfl ?_
   try simp only [zq1, zq2, zq3]
   go_simp
   refine .inl ⟨⟨b, vi, B1, d1, B2, d2, B3, d3, B4, d4, B5, d5⟩, rfl, ?_, ?_⟩
   ·dsimp only
    simp only [Act.put, zq1, zq2, zq3, zq4, zq5, zq6]
   exact ⟨(((((((H1.out.setCell (p := ⟨b, 0, none⟩) H3.out (.slice B1 n d1)).setCell (p := ⟨b, 1, none⟩) H3.out (.slice B2 n d2)).setCell (p := ⟨b, 2, none⟩) H3.out (.slice B3 n d3)).setCell (p := ⟨b, 3, none⟩) H3.out (.slice B4 nl d4)).setCell (p := ⟨b, 4, none⟩) H3.out (.int .i64 z)).setCell (p := ⟨b, 5, none⟩) H3.out (.slice B5 ni d5)).setCell (p := ⟨b, 6, none⟩) H3.out (.slice none 0 0)), by simpa using (((((((H2.out.set_ 0 (.slice B1 n d1)).set_ 1 (.slice B2 n d2)).set_ 2 (.slice B3 n d3)).set_ 3 (.slice B4 nl d4)).set_ 4 (.int .i64 z)).set_ 5 (.slice B5 ni d5)).set_ 6 (.slice none 0 0)), H3.out, NetB.on H4.out (only_setCell (only_setCell (only_setCell (only_setCell (only_setCell (only_setCell (only_setCell (only_refl W (some b)) (p := ⟨b, 0, none⟩) (.inl rfl) (.slice B1 n d1)) (p := ⟨b, 1, none⟩) (.inl rfl) (.slice B2 n d2)) (p := ⟨b, 2, none⟩) (.inl rfl) (.slice B3 n d3)) (p := ⟨b, 3, none⟩) (.inl rfl) (.slice B4 nl d4)) (p := ⟨b, 4, none⟩) (.inl rfl) (.int .i64 z)) (p := ⟨b, 5, none⟩) (.inl rfl) (.slice B5 ni d5)) (p := ⟨b, 6, none⟩) (.inl rfl) (.slice none 0 0))⟩
  ·intro HLF
   have hxV0 := HXS.out.drew
   have hbV0 : Below w2.heap.size w2 w2.drew := (Below.refl _ _).drew
   obtain ⟨V0, eV⟩ : ∃ W', w2.drew = W' := ⟨_, rfl⟩
   rw [eV] at hxV0 hbV0 ⊢
   clear eV
   have hS : (fun w' : World => w'.cell? ⟨w.heap.size, 0, none⟩ = some (.slice A1 n c1) /\ w'.cell? ⟨w.heap.size, 1, none⟩ = some (.slice A2 n c2) /\ w'.cell? ⟨w.heap.size, 2, none⟩ = some (.slice A3 n c3) /\ w'.cell? ⟨w.heap.size, 3, none⟩ = some (.slice A4 nl c4) /\ w'.cell? ⟨w.heap.size, 4, none⟩ = some (.int .i64 z)) V0 := ⟨Blk.cell hxV0 0, Blk.cell hxV0 1, Blk.cell hxV0 2, Blk.cell hxV0 3, Blk.cell hxV0 4⟩
   refine tkx (i := 0) (v := ?_) hS ?_ ?_ (hQ := by exact ends_panic _ _ (fun _ _ _ h => h))
   rotate_left
   ·rintro w' ⟨b0, b1, b2, b3, b4⟩
    go_simp
    try with_reducible rfl
   try simp only [Act.put, zq1, zq2, zq3, zq4, zq5, zq6]
   refine tkx (i := 1) (v := ?_) hS ?_ ?_ (hQ := by exact ends_panic _ _ (fun _ _ _ h => h))
   rotate_left
   ·rintro w' ⟨b0, b1, b2, b3, b4⟩
    go_simp
    try with_reducible rfl
   try simp only [Act.put, zq1, zq2, zq3, zq4, zq5, zq6]
   refine tkx (i := 2) (v := ?_) hS ?_ ?_ (hQ := by exact ends_panic _ _ (fun _ _ _ h => h))
   rotate_left
   ·rintro w' ⟨b0, b1, b2, b3, b4⟩
    go_simp
    try with_reducible rfl
   try simp only [Act.put, zq1, zq2, zq3, zq4, zq5, zq6]
   refine tkx (i := 3) (v := ?_) hS ?_ ?_ (hQ := by exact ends_panic _ _ (fun _ _ _ h => h))
   rotate_left
   ·rintro w' ⟨b0, b1, b2, b3, b4⟩
    go_simp
    try with_reducible rfl
   try simp only [Act.put, zq1, zq2, zq3, zq4, zq5, zq6]
   refine anyX_2 (i := 4) (j := 7) (by kernel_rfl) (by decide) (by decide) rfl rfl rfl rfl ?_ ?_
   ·intro K hK
    try simp only [zq1, zq2, zq3]
    refine wp_enterE #[v1, .slice ca m cc, .slice ca' m cc'] Tryz.func59 (by kernel_rfl) (by kernel_rfl) ?_ (HIN.out V0 hbV0) ?_
    ·go_simp
    rintro e Va ⟨vi, rfl, hoi, hbn⟩
    refine ⟨_, rfl, ?_⟩
    have hbVa := hbV0.trans (hbn.mono hbV0.size)
    have hxVa := Blk.below hxV0 hbn hxV0.lt
    have hSVa : (fun w' : World => w'.cell? ⟨w.heap.size, 0, none⟩ = some (.slice A1 n c1) /\ w'.cell? ⟨w.heap.size, 1, none⟩ = some (.slice A2 n c2) /\ w'.cell? ⟨w.heap.size, 2, none⟩ = some (.slice A3 n c3) /\ w'.cell? ⟨w.heap.size, 3, none⟩ = some (.slice A4 nl c4) /\ w'.cell? ⟨w.heap.size, 4, none⟩ = some (.int .i64 z)) Va := ⟨Blk.cell hxVa 0, Blk.cell hxVa 1, Blk.cell hxVa 2, Blk.cell hxVa 3, Blk.cell hxVa 4⟩
    refine hK _ _ hSVa ?_
    clear hK
    try simp only [Act.put, zq1, zq2, zq3, zq4, zq5, zq6]
    refine anyX_2 (i := 5) (j := 7) (by kernel_rfl) (by decide) (by decide) rfl rfl rfl rfl ?_ ?_
    ·intro K hK
     try simp only [zq1, zq2, zq3]
     have hib : ∀ W, Va.grownBy W none -> ReadsBB W vi (inRows ss ss.length).length (inRows ss ss.length) := fun W hW => OwnLL.readsBB (OwnLL.kept_ hoi (only_trans (only_refl _ _) hW) (fun q e => by cases e))
     have hsd : ∀ W, Va.grownBy W none -> SideR W (.agg #[.slice A1 n c1, .slice A2 n c2, .slice A3 n c3, .slice A4 nl c4, .int .i64 z]) n S F E L z := fun W hW => HSR.out.below ((HBW2.out.trans (hbVa.mono HBW2.out.size)).trans ⟨hW.os, hW.tape, hW.output, hW.size, fun g hg => hW.block g (Nat.lt_of_lt_of_le hg (Nat.le_trans HBW2.out.size hbVa.size)) (fun e => by cases e)⟩)
     refine wp_enterE #[.agg #[.slice A1 n c1, .slice A2 n c2, .slice A3 n c3, .slice A4 nl c4, .int .i64 z], vi] Tryz.func52 (by kernel_rfl) (by kernel_rfl) ?_ (newNet_any (row := none) hsd hib (fun q e => by cases e) HN.out HLI.out HLL.out) ?_
     ·go_simp
     rintro e Vb ⟨vn, rfl, hnt, hbn⟩
     refine ⟨_, rfl, ?_⟩
     obtain ⟨B1, d1, B2, d2, B3, d3, B4, d4, B5, d5, hvn, -⟩ := (hnt Vb (only_refl _ _)).ex
     rw [HNL.out, HNI.out] at hvn
     subst hvn
     have hbVb := hbVa.trans (hbn.mono hbVa.size)
     have hxVb := Blk.below hxVa hbn hxVa.lt
     have hSVb : (fun w' : World => w'.cell? ⟨w.heap.size, 0, none⟩ = some (.slice A1 n c1) /\ w'.cell? ⟨w.heap.size, 1, none⟩ = some (.slice A2 n c2) /\ w'.cell? ⟨w.heap.size, 2, none⟩ = some (.slice A3 n c3) /\ w'.cell? ⟨w.heap.size, 3, none⟩ = some (.slice A4 nl c4) /\ w'.cell? ⟨w.heap.size, 4, none⟩ = some (.int .i64 z)) Vb := ⟨Blk.cell hxVb 0, Blk.cell hxVb 1, Blk.cell hxVb 2, Blk.cell hxVb 3, Blk.cell hxVb 4⟩
     refine hK _ _ hSVb ?_
     clear hK
     try simp only [Act.put, zq1, zq2, zq3, zq4, zq5, zq6]
     refine tkx (i := 6) (v := ?_) hSVb ?_ ?_ (hQ := by exact ends_panic _ _ (fun _ _ _ h => h))
     rotate_left
     ·rintro w' ⟨b0, b1, b2, b3, b4⟩
      go_simp
      try with_reducible rfl
     try simp only [Act.put, zq1, zq2, zq3, zq4, zq5, zq6]
     refine anyX_g (i := 7) (by kernel_rfl) (by decide) rfl (by rfl) ?_
     intro K hK
     try simp only [zq1, zq2, zq3]
     go_simp
     obtain ⟨Vc, eV⟩ : ∃ W', Vb.alloc (.cells #[.slice none 0 0, .slice none 0 0, .slice none 0 0, .slice none 0 0, .int .i64 0, .slice none 0 0, .slice none 0 0] 110) = W' := ⟨_, rfl⟩
     have hbn : Below Vb.heap.size Vb Vc := by rw [<- eV]; exact (Below.refl _ _).alloc (Nat.le_refl _) _
     have hbb : Blk Vc Vb.heap.size 110 #[.slice none 0 0, .slice none 0 0, .slice none 0 0, .slice none 0 0, .int .i64 0, .slice none 0 0, .slice none 0 0] := by rw [<- eV]; exact Blk.new _ _ _
     have hzz : Vc.heap.size = Vb.heap.size + 1 := by rw [<- eV]; simp
     rw [eV]
     clear eV
     have hbVc := hbVb.trans (hbn.mono hbVb.size)
     have hxVc := Blk.below hxVb hbn hxVb.lt
     have hSVc : (fun w' : World => w'.cell? ⟨w.heap.size, 0, none⟩ = some (.slice A1 n c1) /\ w'.cell? ⟨w.heap.size, 1, none⟩ = some (.slice A2 n c2) /\ w'.cell? ⟨w.heap.size, 2, none⟩ = some (.slice A3 n c3) /\ w'.cell? ⟨w.heap.size, 3, none⟩ = some (.slice A4 nl c4) /\ w'.cell? ⟨w.heap.size, 4, none⟩ = some (.int .i64 z)) Vc := ⟨Blk.cell hxVc 0, Blk.cell hxVc 1, Blk.cell hxVc 2, Blk.cell hxVc 3, Blk.cell hxVc 4⟩
     have hle := hbVb.size
     obtain ⟨b, hbE⟩ : ∃ b, Vb.heap.size = b := ⟨_, rfl⟩
     rw [hbE] at hbb hle ⊢
     refine hK _ _ hSVc ?_
     clear hK
     try simp only [Act.put, zq1, zq2, zq3, zq4, zq5, zq6]
     have hlf := HLF ⟨b, vi, B1, d1, B2, d2, B3, d3, B4, d4, B5, d5⟩ Vc ⟨hbVc, hbb, hle, fun W hW => hnt W (only_none hbn (Nat.le_of_eq hbE) hW), hSVc⟩
     dsimp only at hlf
     simp only [Act.put, zq1, zq2, zq3, zq4, zq5, zq6] at hlf
     exact hlf
    ·intro K hK
     try simp only [zq1, zq2, zq3]
     go_simp
     obtain ⟨Vb, eV⟩ : ∃ W', Va.alloc (.cells #[.slice none 0 0, .slice none 0 0, .slice none 0 0, .slice none 0 0, .int .i64 0, .slice none 0 0, .slice none 0 0] 110) = W' := ⟨_, rfl⟩
     have hbn : Below Va.heap.size Va Vb := by rw [<- eV]; exact (Below.refl _ _).alloc (Nat.le_refl _) _
     have hbb : Blk Vb Va.heap.size 110 #[.slice none 0 0, .slice none 0 0, .slice none 0 0, .slice none 0 0, .int .i64 0, .slice none 0 0, .slice none 0 0] := by rw [<- eV]; exact Blk.new _ _ _
     have hzz : Vb.heap.size = Va.heap.size + 1 := by rw [<- eV]; simp
     rw [eV]
     clear eV
     have hbVb := hbVa.trans (hbn.mono hbVa.size)
     have hxVb := Blk.below hxVa hbn hxVa.lt
     have hSVb : (fun w' : World => w'.cell? ⟨w.heap.size, 0, none⟩ = some (.slice A1 n c1) /\ w'.cell? ⟨w.heap.size, 1, none⟩ = some (.slice A2 n c2) /\ w'.cell? ⟨w.heap.size, 2, none⟩ = some (.slice A3 n c3) /\ w'.cell? ⟨w.heap.size, 3, none⟩ = some (.slice A4 nl c4) /\ w'.cell? ⟨w.heap.size, 4, none⟩ = some (.int .i64 z)) Vb := ⟨Blk.cell hxVb 0, Blk.cell hxVb 1, Blk.cell hxVb 2, Blk.cell hxVb 3, Blk.cell hxVb 4⟩
     have hle := hbVa.size
     obtain ⟨b, hbE⟩ : ∃ b, Va.heap.size = b := ⟨_, rfl⟩
     rw [hbE] at hbb hle ⊢
     refine hK _ _ hSVb ?_
     clear hK
     try simp only [Act.put, zq1, zq2, zq3, zq4, zq5, zq6]
     refine anyX_g (i := 5) (by kernel_rfl) (by decide) rfl (by rfl) ?_
     intro K hK
     try simp only [zq1, zq2, zq3]
     have hib : ∀ W, Vb.grownBy W (some b) -> ReadsBB W vi (inRows ss ss.length).length (inRows ss ss.length) := fun W hW => OwnLL.readsBB (OwnLL.kept_ hoi (only_none hbn (Nat.le_of_eq hbE) hW) (fun q e => by cases e))
     have hsd : ∀ W, Vb.grownBy W (some b) -> SideR W (.agg #[.slice A1 n c1, .slice A2 n c2, .slice A3 n c3, .slice A4 nl c4, .int .i64 z]) n S F E L z := fun W hW => HSR.out.below ((HBW2.out.trans (hbVb.mono HBW2.out.size)).trans (below_of_only hW (by have := HBW2.out.size; omega) (Nat.le_trans HBW2.out.size hbVb.size)))
     refine wp_enterE #[.agg #[.slice A1 n c1, .slice A2 n c2, .slice A3 n c3, .slice A4 nl c4, .int .i64 z], vi] Tryz.func52 (by kernel_rfl) (by kernel_rfl) ?_ (newNet_any (row := (some b)) hsd hib (fun q e => by injection e with e; have := hbb.lt; omega) HN.out HLI.out HLL.out) ?_
     ·go_simp
     rintro e Vc ⟨vn, rfl, hnt, hbn⟩
     refine ⟨_, rfl, ?_⟩
     obtain ⟨B1, d1, B2, d2, B3, d3, B4, d4, B5, d5, hvn, -⟩ := (hnt Vc (only_refl _ _)).ex
     rw [HNL.out, HNI.out] at hvn
     subst hvn
     have hbVc := hbVb.trans (hbn.mono hbVb.size)
     have hxVc := Blk.below hxVb hbn hxVb.lt
     have hSVc : (fun w' : World => w'.cell? ⟨w.heap.size, 0, none⟩ = some (.slice A1 n c1) /\ w'.cell? ⟨w.heap.size, 1, none⟩ = some (.slice A2 n c2) /\ w'.cell? ⟨w.heap.size, 2, none⟩ = some (.slice A3 n c3) /\ w'.cell? ⟨w.heap.size, 3, none⟩ = some (.slice A4 nl c4) /\ w'.cell? ⟨w.heap.size, 4, none⟩ = some (.int .i64 z)) Vc := ⟨Blk.cell hxVc 0, Blk.cell hxVc 1, Blk.cell hxVc 2, Blk.cell hxVc 3, Blk.cell hxVc 4⟩
     have hbb := Blk.below hbb hbn hbb.lt
     refine hK _ _ hSVc ?_
     clear hK
     try simp only [Act.put, zq1, zq2, zq3, zq4, zq5, zq6]
     refine tkx (i := 6) (v := ?_) hSVc ?_ ?_ (hQ := by exact ends_panic _ _ (fun _ _ _ h => h))
     rotate_left
     ·rintro w' ⟨b0, b1, b2, b3, b4⟩
      go_simp
      try with_reducible rfl
     try simp only [Act.put, zq1, zq2, zq3, zq4, zq5, zq6]
     have hlf := HLF ⟨b, vi, B1, d1, B2, d2, B3, d3, B4, d4, B5, d5⟩ Vc ⟨hbVc, hbb, hle, fun W hW => hnt W hW, hSVc⟩
     dsimp only at hlf
     simp only [Act.put, zq1, zq2, zq3, zq4, zq5, zq6] at hlf
     exact hlf
   ·intro K hK
    try simp only [zq1, zq2, zq3]
    go_simp
    obtain ⟨Va, eV⟩ : ∃ W', V0.alloc (.cells #[.slice none 0 0, .slice none 0 0, .slice none 0 0, .slice none 0 0, .int .i64 0, .slice none 0 0, .slice none 0 0] 110) = W' := ⟨_, rfl⟩
    have hbn : Below V0.heap.size V0 Va := by rw [<- eV]; exact (Below.refl _ _).alloc (Nat.le_refl _) _
    have hbb : Blk Va V0.heap.size 110 #[.slice none 0 0, .slice none 0 0, .slice none 0 0, .slice none 0 0, .int .i64 0, .slice none 0 0, .slice none 0 0] := by rw [<- eV]; exact Blk.new _ _ _
    have hzz : Va.heap.size = V0.heap.size + 1 := by rw [<- eV]; simp
    rw [eV]
    clear eV
    have hbVa := hbV0.trans (hbn.mono hbV0.size)
    have hxVa := Blk.below hxV0 hbn hxV0.lt
    have hSVa : (fun w' : World => w'.cell? ⟨w.heap.size, 0, none⟩ = some (.slice A1 n c1) /\ w'.cell? ⟨w.heap.size, 1, none⟩ = some (.slice A2 n c2) /\ w'.cell? ⟨w.heap.size, 2, none⟩ = some (.slice A3 n c3) /\ w'.cell? ⟨w.heap.size, 3, none⟩ = some (.slice A4 nl c4) /\ w'.cell? ⟨w.heap.size, 4, none⟩ = some (.int .i64 z)) Va := ⟨Blk.cell hxVa 0, Blk.cell hxVa 1, Blk.cell hxVa 2, Blk.cell hxVa 3, Blk.cell hxVa 4⟩
    have hle := hbV0.size
    obtain ⟨b, hbE⟩ : ∃ b, V0.heap.size = b := ⟨_, rfl⟩
    rw [hbE] at hbb hle ⊢
    refine hK _ _ hSVa ?_
    clear hK
    try simp only [Act.put, zq1, zq2, zq3, zq4, zq5, zq6]
    refine anyX_g (i := 4) (by kernel_rfl) (by decide) rfl (by rfl) ?_
    intro K hK
    try simp only [zq1, zq2, zq3]
    refine wp_enterE #[v1, .slice ca m cc, .slice ca' m cc'] Tryz.func59 (by kernel_rfl) (by kernel_rfl) ?_ (HIN.out Va hbVa) ?_
    ·go_simp
    rintro e Vb ⟨vi, rfl, hoi, hbn⟩
    refine ⟨_, rfl, ?_⟩
    have hbVb := hbVa.trans (hbn.mono hbVa.size)
    have hxVb := Blk.below hxVa hbn hxVa.lt
    have hSVb : (fun w' : World => w'.cell? ⟨w.heap.size, 0, none⟩ = some (.slice A1 n c1) /\ w'.cell? ⟨w.heap.size, 1, none⟩ = some (.slice A2 n c2) /\ w'.cell? ⟨w.heap.size, 2, none⟩ = some (.slice A3 n c3) /\ w'.cell? ⟨w.heap.size, 3, none⟩ = some (.slice A4 nl c4) /\ w'.cell? ⟨w.heap.size, 4, none⟩ = some (.int .i64 z)) Vb := ⟨Blk.cell hxVb 0, Blk.cell hxVb 1, Blk.cell hxVb 2, Blk.cell hxVb 3, Blk.cell hxVb 4⟩
    have hbb := Blk.below hbb hbn hbb.lt
    refine hK _ _ hSVb ?_
    clear hK
    try simp only [Act.put, zq1, zq2, zq3, zq4, zq5, zq6]
    refine anyX_g (i := 5) (by kernel_rfl) (by decide) rfl (by rfl) ?_
    intro K hK
    try simp only [zq1, zq2, zq3]
    have hib : ∀ W, Vb.grownBy W (some b) -> ReadsBB W vi (inRows ss ss.length).length (inRows ss ss.length) := fun W hW => OwnLL.readsBB (OwnLL.kept_ hoi (only_trans (only_refl _ _) hW) (fun q e => by injection e with e; omega))
    have hsd : ∀ W, Vb.grownBy W (some b) -> SideR W (.agg #[.slice A1 n c1, .slice A2 n c2, .slice A3 n c3, .slice A4 nl c4, .int .i64 z]) n S F E L z := fun W hW => HSR.out.below ((HBW2.out.trans (hbVb.mono HBW2.out.size)).trans (below_of_only hW (by have := HBW2.out.size; omega) (Nat.le_trans HBW2.out.size hbVb.size)))
    refine wp_enterE #[.agg #[.slice A1 n c1, .slice A2 n c2, .slice A3 n c3, .slice A4 nl c4, .int .i64 z], vi] Tryz.func52 (by kernel_rfl) (by kernel_rfl) ?_ (newNet_any (row := (some b)) hsd hib (fun q e => by injection e with e; have := hbb.lt; omega) HN.out HLI.out HLL.out) ?_
    ·go_simp
    rintro e Vc ⟨vn, rfl, hnt, hbn⟩
    refine ⟨_, rfl, ?_⟩
    obtain ⟨B1, d1, B2, d2, B3, d3, B4, d4, B5, d5, hvn, -⟩ := (hnt Vc (only_refl _ _)).ex
    rw [HNL.out, HNI.out] at hvn
    subst hvn
    have hbVc := hbVb.trans (hbn.mono hbVb.size)
    have hxVc := Blk.below hxVb hbn hxVb.lt
    have hSVc : (fun w' : World => w'.cell? ⟨w.heap.size, 0, none⟩ = some (.slice A1 n c1) /\ w'.cell? ⟨w.heap.size, 1, none⟩ = some (.slice A2 n c2) /\ w'.cell? ⟨w.heap.size, 2, none⟩ = some (.slice A3 n c3) /\ w'.cell? ⟨w.heap.size, 3, none⟩ = some (.slice A4 nl c4) /\ w'.cell? ⟨w.heap.size, 4, none⟩ = some (.int .i64 z)) Vc := ⟨Blk.cell hxVc 0, Blk.cell hxVc 1, Blk.cell hxVc 2, Blk.cell hxVc 3, Blk.cell hxVc 4⟩
    have hbb := Blk.below hbb hbn hbb.lt
    refine hK _ _ hSVc ?_
    clear hK
    try simp only [Act.put, zq1, zq2, zq3, zq4, zq5, zq6]
    refine tkx (i := 6) (v := ?_) hSVc ?_ ?_ (hQ := by exact ends_panic _ _ (fun _ _ _ h => h))
    rotate_left
    ·rintro w' ⟨b0, b1, b2, b3, b4⟩
     go_simp
     try with_reducible rfl
    try simp only [Act.put, zq1, zq2, zq3, zq4, zq5, zq6]
    have hlf := HLF ⟨b, vi, B1, d1, B2, d2, B3, d3, B4, d4, B5, d5⟩ Vc ⟨hbVc, hbb, hle, fun W hW => hnt W hW, hSVc⟩
    dsimp only at hlf
    simp only [Act.put, zq1, zq2, zq3, zq4, zq5, zq6] at hlf
    exact hlf
  ·rintro ⟨b, vi, B1, d1, B2, d2, B3, d3, B4, d4, B5, d5⟩ W ⟨h1, h2, h3, h4⟩
   dsimp only at h2 h3 h4 ⊢
   try simp only [Act.put, zq1, zq2, zq3, zq4, zq5, zq6]
   clear HSR HIN HXS HNI HV1
   have hbw := HBW2.out.trans (h1.mono HBW2.out.size)
   obtain ⟨tb, toff, rfl, htb, htc0⟩ := HT.out.at fr (by omega)
   have hx0 := bel_q hbw htc0
   have hTl : T.length = tn := HT.out.1
   have hfl : fr < T.length := by omega
   obtain ⟨x, hx⟩ : ∃ x, T.getD fr 0 = x := ⟨_, rfl⟩
   have hxm : x ∈ T := by rw [<- hx, List.getD_eq_getElem?_getD, List.getElem?_eq_getElem hfl]; exact List.getElem_mem hfl
   rw [hx] at hx0
   have hlt := HPL.out W h1 x (HTN.out x hxm)
   have hlist : (T.drop fr).take (to_ - fr) = x :: (T.drop (fr + 1)).take (to_ - (fr + 1)) := by
    rw [List.drop_eq_getElem_cons hfl, show to_ - fr = (to_ - (fr + 1)) + 1 by omega, List.take_succ_cons]
    rw [show T[fr] = x by rw [<- hx, List.getD_eq_getElem?_getD, List.getElem?_eq_getElem hfl]; rfl]
   obtain ⟨M, hM⟩ : ∃ M, to_ - (fr + 1) = M := ⟨_, rfl⟩
   obtain ⟨I, hI⟩ : ∃ I, inRows ss ss.length = I := ⟨_, rfl⟩
   obtain ⟨lt, hlE⟩ : ∃ lt, letOf ss = lt := ⟨_, rfl⟩
   rw [hI] at h4
   rw [show letOf ss x = lt x by rw [hlE]] at hlt
   have HPL2 := Lib.hid (fun V (hV : Below w2.heap.size w2 V) y (hy : y ∈ T) => by have := HPL.out V hV y (HTN.out y hy); rw [show letOf ss y = lt y by rw [hlE]] at this; exact this)
   have hcl : costL n S F E L (inRows ss ss.length) z (letOf ss) ((T.drop fr).take (to_ - fr)) = endL (walkL n S L I lt (onlyL S I F (lt x)) ((T.drop (fr + 1)).take M)) E := by rw [hlist, hI, hlE, hM]; rfl
   have HCL := Lib.hid hcl
   have HLTX := Lib.hid hlt; have H1 := Lib.hid h1; have H2 := Lib.hid h2; have H3 := Lib.hid h3; have H4 := Lib.hid h4; have HMM := Lib.hid hM; have HTL := Lib.hid hTl
   clear hbw htc0 hTl hfl hx hxm hlt hlist hI hlE hcl h1 h2 h3 h4 hM HPL HTN HRT HSL
   go_simp
   try apply_assumption
   go_wp2_with fail
   refine HLTX.out.mono ?_
   clear HLTX hx0
   rintro e w3 ⟨rfl, hb3⟩
   have hbg := begin_any (k := lt x) (H4.out.on (only_of_below hb3 _)) HN.out (Blk.below H2.out hb3 H2.out.lt)
   have HBG := Lib.hid hbg; have HB3 := Lib.hid hb3
   clear hbg hb3
   go_wp2_with fail
   refine HBG.out.mono ?_
   clear HBG
   rintro e w4 ⟨g0, rfl, hg0, hxb, hxg, hgr⟩
   have hn4 : NetB w4 b (.agg #[.slice B1 n d1, .slice B2 n d2, .slice B3 n d3, .slice B4 nl d4, .int .i64 z, .slice B5 ni d5]) n S F E L z I := H4.out.on (only_trans (only_of_below HB3.out _) hgr)
   have hb4 : Below w2.heap.size w2 w4 := H1.out.trans ((HB3.out.mono H1.out.size).trans (below_of_only hgr H3.out (Nat.le_trans H1.out.size HB3.out.size)))
   have HXB := Lib.hid hxb; have HXG := Lib.hid hxg; have HN4 := Lib.hid hn4; have HB4 := Lib.hid hb4
   clear hg0 hxb hxg hgr hn4 hb4 HB3 H1 H2 H4
   have hFn : F.length = n := (HN4.out w4 (only_refl _ _)).lens.2.1
   obtain ⟨P0, hP0⟩ : ∃ P, onlyL S I F (lt x) = P := ⟨_, rfl⟩
   have hP0l : P0.length = n := by rw [<- hP0, onlyL_len, hFn]
   have hP0c : ∀ y ∈ P0, CostC y := by rw [<- hP0]; exact onlyL_cost HFL.out
   have hcl := HCL.out
   rw [hP0] at hcl
   have hxg := HXG.out
   rw [hP0] at hxg
   obtain ⟨ys, hys⟩ : ∃ ys, (T.drop (fr + 1)).take M = ys := ⟨_, rfl⟩
   rw [hys] at hcl
   have hyl : ys.length = M := by rw [<- hys, List.length_take, List.length_drop]; have := HTL.out; have := HMM.out; omega
   have hyi : ∀ i, i < M -> ∃ y, y ∈ T /\ ys.take (i + 1) = ys.take i ++ [y] /\ w.cell? ⟨tb, toff + (fr + 1) + i, none⟩ = some (.int .i64 y) := fun i hi => by
    have hk : fr + 1 + i < T.length := by have := HTL.out; have := HMM.out; omega
    obtain ⟨b', off', e', hb', hc'⟩ := HT.out.at (fr + 1 + i) (by have := HTL.out; omega)
    simp only [Option.some.injEq, Addr.mk.injEq, and_true] at e'
    obtain ⟨rfl, rfl⟩ := e'
    refine ⟨T[fr + 1 + i], List.getElem_mem hk, ?_, ?_⟩
    ·rw [take_snoc_ ys i (by rw [hyl]; exact hi)]
     congr 2
     have := hys
     subst this
     simp
    ·rw [Nat.add_assoc]
     rw [hc']
     simp [List.getD, List.getElem?_eq_getElem hk]
   have HP0L := Lib.hid hP0l; have HP0C := Lib.hid hP0c; have HCF := Lib.hid hcl; have HXG0 := Lib.hid hxg; have HYL := Lib.hid hyl; have HYI := Lib.hid hyi
   clear hFn hP0 hP0l hP0c hcl hxg hys hyl hyi HCL HXG HT HTL HFL
   by_cases hcap : tc = fr + 1
   ·subst hcap
    have hto : to_ = fr + 1 := by omega
    have hM0 : M = 0 := by have := HMM.out; omega
    subst hto
    subst hM0
    clear HMM
    go_wp2_with fail
    go_loopg [63] 0 (fun gk vi wr => vi = .int .i64 0 /\ gk = 0 /\ Hid (wr = w4))
    case atStart => exact ⟨rfl, rfl, Lib.hid rfl⟩
    case round =>
     obtain ⟨rfl, hgk, hwr⟩ := hrel
     have hx4 := HXB.out
     rw [<- hwr.out] at hx4
     have hg4 := HXG0.out
     rw [<- hwr.out] at hg4
     have hn4 := HN4.out
     rw [<- hwr.out] at hn4
     have hen := end_any (k := 0) hn4 HN.out hx4 hg4 HP0L.out HP0C.out HEL.out
     have HEN := Lib.hid hen
     have HB5 : Hid (Below w2.heap.size w2 wr) := by have := HB4.out; rw [<- hwr.out] at this; exact Lib.hid this
     clear hx4 hg4 hn4 hen hgk hwr
     go_wp2_with fail
     refine HEN.out.mono ?_
     rintro e w6 ⟨rfl, hb6⟩
     have HB6 := Lib.hid (HBW2.out.trans ((HB5.out.trans (hb6.mono HB5.out.size)).mono HBW2.out.size))
     clear hb6
     go_wp2_with fail
     go_ret
     refine ⟨?_, HB6.out⟩
     rw [HCF.out, show ys = [] from List.eq_nil_of_length_eq_zero HYL.out]
     rfl
   ·have hc1 : ¬ fr + 1 = tc := fun e => hcap e.symm
    have hMb : M <= 1000000 := by have := HMM.out; omega
    go_wp2_with fail
    rw [HMM.out]
    go_loopg [63] M (fun gk vi wr => ∃ (i gp : Nat), vi = .int .i64 i /\ gk = M - i /\ i <= M /\ Hid (Blk wr b 110 #[.slice B1 n d1, .slice B2 n d2, .slice B3 n d3, .slice B4 nl d4, .int .i64 z, .slice B5 ni d5, .slice (some ⟨gp, 0, none⟩) n n]) /\ Hid (Blk wr gp 3 ((walkL n S L I lt P0 (ys.take i)).map (Value.int .i64)).toArray) /\ Hid (NetB wr b (.agg #[.slice B1 n d1, .slice B2 n d2, .slice B3 n d3, .slice B4 nl d4, .int .i64 z, .slice B5 ni d5]) n S F E L z I) /\ Hid (Below w2.heap.size w2 wr))
    case atStart => exact ⟨0, g0, rfl, rfl, Nat.zero_le _, HXB, HXG0, HN4, HB4⟩
    case round =>
     clear HXB HXG0 HN4 HB4
     obtain ⟨i, gp, rfl, hgk, hiM, HXB, HXG, HN4, HB4⟩ := hrel
     have HGK := Lib.hid hgk; clear hgk
     have i0 : (0 : Int) <= (i : Int) := Int.natCast_nonneg _
     have hwl := walkL_is (lt := lt) (I := I) (S := S) HLI.out (ys.take i) P0 HP0L.out HP0C.out
     obtain ⟨P, hP⟩ : ∃ P, walkL n S L I lt P0 (ys.take i) = P := ⟨_, rfl⟩
     have hxg := HXG.out
     rw [hP] at hwl hxg
     by_cases hlt : i < M
     ·have i1 : (i : Int) < (M : Int) := by omega
      obtain ⟨y, hyT, hys, hyc⟩ := HYI.out i hlt
      have hyc1 := bel_q (HBW2.out.trans (HB4.out.mono HBW2.out.size)) hyc
      have hlt2 := HPL2.out wr HB4.out y hyT
      have HLT := Lib.hid hlt2; have HWL := Lib.hid hwl; have HXG2 := Lib.hid hxg; have HYS := Lib.hid hys; have HPE := Lib.hid hP
      clear hyT hys hyc hlt2 hwl hxg hP
      go_wp2_with fail
      refine HLT.out.mono ?_
      clear hyc1 HLT
      rintro e w5 ⟨rfl, hb5⟩
      have hnx := snext_any (k := lt y) (HN4.out.on (only_of_below hb5 _)) HN.out (Blk.below HXB.out hb5 HXB.out.lt) (Blk.below HXG2.out hb5 HXG2.out.lt) HWL.out.1 HWL.out.2 HLI.out HLL.out
      have HNX := Lib.hid hnx; have HB5 := Lib.hid hb5
      clear hnx hb5
      go_wp2_with fail
      refine HNX.out.mono ?_
      clear HNX
      rintro e w6 ⟨g6, rfl, hg6, hx6, hp6, hgr6⟩
      have hn6 : NetB w6 b (.agg #[.slice B1 n d1, .slice B2 n d2, .slice B3 n d3, .slice B4 nl d4, .int .i64 z, .slice B5 ni d5]) n S F E L z I := HN4.out.on (only_trans (only_of_below HB5.out _) hgr6)
      have hb6 : Below w2.heap.size w2 w6 := HB4.out.trans ((HB5.out.mono HB4.out.size).trans (below_of_only hgr6 H3.out (Nat.le_trans HB4.out.size HB5.out.size)))
      have hw6 : walkL n S L I lt P0 (ys.take (i + 1)) = onlyL S I (nextL n P L) (lt y) := by rw [HYS.out, walkL_snoc, HPE.out]
      have HX6 := Lib.hid hx6; have HP6 := Lib.hid hp6; have HN6 := Lib.hid hn6; have HB6 := Lib.hid hb6; have HW6 := Lib.hid hw6
      clear hg6 hx6 hp6 hgr6 hn6 hb6 hw6
      go_wp2_with fail
      go_roundg (M - (i + 1))
      case measure => have := HGK.out; omega
      case rel => exact ⟨i + 1, g6, by go_num, rfl, hlt, HX6, Lib.hid (by rw [HW6.out]; exact HP6.out), HN6, HB6⟩
     ·obtain rfl : i = M := by omega
      have hen := end_any (k := 0) HN4.out HN.out HXB.out hxg hwl.1 hwl.2 HEL.out
      have HEN := Lib.hid hen; have HPE := Lib.hid hP
      clear hen hwl hxg hP
      go_wp2_with fail
      refine HEN.out.mono ?_
      rintro e w6 ⟨rfl, hb6⟩
      have HB6 := Lib.hid (HBW2.out.trans ((HB4.out.trans (hb6.mono HB4.out.size)).mono HBW2.out.size))
      clear hb6
      go_wp2_with fail
      go_ret
      refine ⟨?_, HB6.out⟩
      have hpe := HPE.out
      rw [List.take_of_length_le (by rw [HYL.out]; exact Nat.le_refl _)] at hpe
      rw [HCF.out, hpe]
      rfl
end Go.Proofs.YtfccnadbiglagaaGreat
