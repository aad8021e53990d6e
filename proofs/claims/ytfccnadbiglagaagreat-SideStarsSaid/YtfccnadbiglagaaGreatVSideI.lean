/- Contracts of the pieces' makers: dearer, star, row. Contracts of the pieces' makers: row. -/
import Derived.Test.YtfccnadbiglagaaGreatVSideE
import Derived.Test.YtfccnadbiglagaaGreatVAny
set_option linter.unusedVariables false
set_option linter.unusedSimpArgs false
set_option maxRecDepth 100000
set_option maxHeartbeats 8000000
namespace Go.Proofs.YtfccnadbiglagaaGreat
open Go Go.RowKit Go.Proofs
section
variable {P : Program} {ops : Array Oper} {Q : Exit -> Act -> World -> Prop} {md : Region.Mode} {S : World -> Prop} {m : Nat}
theorem tkg (G : List Nat) {i : Nat} {oi : Oper} {v : Value} {fuel : Nat} {listed : Array Bool} {a : Act} {w : World} (hS : S w)
  (hv : ∀ w, S w -> (execOp a.eval oi).run P w = .ok (.value v) w) (h : anyX P md ops Q S m fuel (listed.setIfInBounds i true) (a.put oi.dst v) w)
  (hi : ops[i]? = some oi := by rfl) (hg : Region.wanted oi (yielded ops a.tmps) = true := by rfl)
  (hs : Region.noSelect ops = true := by kernel_rfl) (hf : Region.free md ops listed i = true := by kernel_rfl) (hr : (Region.ready md ops listed).contains i = true := by kernel_rfl) (hw : gated md ops m G i = true := by kernel_rfl) (hG : (G.all fun g => !(listed.getD g true)) = true := by kernel_rfl)
  (hQ : ∀ c a w, Q (.panic c) (a.put oi.dst v) w -> Q (.panic c) a w := by exact fun _ _ _ h => h) : anyX P md ops Q S m (fuel + 1) listed a w :=
  anyX_takeG G hi hs hf hr hw hG hQ (Or.inl ⟨hg, hv⟩) hS h
end
theorem PieceV.parts {w : World} {S : Nat -> Prop} {v : Value} {F E : List (Int × Int)} {z : Int} (h : PieceV w S v F E z) : ∃ FA fc EA ec, v = .agg #[.slice FA F.length fc, .slice EA E.length ec, .int .i64 z] /\ DoorsV w S (.slice FA F.length fc) F /\ DoorsV w S (.slice EA E.length ec) E /\ F.length <= fc /\ fc <= 9223372036854775807 /\ F.length <= 1000 /\ E.length <= ec /\ ec <= 9223372036854775807 /\ E.length <= 1000 := by
 obtain ⟨vf, ve, rfl, hf, he⟩ := h
 have hf0 := hf; have he0 := he
 obtain ⟨FA, fc, rfl, f1, f2, f3⟩ := hf.form
 obtain ⟨EA, ec, rfl, e1, e2, e3⟩ := he.form
 exact ⟨FA, fc, EA, ec, rfl, hf0, he0, f1, f2, f3, e1, e2, e3⟩
theorem plusD_len (l : List (Int × Int)) (n : Int) : (plusD l n).length <= l.length := List.length_filterMap_le _ _
theorem DoorsV.bel {w w' : World} {S : Nat -> Prop} {v : Value} {l : List (Int × Int)} (h : DoorsV w S v l) (hb : Below w.heap.size w w') : DoorsV w' S v l :=
 h.keep (fun _ h _ => h) (fun g _ hlt i x hx => by rw [hb.cell (p := ⟨g, i, none⟩) hlt]; exact hx)
theorem TellsD.doors {w w' : World} {R : List (Int × Int)} {v : Value} {S : Nat -> Prop} (h : OwnD w' w.heap.size v R.length R) (hl : R.length <= 1000) (hS : ∀ g, w.heap.size <= g -> S g) : DoorsV w' S v R := h.doors hl fun g h1 _ => hS g h1
theorem dearer_any {w : World} {S : Nat -> Prop} {v : Value} {F E : List (Int × Int)} {z : Int} (h : PieceV w S v F E z) (n : Int) (hz : CostC z) (hn : CostC n) (hF : ∀ d ∈ F, CostC d.2) (hSt : ∀ g, w.heap.size <= g -> S g) :
  Calls Tryz.prog 72 #[v, .int .i64 n] w fun e w' => ∃ v', e = .returned v' /\ PieceV w' S v' (plusD F n) E (plC z n) /\ Below w.heap.size w w' := by
  obtain ⟨FA, fc, EA, ec, rfl, hf, he, f1, f2, f3, e1, e2, e3⟩ := h.parts
  obtain ⟨nf, hnf⟩ : ∃ n, F.length = n := ⟨_, rfl⟩
  obtain ⟨ne, hne⟩ : ∃ n, E.length = n := ⟨_, rfl⟩
  rw [hnf] at hf f1 f3 ⊢
  rw [hne] at he e1 e3 ⊢
  obtain ⟨W0, hW0⟩ : ∃ W0, (w.alloc (.cells #[.slice FA nf fc, .slice EA ne ec, .int .i64 z] 87)).alloc (.cells #[.slice none 0 0, .slice none 0 0, .int .i64 0] 87) = W0 := ⟨_, rfl⟩
  have hb0 : Below w.heap.size w W0 := by rw [<- hW0]; exact ((Below.refl _ _).alloc (Nat.le_refl _) _).alloc (by simp) _
  have hx0 : Blk W0 w.heap.size 87 #[.slice FA nf fc, .slice EA ne ec, .int .i64 z] := by rw [<- hW0]; exact Blk.alloc (Blk.new _ _ _) _
  have hx1 : Blk W0 (w.heap.size + 1) 87 #[.slice none 0 0, .slice none 0 0, .int .i64 0] := by
   rw [<- hW0]
   have := Blk.new (w.alloc (.cells #[.slice FA nf fc, .slice EA ne ec, .int .i64 z] 87)) 87 #[.slice none 0 0, .slice none 0 0, .int .i64 0]
   rwa [World.size_alloc] at this
  have hks : ∀ W : World, Below W0.heap.size W0 W -> (fun w' : World => w'.cell? ⟨w.heap.size, 0, none⟩ = some (.slice FA nf fc) /\ w'.cell? ⟨w.heap.size, 1, none⟩ = some (.slice EA ne ec) /\ w'.cell? ⟨w.heap.size, 2, none⟩ = some (.int .i64 z)) W := fun W hW => ⟨bel_q hW (Blk.cell hx0 0), bel_q hW (Blk.cell hx0 1), bel_q hW (Blk.cell hx0 2)⟩
  have HKS := Lib.hid hks; have HX1 := Lib.hid hx1; have HFD := Lib.hid (hf.bel hb0); have HED := Lib.hid he; have HZ0 := Lib.hid (show W0.heap.size = w.heap.size + 2 by rw [<- hW0]; simp); have HFC := Lib.hid hF; have HN := Lib.hid hn; have HZ := Lib.hid hz; have HB00 := Lib.hid hb0; have HST := Lib.hid hSt
  have HFN : Hid (F.length <= 1000) := by
   have : F.length <= 1000 := by omega
   exact Lib.hid this
  have HB0 := Lib.hid (Below.refl W0.heap.size W0)
  have HW0 := Lib.hid hW0
  clear h hf he hx0 hx1 hks hb0 hF hn hz hSt hnf hne hW0
  go_enter Tryz.func72, Tryz.ntmps72
  go_wp2_with fail
  rw [HW0.out]
  refine region_x 11 (fun w' : World => w'.cell? ⟨w.heap.size, 0, none⟩ = some (.slice FA nf fc) /\ w'.cell? ⟨w.heap.size, 1, none⟩ = some (.slice EA ne ec) /\ w'.cell? ⟨w.heap.size, 2, none⟩ = some (.int .i64 z)) (by kernel_rfl) ?_
  have hS := HKS.out _ (Below.refl _ _).drew
  refine tkx (i := 0) (v := ?_) hS ?_ ?_
  rotate_left
  ·rintro w' ⟨c0, c1, c2⟩
   go_simp
   try with_reducible rfl
  try simp only [Act.put, zq1, zq2, zq3, zq4, zq5, zq6]
  refine tkx (i := 1) (v := ?_) hS ?_ ?_
  rotate_left
  ·rintro w' ⟨c0, c1, c2⟩
   go_simp
   try with_reducible rfl
  try simp only [Act.put, zq1, zq2, zq3, zq4, zq5, zq6]
  refine tkx (i := 2) (v := ?_) hS ?_ ?_
  rotate_left
  ·rintro w' ⟨c0, c1, c2⟩
   go_simp
   try with_reducible rfl
  try simp only [Act.put, zq1, zq2, zq3, zq4, zq5, zq6]
  refine tkx (i := 4) (v := ?_) hS ?_ ?_
  rotate_left
  ·rintro w' ⟨c0, c1, c2⟩
   go_simp
   try with_reducible rfl
  try simp only [Act.put, zq1, zq2, zq3, zq4, zq5, zq6]
  refine tkx (i := 5) (v := ?_) hS ?_ ?_
  rotate_left
  ·rintro w' ⟨c0, c1, c2⟩
   go_simp
   try with_reducible rfl
  try simp only [Act.put, zq1, zq2, zq3, zq4, zq5, zq6]
  refine tkx (i := 6) (v := ?_) hS ?_ ?_
  rotate_left
  ·rintro w' ⟨c0, c1, c2⟩
   go_simp
   try with_reducible rfl
  try simp only [Act.put, zq1, zq2, zq3, zq4, zq5, zq6]
  refine tkx (i := 7) (v := ?_) hS ?_ ?_
  rotate_left
  ·rintro w' ⟨c0, c1, c2⟩
   go_simp
   try with_reducible rfl
  try simp only [Act.put, zq1, zq2, zq3, zq4, zq5, zq6]
  refine tkx (i := 8) (v := ?_) hS ?_ ?_
  rotate_left
  ·rintro w' ⟨c0, c1, c2⟩
   go_simp
   try with_reducible rfl
  try simp only [Act.put, zq1, zq2, zq3, zq4, zq5, zq6]
  refine anyX_g (i := 3) (by kernel_rfl) (by decide) rfl (by rfl) ?_
  intro K hK
  try simp only [zq1, zq2, zq3]
  refine wp_enterE #[.slice FA nf fc, .int .i64 n] Tryz.func108 (by kernel_rfl) (by kernel_rfl) ?_ (plus_any (HFD.out.bel (HB0.out.drew)) HFC.out n HN.out) ?_
  ·go_simp
  rintro e w1 ⟨v1, rfl, ho1, hb1⟩
  refine ⟨_, rfl, ?_⟩
  have hb01 := ((Below.refl W0.heap.size W0).drew).trans hb1
  have hS1 := HKS.out _ hb01
  obtain ⟨A1, c1', hv1, -, -, -⟩ := (ho1.doors (S := fun _ => True) (Nat.le_trans (plusD_len _ _) HFN.out) (fun _ _ _ => trivial)).form
  subst hv1
  refine hK _ _ hS1 ?_
  clear hK
  try simp only [Act.put, zq1, zq2, zq3, zq4, zq5, zq6]
  refine anyX_g (i := 9) (by kernel_rfl) (by decide) rfl (by rfl) ?_
  intro K hK
  try simp only [zq1, zq2, zq3]
  refine wp_enterE #[.int .i64 z, .int .i64 n] Tryz.func101 (by kernel_rfl) (by kernel_rfl) ?_ (sadd_any z n _ HZ.out HN.out) ?_
  ·go_simp
  rintro e w2 ⟨rfl, rfl⟩
  refine ⟨_, rfl, ?_⟩
  refine hK _ _ hS1 ?_
  clear hK
  try simp only [Act.put, zq1, zq2, zq3, zq4, zq5, zq6]
  refine tkx (i := 10) (v := ?_) hS1 ?_ ?_
  rotate_left
  ·rintro w' ⟨c0, c1, c2⟩
   go_simp
   try with_reducible rfl
  try simp only [Act.put, zq1, zq2, zq3, zq4, zq5, zq6]
  have hx1 := Blk.below HX1.out hb01 HX1.out.lt
  have r0 := Blk.cell hx1 0; have r1 := Blk.cell hx1 1; have r2 := Blk.cell hx1 2
  have fr0 := Blk.frozen hx1 0; have fr1 := Blk.frozen hx1 1; have fr2 := Blk.frozen hx1 2
  simp only [List.getElem?_toArray, List.getElem?_cons_zero, List.getElem?_cons_succ] at r0 r1 r2
  have HO1 := Lib.hid ho1; have HB01 := Lib.hid hb01
  clear hS hS1 ho1 hb01 hb1 hx1
  refine anyX_last (by kernel_rfl) (by kernel_rfl) rfl rfl ?_
  try simp only [zq1, zq2, zq3]
  go_simp
  try apply_assumption
  go_wp2_with fail
  have hz := HZ0.out
  have hbf := ((((HB00.out.trans (HB01.out.mono HB00.out.size)).setCell (p := ⟨w.heap.size + 1, 0, none⟩) (by simp) (.slice A1 (plusD F n).length c1')).setCell (p := ⟨w.heap.size + 1, 1, none⟩) (by simp) (.slice EA ne ec)).setCell (p := ⟨w.heap.size + 1, 2, none⟩) (by simp) (.int .i64 (plC z n)))
  have hof : OwnD _ W0.heap.size _ _ _ := ownsRow_setCell_below (ownsRow_setCell_below (ownsRow_setCell_below HO1.out (a := ⟨w.heap.size + 1, 0, none⟩) (by show w.heap.size + 1 < W0.heap.size; omega) (.slice A1 (plusD F n).length c1')) (a := ⟨w.heap.size + 1, 1, none⟩) (by show w.heap.size + 1 < W0.heap.size; omega) (.slice EA ne ec)) (a := ⟨w.heap.size + 1, 2, none⟩) (by show w.heap.size + 1 < W0.heap.size; omega) (.int .i64 (plC z n))
  exact bodyPost_ret (v := .agg #[.slice A1 (plusD F n).length c1', .slice EA ne ec, .int .i64 (plC z n)]) (by simp [results, Tryz.results72, go_sem, r0, r1, r2]) rfl ⟨_, rfl, ⟨_, _, rfl, OwnD.doors hof (Nat.le_trans (plusD_len _ _) HFN.out) (fun g h1 _ => HST.out g (Nat.le_trans (by omega) h1)), HED.out.bel hbf⟩, hbf⟩
theorem DoorsV.sub {w : World} {S0 S1 : Nat -> Prop} {v : Value} {l : List (Int × Int)} (h : DoorsV w S0 v l) (hS : ∀ g, S0 g -> S1 g) : DoorsV w S1 v l := h.keep (fun g hg _ => hS g hg) (fun _ _ _ _ _ hx => hx)
theorem DoorsV.frS {w w' : World} {B T : Nat} {sv : Value} {S0 : Nat -> Prop} {v : Value} {l : List (Int × Int)} (h : DoorsV w S0 v l) (hS : ∀ g, S0 g -> Left_ T sv g) (hf : FrM B T w w' sv sv) : DoorsV w' S0 v l :=
 h.keep (fun _ h _ => h) (fun g hg hlt i x hx => by rw [cell_of_heap (hf.keep g (hS g hg).1 hlt (hS g hg).2)]; exact hx)
theorem star_any {w : World} {B T b N : Nat} {sv : Value} {S : List Int} {cv : Value} {g0 o0 cc : Nat} {R : Nat -> Nat} {dv rv : Value} {M : Mat} (hm : MkAt w B T b N sv S cv g0 o0 cc R dv rv M) {S0 : Nat -> Prop} (hS0 : ∀ g, S0 g -> Left_ T sv g) {v : Value} {F E : List (Int × Int)} {z : Int} (h : PieceV w S0 v F E z) (hF : Doors N F) (hE : Doors N E) (hM : ∀ x y, CostC (M x y)) :
  Calls Tryz.prog 70 #[.pointer (some ⟨b, 0, none⟩), v] w fun e w' => ∃ v', e = .returned v' /\ PieceV w' S0 v' F E 0 /\ MkAt w' B T b N sv S cv g0 o0 cc R dv rv (linkM M E F) /\ FrM B T w w' sv sv := by
  obtain ⟨FA, fc, EA, ec, rfl, hf, he, f1, f2, f3, e1, e2, e3⟩ := h.parts
  obtain ⟨nf, hnf⟩ : ∃ n, F.length = n := ⟨_, rfl⟩
  obtain ⟨ne, hne⟩ : ∃ n, E.length = n := ⟨_, rfl⟩
  rw [hnf] at hf f1 f3 ⊢
  rw [hne] at he e1 e3 ⊢
  obtain ⟨W0, hW0⟩ : ∃ W0, (w.alloc (.cells #[.slice FA nf fc, .slice EA ne ec, .int .i64 z] 87)).alloc (.cells #[.slice none 0 0, .slice none 0 0, .int .i64 0] 87) = W0 := ⟨_, rfl⟩
  have hb0 : Below w.heap.size w W0 := by rw [<- hW0]; exact ((Below.refl _ _).alloc (Nat.le_refl _) _).alloc (by simp) _
  have hz0 : W0.heap.size = w.heap.size + 2 := by rw [<- hW0]; simp
  have hx0 : Blk W0 w.heap.size 87 #[.slice FA nf fc, .slice EA ne ec, .int .i64 z] := by rw [<- hW0]; exact Blk.alloc (Blk.new _ _ _) _
  have hx1 : Blk W0 (w.heap.size + 1) 87 #[.slice none 0 0, .slice none 0 0, .int .i64 0] := by
   rw [<- hW0]
   have := Blk.new (w.alloc (.cells #[.slice FA nf fc, .slice EA ne ec, .int .i64 z] 87)) 87 #[.slice none 0 0, .slice none 0 0, .int .i64 0]
   rwa [World.size_alloc] at this
  have hks : ∀ W : World, Below W0.heap.size W0 W -> (fun w' : World => w'.cell? ⟨w.heap.size, 0, none⟩ = some (.slice FA nf fc) /\ w'.cell? ⟨w.heap.size, 1, none⟩ = some (.slice EA ne ec) /\ w'.cell? ⟨w.heap.size, 2, none⟩ = some (.int .i64 z)) W := fun W hW => ⟨bel_q hW (Blk.cell hx0 0), bel_q hW (Blk.cell hx0 1), bel_q hW (Blk.cell hx0 2)⟩
  have htop := hm.top
  have hB := BB hm.bB hm.top
  have hfr0 : FrM B T w W0 sv sv := FrM.quiet hb0 htop hB
  have ho0 : ∀ G, w.heap.size <= G -> sv.ownBlock ≠ some G := fun G hG e => by have := (hm.sets.lt _ e).2; omega
  have hbd : Below W0.heap.size W0 W0.drew := (Below.refl _ _).drew
  have hlk := link_any ((hm.bel hb0).bel hbd) E F _ _ (((he.sub hS0).bel hb0).bel hbd) (((hf.sub hS0).bel hb0).bel hbd) hE hF hM
  have hfr1 : FrM B T w W0.drew sv sv := hfr0.trans (FrM.quiet hbd (Nat.le_trans htop (by omega)) (by omega))
  have HKS := Lib.hid hks; have HX0 := Lib.hid hx0; have HX1 := Lib.hid hx1; have HLK := Lib.hid hlk; have HF1 := Lib.hid hfr1; have HOW := Lib.hid ho0; have HT := Lib.hid htop; have HB := Lib.hid hB; have HFD := Lib.hid hf; have HED := Lib.hid he; have HZ0 := Lib.hid hz0; have HB00 := Lib.hid hb0
  have HW0 := Lib.hid hW0
  clear h hf he hx0 hx1 hks hb0 hF hE hM hm hlk hfr0 hfr1 ho0 htop hB hz0 hbd hnf hne hW0
  go_enter Tryz.func70, Tryz.ntmps70
  go_wp2_with fail
  rw [HW0.out]
  refine region_x 7 (fun w' : World => w'.cell? ⟨w.heap.size, 0, none⟩ = some (.slice FA nf fc) /\ w'.cell? ⟨w.heap.size, 1, none⟩ = some (.slice EA ne ec) /\ w'.cell? ⟨w.heap.size, 2, none⟩ = some (.int .i64 z)) (by kernel_rfl) ?_
  have hS := HKS.out _ (Below.refl _ _).drew
  refine tkg [1, 2] (i := 0) (v := ?_) hS ?_ ?_
  rotate_left
  ·rintro w' ⟨c0, c1, c2⟩
   go_simp
   try with_reducible rfl
  try simp only [Act.put, zq1, zq2, zq3, zq4, zq5, zq6]
  refine tkg [2] (i := 1) (v := ?_) hS ?_ ?_
  rotate_left
  ·rintro w' ⟨c0, c1, c2⟩
   go_simp
   try with_reducible rfl
  try simp only [Act.put, zq1, zq2, zq3, zq4, zq5, zq6]
  refine tkg [] (i := 2) (v := ?_) hS ?_ ?_
  rotate_left
  ·rintro w' ⟨c0, c1, c2⟩
   go_simp
   try with_reducible rfl
  try simp only [Act.put, zq1, zq2, zq3, zq4, zq5, zq6]
  refine tkg [4] (i := 3) (v := ?_) hS ?_ ?_
  rotate_left
  ·rintro w' ⟨c0, c1, c2⟩
   go_simp
   try with_reducible rfl
  try simp only [Act.put, zq1, zq2, zq3, zq4, zq5, zq6]
  refine tkg [] (i := 4) (v := ?_) hS ?_ ?_
  rotate_left
  ·rintro w' ⟨c0, c1, c2⟩
   go_simp
   try with_reducible rfl
  try simp only [Act.put, zq1, zq2, zq3, zq4, zq5, zq6]
  refine tkg [6] (i := 5) (v := ?_) hS ?_ ?_
  rotate_left
  ·rintro w' ⟨c0, c1, c2⟩
   go_simp
   try with_reducible rfl
  try simp only [Act.put, zq1, zq2, zq3, zq4, zq5, zq6]
  refine tkg [] (i := 6) (v := ?_) hS ?_ ?_
  rotate_left
  ·rintro w' ⟨c0, c1, c2⟩
   go_simp
   try with_reducible rfl
  try simp only [Act.put, zq1, zq2, zq3, zq4, zq5, zq6]
  clear hS
  refine anyX_last (by kernel_rfl) (by kernel_rfl) rfl rfl ?_
  try simp only [zq1, zq2, zq3]
  refine wp_enterE #[.pointer (some ⟨b, 0, none⟩), .slice EA ne ec, .slice FA nf fc] Tryz.func106 (by kernel_rfl) (by kernel_rfl) ?_ (HLK.out) ?_
  ·go_simp
  rintro e w1 ⟨rfl, hmk, hfr⟩
  refine ⟨_, rfl, ?_⟩
  have HMK := Lib.hid hmk; have HFR := Lib.hid hfr
  clear hmk hfr
  try simp only [Act.put, zq1, zq2, zq3, zq4, zq5, zq6]
  try apply_assumption
  have hk0 : w1.heap[w.heap.size]? = W0.heap[w.heap.size]? := HFR.out.keep _ HT.out (show w.heap.size < W0.heap.size by have := HZ0.out; omega) (HOW.out _ (Nat.le_refl _))
  have hk1 : w1.heap[w.heap.size + 1]? = W0.heap[w.heap.size + 1]? := HFR.out.keep _ (Nat.le_trans HT.out (by omega)) (show w.heap.size + 1 < W0.heap.size by have := HZ0.out; omega) (HOW.out _ (by omega))
  have hx0 : Blk w1 w.heap.size 87 #[.slice FA nf fc, .slice EA ne ec, .int .i64 z] := hk0.trans HX0.out
  have hx1 : Blk w1 (w.heap.size + 1) 87 #[.slice none 0 0, .slice none 0 0, .int .i64 0] := hk1.trans HX1.out
  have c0 := Blk.cell hx0 0; have c1 := Blk.cell hx0 1; have c2 := Blk.cell hx0 2
  have r0 := Blk.cell hx1 0; have r1 := Blk.cell hx1 1; have r2 := Blk.cell hx1 2
  have fr0 := Blk.frozen hx1 0; have fr1 := Blk.frozen hx1 1; have fr2 := Blk.frozen hx1 2
  simp only [List.getElem?_toArray, List.getElem?_cons_zero, List.getElem?_cons_succ] at c0 c1 c2 r0 r1 r2
  clear hk0 hk1 hx0 hx1
  go_wp2_with fail
  have hm := ((HMK.out.far (G := w.heap.size + 1) (Nat.le_trans HT.out (by omega)) (HOW.out _ (by omega)) (j := 0) (.slice FA nf fc)).far (G := w.heap.size + 1) (Nat.le_trans HT.out (by omega)) (HOW.out _ (by omega)) (j := 1) (.slice EA ne ec)).far (G := w.heap.size + 1) (Nat.le_trans HT.out (by omega)) (HOW.out _ (by omega)) (j := 2) (.int .i64 0)
  have hf := (((HF1.out.trans HFR.out).new HB.out (p := ⟨w.heap.size + 1, 0, none⟩) (by simp) (.slice FA nf fc)).new HB.out (p := ⟨w.heap.size + 1, 1, none⟩) (by simp) (.slice EA ne ec)).new HB.out (p := ⟨w.heap.size + 1, 2, none⟩) (by simp) (.int .i64 0)
  exact bodyPost_ret (v := .agg #[.slice FA nf fc, .slice EA ne ec, .int .i64 0]) (by simp [results, Tryz.results70, go_sem, r0, r1, r2]) rfl ⟨_, rfl, ⟨_, _, rfl, HFD.out.frS hS0 hf, HED.out.frS hS0 hf⟩, hm, hf⟩
end Go.Proofs.YtfccnadbiglagaaGreat
namespace Go.Proofs.YtfccnadbiglagaaGreat
open Go Go.RowKit Go.Proofs
theorem DoorsV_of {w : World} {B n : Nat} {v : Value} {l : List (Int × Int)} (h : OwnD w B v n l) (hn : l.length = n) (hl : l.length <= 1000) {S : Nat -> Prop} (hS : ∀ g, B <= g -> g < w.heap.size -> S g) : DoorsV w S v l :=
 OwnD.doors h hl hS
theorem row_any {w : World} {B T b N : Nat} {sv : Value} {S : List Int} {cv : Value} {g0 o0 cc : Nat} {R : Nat -> Nat} {dv rv : Value} {M : Mat} (hm : MkAt w B T b N sv S cv g0 o0 cc R dv rv M) {va vb : Value} {lFA lEA lFB lEB : List (Int × Int)} {za zb : Int} (ha : PieceV w (Left_ T sv) va lFA lEA za) (hb : PieceV w (Left_ T sv) vb lFB lEB zb)
  (hFB : Doors N lFB) (hEA : Doors N lEA) (hM : ∀ x y, CostC (M x y)) (hza : CostC za) (hzb : CostC zb) (hl1 : lFA.length + lFB.length <= 1000) (hl2 : lEA.length + lEB.length <= 1000) :
  Calls Tryz.prog 68 #[.pointer (some ⟨b, 0, none⟩), va, vb] w fun e w' => ∃ v', e = .returned v' /\ PieceV w' (fun g => w.heap.size <= g /\ Left_ T sv g) v' (lFA ++ plusD lFB za) (plusD lEA zb ++ lEB) (plC za zb) /\ MkAt w' B T b N sv S cv g0 o0 cc R dv rv (linkM M lEA lFB) /\ FrM B T w w' sv sv := by
  obtain ⟨FA, fc, EA, ec, rfl, hfa, hea, -, -, -, -, -, -⟩ := ha.parts
  obtain ⟨FB, gc, EB, hc, rfl, hfb, heb, -, -, -, -, -, -⟩ := hb.parts
  obtain ⟨nf, hnf⟩ : ∃ n, lFA.length = n := ⟨_, rfl⟩
  obtain ⟨ne, hne⟩ : ∃ n, lEA.length = n := ⟨_, rfl⟩
  obtain ⟨mf, hmf⟩ : ∃ n, lFB.length = n := ⟨_, rfl⟩
  obtain ⟨me, hme⟩ : ∃ n, lEB.length = n := ⟨_, rfl⟩
  rw [hnf] at hfa hl1 ⊢
  rw [hne] at hea hl2 ⊢
  rw [hmf] at hfb hl1 ⊢
  rw [hme] at heb hl2 ⊢
  have hHL1 : lFA.length + lFB.length <= 1000 := by omega
  have hHL2 : lEA.length + lEB.length <= 1000 := by omega
  obtain ⟨W0, hW0⟩ : ∃ W0, ((w.alloc (.cells #[.slice FA nf fc, .slice EA ne ec, .int .i64 za] 87)).alloc (.cells #[.slice FB mf gc, .slice EB me hc, .int .i64 zb] 87)).alloc (.cells #[.slice none 0 0, .slice none 0 0, .int .i64 0] 87) = W0 := ⟨_, rfl⟩
  have hb0 : Below w.heap.size w W0 := by rw [<- hW0]; exact (((Below.refl _ _).alloc (Nat.le_refl _) _).alloc (by simp) _).alloc (by simp; omega) _
  have hz0 : W0.heap.size = w.heap.size + 3 := by rw [<- hW0]; simp
  have hx0 : Blk W0 w.heap.size 87 #[.slice FA nf fc, .slice EA ne ec, .int .i64 za] := by rw [<- hW0]; exact Blk.alloc (Blk.alloc (Blk.new _ _ _) _) _
  have hx1 : Blk W0 (w.heap.size + 1) 87 #[.slice FB mf gc, .slice EB me hc, .int .i64 zb] := by
   rw [<- hW0]
   have := Blk.new (w.alloc (.cells #[.slice FA nf fc, .slice EA ne ec, .int .i64 za] 87)) 87 #[.slice FB mf gc, .slice EB me hc, .int .i64 zb]
   rw [World.size_alloc] at this
   exact Blk.alloc this _
  have hx2 : Blk W0 (w.heap.size + 1 + 1) 87 #[.slice none 0 0, .slice none 0 0, .int .i64 0] := by
   rw [<- hW0]
   have := Blk.new ((w.alloc (.cells #[.slice FA nf fc, .slice EA ne ec, .int .i64 za] 87)).alloc (.cells #[.slice FB mf gc, .slice EB me hc, .int .i64 zb] 87)) 87 #[.slice none 0 0, .slice none 0 0, .int .i64 0]
   rwa [World.size_alloc, World.size_alloc] at this
  have hks : ∀ W : World, Below W0.heap.size W0 W -> (fun w' : World => w'.cell? ⟨w.heap.size, 0, none⟩ = some (.slice FA nf fc) /\ w'.cell? ⟨w.heap.size, 1, none⟩ = some (.slice EA ne ec) /\ w'.cell? ⟨w.heap.size, 2, none⟩ = some (.int .i64 za) /\ w'.cell? ⟨w.heap.size + 1, 0, none⟩ = some (.slice FB mf gc) /\ w'.cell? ⟨w.heap.size + 1, 1, none⟩ = some (.slice EB me hc) /\ w'.cell? ⟨w.heap.size + 1, 2, none⟩ = some (.int .i64 zb)) W := fun W hW => ⟨bel_q hW (Blk.cell hx0 0), bel_q hW (Blk.cell hx0 1), bel_q hW (Blk.cell hx0 2), bel_q hW (Blk.cell hx1 0), bel_q hW (Blk.cell hx1 1), bel_q hW (Blk.cell hx1 2)⟩
  have htop := hm.top
  have hB := BB hm.bB hm.top
  have hfr0 : FrM B T w W0 sv sv := FrM.quiet hb0 htop hB
  have ho0 : ∀ G, w.heap.size <= G -> sv.ownBlock ≠ some G := fun G hG e => by have := (hm.sets.lt _ e).2; omega
  have hbd : Below W0.heap.size W0 W0.drew := (Below.refl _ _).drew
  have hlk := link_any ((hm.bel hb0).bel hbd) lEA lFB _ _ ((hea.bel hb0).bel hbd) ((hfb.bel hb0).bel hbd) hEA hFB hM
  have hfr1 : FrM B T w W0.drew sv sv := hfr0.trans (FrM.quiet hbd (Nat.le_trans htop (by omega)) (by omega))
  have HKS := Lib.hid hks; have HX0 := Lib.hid hx0; have HX1 := Lib.hid hx1; have HX2 := Lib.hid hx2; have HLK := Lib.hid hlk; have HF1 := Lib.hid hfr1; have HOW := Lib.hid ho0; have HT := Lib.hid htop; have HB := Lib.hid hB; have HFA := Lib.hid hfa; have HEA := Lib.hid hea; have HFB := Lib.hid hfb; have HEB := Lib.hid heb; have HZ0 := Lib.hid hz0
  have HW0 := Lib.hid hW0; have HZA := Lib.hid hza; have HZB := Lib.hid hzb; have HL1 := Lib.hid hHL1; have HL2 := Lib.hid hHL2
  have HCB : Hid (∀ d ∈ lFB, CostC d.2) := Lib.hid fun d hd => (hFB d hd).2
  have HCA : Hid (∀ d ∈ lEA, CostC d.2) := Lib.hid fun d hd => (hEA d hd).2
  clear ha hb hfa hea hfb heb hx0 hx1 hx2 hks hb0 hFB hEA hM hm hlk hfr0 hfr1 ho0 htop hB hz0 hbd hnf hne hmf hme hW0 hza hzb hl1 hl2 hHL1 hHL2
  go_enter Tryz.func68, Tryz.ntmps68
  go_wp2_with fail
  rw [HW0.out]
  refine region_x 7 (fun w' : World => w'.cell? ⟨w.heap.size, 0, none⟩ = some (.slice FA nf fc) /\ w'.cell? ⟨w.heap.size, 1, none⟩ = some (.slice EA ne ec) /\ w'.cell? ⟨w.heap.size, 2, none⟩ = some (.int .i64 za) /\ w'.cell? ⟨w.heap.size + 1, 0, none⟩ = some (.slice FB mf gc) /\ w'.cell? ⟨w.heap.size + 1, 1, none⟩ = some (.slice EB me hc) /\ w'.cell? ⟨w.heap.size + 1, 2, none⟩ = some (.int .i64 zb)) (by kernel_rfl) ?_
  have hS := HKS.out _ (Below.refl _ _).drew
  refine tkg [1, 2] (i := 0) (v := ?_) hS ?_ ?_
  rotate_left
  ·rintro w' ⟨c0, c1, c2, d0, d1, d2⟩
   go_simp
   try with_reducible rfl
  try simp only [Act.put, zq1, zq2, zq3, zq4, zq5, zq6]
  refine tkg [2] (i := 1) (v := ?_) hS ?_ ?_
  rotate_left
  ·rintro w' ⟨c0, c1, c2, d0, d1, d2⟩
   go_simp
   try with_reducible rfl
  try simp only [Act.put, zq1, zq2, zq3, zq4, zq5, zq6]
  refine tkg [] (i := 2) (v := ?_) hS ?_ ?_
  rotate_left
  ·rintro w' ⟨c0, c1, c2, d0, d1, d2⟩
   go_simp
   try with_reducible rfl
  try simp only [Act.put, zq1, zq2, zq3, zq4, zq5, zq6]
  refine tkg [4] (i := 3) (v := ?_) hS ?_ ?_
  rotate_left
  ·rintro w' ⟨c0, c1, c2, d0, d1, d2⟩
   go_simp
   try with_reducible rfl
  try simp only [Act.put, zq1, zq2, zq3, zq4, zq5, zq6]
  refine tkg [] (i := 4) (v := ?_) hS ?_ ?_
  rotate_left
  ·rintro w' ⟨c0, c1, c2, d0, d1, d2⟩
   go_simp
   try with_reducible rfl
  try simp only [Act.put, zq1, zq2, zq3, zq4, zq5, zq6]
  refine tkg [6] (i := 5) (v := ?_) hS ?_ ?_
  rotate_left
  ·rintro w' ⟨c0, c1, c2, d0, d1, d2⟩
   go_simp
   try with_reducible rfl
  try simp only [Act.put, zq1, zq2, zq3, zq4, zq5, zq6]
  refine tkg [] (i := 6) (v := ?_) hS ?_ ?_
  rotate_left
  ·rintro w' ⟨c0, c1, c2, d0, d1, d2⟩
   go_simp
   try with_reducible rfl
  try simp only [Act.put, zq1, zq2, zq3, zq4, zq5, zq6]
  clear hS
  refine anyX_last (by kernel_rfl) (by kernel_rfl) rfl rfl ?_
  try simp only [zq1, zq2, zq3]
  refine wp_enterE #[.pointer (some ⟨b, 0, none⟩), .slice EA ne ec, .slice FB mf gc] Tryz.func106 (by kernel_rfl) (by kernel_rfl) ?_ (HLK.out) ?_
  ·go_simp
  rintro e w1 ⟨rfl, hmk, hfr⟩
  refine ⟨_, rfl, ?_⟩
  have HMK := Lib.hid hmk; have HFR := Lib.hid hfr
  clear hmk hfr
  try simp only [Act.put, zq1, zq2, zq3, zq4, zq5, zq6]
  try apply_assumption
  have hlt0 : w.heap.size < W0.heap.size /\ w.heap.size + 1 < W0.heap.size /\ w.heap.size + 1 + 1 < W0.heap.size := by have := HZ0.out; omega
  have hk0 : w1.heap[w.heap.size]? = W0.heap[w.heap.size]? := HFR.out.keep _ HT.out hlt0.1 (HOW.out _ (Nat.le_refl _))
  have hk1 : w1.heap[w.heap.size + 1]? = W0.heap[w.heap.size + 1]? := HFR.out.keep _ (Nat.le_trans HT.out (by omega)) hlt0.2.1 (HOW.out _ (by omega))
  have hk2 : w1.heap[w.heap.size + 1 + 1]? = W0.heap[w.heap.size + 1 + 1]? := HFR.out.keep _ (Nat.le_trans HT.out (by omega)) hlt0.2.2 (HOW.out _ (by omega))
  have hx0 : Blk w1 w.heap.size 87 #[.slice FA nf fc, .slice EA ne ec, .int .i64 za] := hk0.trans HX0.out
  have hx1 : Blk w1 (w.heap.size + 1) 87 #[.slice FB mf gc, .slice EB me hc, .int .i64 zb] := hk1.trans HX1.out
  have hx2 : Blk w1 (w.heap.size + 1 + 1) 87 #[.slice none 0 0, .slice none 0 0, .int .i64 0] := hk2.trans HX2.out
  have hsz : w.heap.size + 3 <= w1.heap.size := by have := HZ0.out; have := HFR.out.size; simp at this; omega
  have hkt : ∀ W : World, Below w1.heap.size w1 W -> (fun w' : World => w'.cell? ⟨w.heap.size, 0, none⟩ = some (.slice FA nf fc) /\ w'.cell? ⟨w.heap.size, 1, none⟩ = some (.slice EA ne ec) /\ w'.cell? ⟨w.heap.size, 2, none⟩ = some (.int .i64 za) /\ w'.cell? ⟨w.heap.size + 1, 0, none⟩ = some (.slice FB mf gc) /\ w'.cell? ⟨w.heap.size + 1, 1, none⟩ = some (.slice EB me hc) /\ w'.cell? ⟨w.heap.size + 1, 2, none⟩ = some (.int .i64 zb)) W := fun W hW => ⟨bel_q hW (Blk.cell hx0 0), bel_q hW (Blk.cell hx0 1), bel_q hW (Blk.cell hx0 2), bel_q hW (Blk.cell hx1 0), bel_q hW (Blk.cell hx1 1), bel_q hW (Blk.cell hx1 2)⟩
  have hfw : FrM B T w w1 sv sv := HF1.out.trans HFR.out
  have HFW := Lib.hid hfw; have HKT := Lib.hid hkt; have HSZ := Lib.hid hsz; have HXR := Lib.hid hx2
  have HFA1 := Lib.hid (HFA.out.fr hfw); have HEA1 := Lib.hid (HEA.out.fr hfw); have HFB1 := Lib.hid (HFB.out.fr hfw); have HEB1 := Lib.hid (HEB.out.fr hfw)
  have hlf : ∀ g, w1.heap.size <= g -> Left_ T sv g := fun g hg => ⟨by have := HT.out; omega, HOW.out g (by omega)⟩
  have hle1 : (lFA ++ plusD lFB za).length <= 1000 := by have := HL1.out; have := plusD_len lFB za; simp; omega
  have hle2 : (plusD lEA zb ++ lEB).length <= 1000 := by have := HL2.out; have := plusD_len lEA zb; simp; omega
  have HLF := Lib.hid hlf; have LE1 := Lib.hid hle1; have LE2 := Lib.hid hle2
  clear hlf hle1 hle2
  have HBD := Lib.hid ((Below.refl w1.heap.size w1).drew)
  clear hlt0 hk0 hk1 hk2 hx0 hx1 hx2 hsz hkt hfw HFA HEA HFB HEB HX0 HX1 HX2 HKS
  go_wp2_with fail
  refine region_x 24 (fun w' : World => w'.cell? ⟨w.heap.size, 0, none⟩ = some (.slice FA nf fc) /\ w'.cell? ⟨w.heap.size, 1, none⟩ = some (.slice EA ne ec) /\ w'.cell? ⟨w.heap.size, 2, none⟩ = some (.int .i64 za) /\ w'.cell? ⟨w.heap.size + 1, 0, none⟩ = some (.slice FB mf gc) /\ w'.cell? ⟨w.heap.size + 1, 1, none⟩ = some (.slice EB me hc) /\ w'.cell? ⟨w.heap.size + 1, 2, none⟩ = some (.int .i64 zb)) (by kernel_rfl) ?_
  have hS := HKT.out _ (Below.refl _ _).drew
  refine tkx (i := 0) (v := ?_) hS ?_ ?_
  rotate_left
  ·rintro w' ⟨c0, c1, c2, d0, d1, d2⟩
   go_simp
   try with_reducible rfl
  try simp only [Act.put, zq1, zq2, zq3, zq4, zq5, zq6]
  refine tkx (i := 1) (v := ?_) hS ?_ ?_
  rotate_left
  ·rintro w' ⟨c0, c1, c2, d0, d1, d2⟩
   go_simp
   try with_reducible rfl
  try simp only [Act.put, zq1, zq2, zq3, zq4, zq5, zq6]
  refine tkx (i := 2) (v := ?_) hS ?_ ?_
  rotate_left
  ·rintro w' ⟨c0, c1, c2, d0, d1, d2⟩
   go_simp
   try with_reducible rfl
  try simp only [Act.put, zq1, zq2, zq3, zq4, zq5, zq6]
  refine tkx (i := 3) (v := ?_) hS ?_ ?_
  rotate_left
  ·rintro w' ⟨c0, c1, c2, d0, d1, d2⟩
   go_simp
   try with_reducible rfl
  try simp only [Act.put, zq1, zq2, zq3, zq4, zq5, zq6]
  refine tkx (i := 4) (v := ?_) hS ?_ ?_
  rotate_left
  ·rintro w' ⟨c0, c1, c2, d0, d1, d2⟩
   go_simp
   try with_reducible rfl
  try simp only [Act.put, zq1, zq2, zq3, zq4, zq5, zq6]
  refine tkx (i := 5) (v := ?_) hS ?_ ?_
  rotate_left
  ·rintro w' ⟨c0, c1, c2, d0, d1, d2⟩
   go_simp
   try with_reducible rfl
  try simp only [Act.put, zq1, zq2, zq3, zq4, zq5, zq6]
  refine tkx (i := 9) (v := ?_) hS ?_ ?_
  rotate_left
  ·rintro w' ⟨c0, c1, c2, d0, d1, d2⟩
   go_simp
   try with_reducible rfl
  try simp only [Act.put, zq1, zq2, zq3, zq4, zq5, zq6]
  refine tkx (i := 10) (v := ?_) hS ?_ ?_
  rotate_left
  ·rintro w' ⟨c0, c1, c2, d0, d1, d2⟩
   go_simp
   try with_reducible rfl
  try simp only [Act.put, zq1, zq2, zq3, zq4, zq5, zq6]
  refine tkx (i := 11) (v := ?_) hS ?_ ?_
  rotate_left
  ·rintro w' ⟨c0, c1, c2, d0, d1, d2⟩
   go_simp
   try with_reducible rfl
  try simp only [Act.put, zq1, zq2, zq3, zq4, zq5, zq6]
  refine tkx (i := 12) (v := ?_) hS ?_ ?_
  rotate_left
  ·rintro w' ⟨c0, c1, c2, d0, d1, d2⟩
   go_simp
   try with_reducible rfl
  try simp only [Act.put, zq1, zq2, zq3, zq4, zq5, zq6]
  refine tkx (i := 14) (v := ?_) hS ?_ ?_
  rotate_left
  ·rintro w' ⟨c0, c1, c2, d0, d1, d2⟩
   go_simp
   try with_reducible rfl
  try simp only [Act.put, zq1, zq2, zq3, zq4, zq5, zq6]
  refine tkx (i := 15) (v := ?_) hS ?_ ?_
  rotate_left
  ·rintro w' ⟨c0, c1, c2, d0, d1, d2⟩
   go_simp
   try with_reducible rfl
  try simp only [Act.put, zq1, zq2, zq3, zq4, zq5, zq6]
  refine tkx (i := 18) (v := ?_) hS ?_ ?_
  rotate_left
  ·rintro w' ⟨c0, c1, c2, d0, d1, d2⟩
   go_simp
   try with_reducible rfl
  try simp only [Act.put, zq1, zq2, zq3, zq4, zq5, zq6]
  refine tkx (i := 19) (v := ?_) hS ?_ ?_
  rotate_left
  ·rintro w' ⟨c0, c1, c2, d0, d1, d2⟩
   go_simp
   try with_reducible rfl
  try simp only [Act.put, zq1, zq2, zq3, zq4, zq5, zq6]
  refine tkx (i := 20) (v := ?_) hS ?_ ?_
  rotate_left
  ·rintro w' ⟨c0, c1, c2, d0, d1, d2⟩
   go_simp
   try with_reducible rfl
  try simp only [Act.put, zq1, zq2, zq3, zq4, zq5, zq6]
  refine tkx (i := 21) (v := ?_) hS ?_ ?_
  rotate_left
  ·rintro w' ⟨c0, c1, c2, d0, d1, d2⟩
   go_simp
   try with_reducible rfl
  try simp only [Act.put, zq1, zq2, zq3, zq4, zq5, zq6]
  refine anyX_g (i := 6) (by kernel_rfl) (by decide) rfl (by rfl) ?_
  intro K hK
  try simp only [zq1, zq2, zq3]
  refine wp_enterE #[.slice FB mf gc, .int .i64 za] Tryz.func108 (by kernel_rfl) (by kernel_rfl) ?_ (plus_any (HFB1.out.bel HBD.out) HCB.out za HZA.out) ?_
  ·go_simp
  rintro e w2 ⟨v2, rfl, ho2, hb2⟩
  refine ⟨_, rfl, ?_⟩
  have hb12 := HBD.out.trans hb2
  have hS2 := HKT.out _ hb12
  obtain ⟨A1, k1, hv, -, -, -⟩ := (ho2.doors (S := fun _ => True) (Nat.le_trans (plusD_len _ _) (Nat.le_trans (Nat.le_add_left _ _) HL1.out)) (fun _ _ _ => trivial)).form
  subst hv
  obtain ⟨n1, hn⟩ : ∃ n, (plusD lFB za).length = n := ⟨_, rfl⟩
  rw [hn] at ho2 ⊢
  have HN1 := Lib.hid hn
  clear hn
  refine hK _ _ hS2 ?_
  clear hK
  try simp only [Act.put, zq1, zq2, zq3, zq4, zq5, zq6]
  refine anyX_g (i := 7) (by kernel_rfl) (by decide) rfl (by rfl) ?_
  intro K hK
  try simp only [zq1, zq2, zq3]
  go_simp
  obtain ⟨w3, hw⟩ : ∃ W, w2.alloc (.cells #[.slice FA nf fc, .slice A1 n1 k1] 85) = W := ⟨_, rfl⟩
  rw [hw]
  have hb13 : Below w1.heap.size w1 w3 := by rw [<- hw]; exact hb12.alloc hb12.size _
  have hS3 := HKT.out _ hb13
  have ho3 := ho2.alloc (.cells #[.slice FA nf fc, .slice A1 n1 k1] 85)
  rw [hw] at ho3
  have hx3 : Blk w3 w2.heap.size 85 #[.slice FA nf fc, .slice A1 n1 k1] := by rw [<- hw]; exact Blk.new _ _ _
  clear hw
  refine hK _ _ hS3 ?_
  clear hK
  try simp only [Act.put, zq1, zq2, zq3, zq4, zq5, zq6]
  refine anyX_g (i := 8) (by kernel_rfl) (by decide) rfl (by rfl) ?_
  intro K hK
  try simp only [zq1, zq2, zq3]
  refine wp_enterE #[.slice (some ⟨w2.heap.size, 0, none⟩) 2 2] Tryz.func107 (by kernel_rfl) (by kernel_rfl) ?_ (concat2 (HFA1.out.bel hb13) (DoorsV_of ho3 HN1.out (Nat.le_trans (plusD_len _ _) (Nat.le_trans (Nat.le_add_left _ _) HL1.out)) (fun g h1 _ => HLF.out g h1)) w2.heap.size (Blk.cell hx3 0) (Blk.cell hx3 1)) ?_
  ·go_simp
  rintro e w4 ⟨v4, rfl, ho4, hb4⟩
  refine ⟨_, rfl, ?_⟩
  have hb14 := hb13.trans (hb4.mono hb13.size)
  have hS4 := HKT.out _ hb14
  have HS3 := Lib.hid hb13.size
  obtain ⟨A4, k4, hv, -, -, -⟩ := (ho4.doors (S := fun _ => True) LE1.out (fun _ _ _ => trivial)).form
  subst hv
  obtain ⟨n4, hn⟩ : ∃ n, (lFA ++ plusD lFB za).length = n := ⟨_, rfl⟩
  rw [hn] at ho4 ⊢
  have HN4 := Lib.hid hn
  clear hn
  have HO4 := Lib.hid ho4
  clear ho4
  refine hK _ _ hS4 ?_
  clear hK
  try simp only [Act.put, zq1, zq2, zq3, zq4, zq5, zq6]
  refine anyX_g (i := 13) (by kernel_rfl) (by decide) rfl (by rfl) ?_
  intro K hK
  try simp only [zq1, zq2, zq3]
  refine wp_enterE #[.slice EA ne ec, .int .i64 zb] Tryz.func108 (by kernel_rfl) (by kernel_rfl) ?_ (plus_any (HEA1.out.bel hb14) HCA.out zb HZB.out) ?_
  ·go_simp
  rintro e w5 ⟨v5, rfl, ho5, hb5⟩
  refine ⟨_, rfl, ?_⟩
  have hb15 := hb14.trans (hb5.mono hb14.size)
  have hb45 := hb5
  have hS5 := HKT.out _ hb15
  obtain ⟨A5, k5, hv, -, -, -⟩ := (ho5.doors (S := fun _ => True) (Nat.le_trans (plusD_len _ _) (Nat.le_trans (Nat.le_add_right _ _) HL2.out)) (fun _ _ _ => trivial)).form
  subst hv
  obtain ⟨n5, hn⟩ : ∃ n, (plusD lEA zb).length = n := ⟨_, rfl⟩
  rw [hn] at ho5 ⊢
  have HN5 := Lib.hid hn
  clear hn
  refine hK _ _ hS5 ?_
  clear hK
  try simp only [Act.put, zq1, zq2, zq3, zq4, zq5, zq6]
  refine anyX_g (i := 16) (by kernel_rfl) (by decide) rfl (by rfl) ?_
  intro K hK
  try simp only [zq1, zq2, zq3]
  go_simp
  obtain ⟨w6, hw⟩ : ∃ W, w5.alloc (.cells #[.slice A5 n5 k5, .slice EB me hc] 85) = W := ⟨_, rfl⟩
  rw [hw]
  have hb16 : Below w1.heap.size w1 w6 := by rw [<- hw]; exact hb15.alloc hb15.size _
  have hS6 := HKT.out _ hb16
  have ho6 := ho5.alloc (.cells #[.slice A5 n5 k5, .slice EB me hc] 85)
  rw [hw] at ho6
  have hx6 : Blk w6 w5.heap.size 85 #[.slice A5 n5 k5, .slice EB me hc] := by rw [<- hw]; exact Blk.new _ _ _
  have hb46 : Below w4.heap.size w4 w6 := by rw [<- hw]; exact hb45.alloc hb45.size _
  clear hw
  refine hK _ _ hS6 ?_
  clear hK
  try simp only [Act.put, zq1, zq2, zq3, zq4, zq5, zq6]
  refine anyX_g (i := 17) (by kernel_rfl) (by decide) rfl (by rfl) ?_
  intro K hK
  try simp only [zq1, zq2, zq3]
  refine wp_enterE #[.slice (some ⟨w5.heap.size, 0, none⟩) 2 2] Tryz.func107 (by kernel_rfl) (by kernel_rfl) ?_ (concat2 (DoorsV_of ho6 HN5.out (Nat.le_trans (plusD_len _ _) (Nat.le_trans (Nat.le_add_right _ _) HL2.out)) (fun g h1 _ => HLF.out g (Nat.le_trans hb14.size h1))) (HEB1.out.bel hb16) w5.heap.size (Blk.cell hx6 0) (Blk.cell hx6 1)) ?_
  ·go_simp
  rintro e w7 ⟨v7, rfl, ho7, hb7⟩
  refine ⟨_, rfl, ?_⟩
  have hb17 := hb16.trans (hb7.mono hb16.size)
  have hb47 := hb46.trans (hb7.mono hb46.size)
  have hS7 := HKT.out _ hb17
  have HS6 := Lib.hid hb16.size
  obtain ⟨A7, k7, hv, -, -, -⟩ := (ho7.doors (S := fun _ => True) LE2.out (fun _ _ _ => trivial)).form
  subst hv
  obtain ⟨n7, hn⟩ : ∃ n, (plusD lEA zb ++ lEB).length = n := ⟨_, rfl⟩
  rw [hn] at ho7 ⊢
  have HN7 := Lib.hid hn
  clear hn
  have HO7 := Lib.hid ho7
  clear ho7
  refine hK _ _ hS7 ?_
  clear hK
  try simp only [Act.put, zq1, zq2, zq3, zq4, zq5, zq6]
  refine anyX_g (i := 22) (by kernel_rfl) (by decide) rfl (by rfl) ?_
  intro K hK
  try simp only [zq1, zq2, zq3]
  refine wp_enterE #[.int .i64 za, .int .i64 zb] Tryz.func101 (by kernel_rfl) (by kernel_rfl) ?_ (sadd_any za zb _ HZA.out HZB.out) ?_
  ·go_simp
  rintro e w8 ⟨rfl, rfl⟩
  refine ⟨_, rfl, ?_⟩
  refine hK _ _ hS7 ?_
  clear hK
  try simp only [Act.put, zq1, zq2, zq3, zq4, zq5, zq6]
  refine tkx (i := 23) (v := ?_) hS7 ?_ ?_
  rotate_left
  ·rintro w' ⟨c0, c1, c2, d0, d1, d2⟩
   go_simp
   try with_reducible rfl
  try simp only [Act.put, zq1, zq2, zq3, zq4, zq5, zq6]
  have hxr := Blk.below HXR.out hb17 HXR.out.lt
  have r0 := Blk.cell hxr 0; have r1 := Blk.cell hxr 1; have r2 := Blk.cell hxr 2
  have fr0 := Blk.frozen hxr 0; have fr1 := Blk.frozen hxr 1; have fr2 := Blk.frozen hxr 2
  simp only [List.getElem?_toArray, List.getElem?_cons_zero, List.getElem?_cons_succ] at r0 r1 r2
  have HB17 := Lib.hid hb17; have HB47 := Lib.hid hb47
  clear hS hS2 hS3 hS4 hS5 hS6 hS7 ho2 ho3 ho5 ho6 hx3 hx6 hxr hb12 hb13 hb14 hb15 hb16 hb17 hb45 hb46 hb47 hb2 hb4 hb5 hb7
  refine anyX_last (by kernel_rfl) (by kernel_rfl) rfl rfl ?_
  try simp only [zq1, zq2, zq3]
  go_simp
  try apply_assumption
  go_wp2_with fail
  have hm0 := HMK.out.bel HB17.out
  have hsz := HSZ.out
  have hs7 := HB17.out.size
  have hg : T <= w.heap.size + 1 + 1 := Nat.le_trans HT.out (by omega)
  have hoo := HOW.out (w.heap.size + 1 + 1) (by omega)
  have hm := ((hm0.far hg hoo (j := 0) (.slice A4 n4 k4)).far hg hoo (j := 1) (.slice A7 n7 k7)).far hg hoo (j := 2) (.int .i64 (plC za zb))
  have hf0 : FrM B T w w7 sv sv := HFW.out.trans (FrM.quiet HB17.out (Nat.le_trans HT.out (by omega)) (Nat.le_trans HB.out (by omega)))
  have hf := ((hf0.new HB.out (p := ⟨w.heap.size + 1 + 1, 0, none⟩) (by simp; omega) (.slice A4 n4 k4)).new HB.out (p := ⟨w.heap.size + 1 + 1, 1, none⟩) (by simp; omega) (.slice A7 n7 k7)).new HB.out (p := ⟨w.heap.size + 1 + 1, 2, none⟩) (by simp; omega) (.int .i64 (plC za zb))
  have hq3 : w.heap.size + 1 + 1 < w3.heap.size := by have := HS3.out; omega
  have hq6 : w.heap.size + 1 + 1 < w6.heap.size := by have := HS6.out; omega
  have ho4 := (ownsRow_setCell_below (ownsRow_setCell_below (ownsRow_setCell_below (HO4.out.below_top HB47.out) (a := ⟨w.heap.size + 1 + 1, 0, none⟩) hq3 (.slice A4 n4 k4)) (a := ⟨w.heap.size + 1 + 1, 1, none⟩) hq3 (.slice A7 n7 k7)) (a := ⟨w.heap.size + 1 + 1, 2, none⟩) hq3 (.int .i64 (plC za zb)))
  have ho7 := (ownsRow_setCell_below (ownsRow_setCell_below (ownsRow_setCell_below (HO7.out) (a := ⟨w.heap.size + 1 + 1, 0, none⟩) hq6 (.slice A4 n4 k4)) (a := ⟨w.heap.size + 1 + 1, 1, none⟩) hq6 (.slice A7 n7 k7)) (a := ⟨w.heap.size + 1 + 1, 2, none⟩) hq6 (.int .i64 (plC za zb)))
  exact bodyPost_ret (v := .agg #[.slice A4 n4 k4, .slice A7 n7 k7, .int .i64 (plC za zb)]) (by simp [results, Tryz.results68, go_sem, r0, r1, r2]) rfl ⟨_, rfl, ⟨_, _, rfl, OwnD.doors ho4 LE1.out (fun g h1 _ => ⟨by have := HS3.out; omega, HLF.out g (Nat.le_trans HS3.out h1)⟩), OwnD.doors ho7 LE2.out (fun g h1 _ => ⟨by have := HS6.out; omega, HLF.out g (Nat.le_trans HS6.out h1)⟩)⟩, hm, hf⟩
end Go.Proofs.YtfccnadbiglagaaGreat
