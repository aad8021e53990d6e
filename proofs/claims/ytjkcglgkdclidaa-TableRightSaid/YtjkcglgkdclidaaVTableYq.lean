/- The reference's Same. The law's opening test. Laws of chapter 12: what they share; TableSums. -/
import Derived.Test.YtjkcglgkdclidaaVTableYn
import Derived.Test.YtjkcglgkdclidaaVIsRow
set_option linter.unusedVariables false
set_option linter.unusedSimpArgs false
set_option maxRecDepth 100000
set_option maxHeartbeats 8000000
namespace Go.Proofs.Ytjkcglgkdclidaa
open Go Go.RowKit Go.Proofs
theorem run_convB {w : World} {B : Nat} {v : Value} {l : List Int} (h : BRow w B v l) : (convert 34 9 v).run Try.prog w = .ok (.string (strOfNums l)) w := by
 have hlen := OwnE.len h encB_len (by decide)
 rcases OwnE.form h encB_len (by decide) with ⟨rfl, -, rfl⟩ | ⟨g, cap, rfl, -, -, -, -, hc⟩
 ·exact run_convert_bytes_nil w 34 5 Try.underlying34 Try.underlying5 0 0 _ Try.underlying9
 ·refine run_convert_bytes_arg w 34 5 Try.underlying34 Try.underlying5 g 0 _ cap l rfl (fun i hi => ?_) _ Try.underlying9
  have h2 := hc i _ (List.getElem?_eq_getElem hi) 0 _ rfl
  rw [Nat.mul_one, Nat.add_zero] at h2
  rw [h2]
  simp [List.getD, List.getElem?_eq_getElem hi]
theorem strL_inj {a b : List Int} (ha : ∀ x ∈ a, ByteI x) (hb : ∀ x ∈ b, ByteI x) : ((strOfNums a).toList == (strOfNums b).toList) = true ↔ a = b := by
 rw [beq_iff_eq, ByteArray.toList_eq, ByteArray.toList_eq]
 constructor
 ·intro h
  exact bytes_inj ha hb h
 ·rintro rfl; rfl
theorem wp_convB {w : World} {o : Oper} {a : Act} {K : Act -> World -> Prop} {Q : Exit -> Act -> World -> Prop} (hgd : o.guard = none) (x : Operand) (ho : o.op = .convert 34 9 x)
  (v : Value) (hx : a.eval x = v) {B : Nat} {l : List Int} (h : BRow w B v l) (hK : K (a.put o.dst (.string (strOfNums l))) w) : Oper.wp Try.prog o a w K Q := by
  have hr := run_convB h
  unfold Oper.wp execOp
  simp only [ho, Sem.run_bind, Sem.run_pure, Result.andThen_ok, hx, hr]
  exact hK
theorem rsame_any {w : World} {ac al abn abo afn afe bc bl bbn bbo bfn bfe : Value} {t u : Tab} (ht : TabR w ac al abn abo afn afe t) (hu : TabR w bc bl bbn bbo bfn bfe u) (hi : IntsT t) (hj : IntsT u) (hlen : (enT t).length <= 1000000) (hlen2 : (enT u).length <= 1000000) {r : Bool} (hr : r = true ↔ saveT t = saveT u) :
  Calls Try.prog 18 #[.agg #[ac, al, abn, abo, afn, afe], .agg #[bc, bl, bbn, bbo, bfn, bfe]] w fun e w' => e = .returned (.bool r) /\ Below w.heap.size w w' := by
  obtain ⟨Ca, c1a, rfl, -, -, -⟩ := ht.c.form
  obtain ⟨La, c2a, rfl, -, -, -⟩ := ht.l.form
  obtain ⟨Ma, c3a, e1, -, -⟩ := ht.bn.form
  obtain ⟨Oa, c4a, rfl, -, -, -⟩ := ht.bo.form
  obtain ⟨Fa, c5a, e2, -, -⟩ := ht.fn.form
  obtain ⟨Ea, c6a, e3, -, -⟩ := ht.fe.form
  subst e1 e2 e3
  obtain ⟨n1a, k1a⟩ : ∃ n, t.cuts.length = n := ⟨_, rfl⟩
  obtain ⟨n2a, k2a⟩ : ∃ n, t.letters.length = n := ⟨_, rfl⟩
  obtain ⟨n3a, k3a⟩ : ∃ n, t.bn.length = n := ⟨_, rfl⟩
  obtain ⟨n4a, k4a⟩ : ∃ n, t.bo.length = n := ⟨_, rfl⟩
  obtain ⟨n5a, k5a⟩ : ∃ n, t.fn.length = n := ⟨_, rfl⟩
  obtain ⟨n6a, k6a⟩ : ∃ n, t.fe.length = n := ⟨_, rfl⟩
  rw [k1a, k2a, k3a, k4a, k5a, k6a] at ht ⊢
  clear k1a k2a k3a k4a k5a k6a
  obtain ⟨Cb, c1b, rfl, -, -, -⟩ := hu.c.form
  obtain ⟨Lb, c2b, rfl, -, -, -⟩ := hu.l.form
  obtain ⟨Mb, c3b, e1, -, -⟩ := hu.bn.form
  obtain ⟨Ob, c4b, rfl, -, -, -⟩ := hu.bo.form
  obtain ⟨Fb, c5b, e2, -, -⟩ := hu.fn.form
  obtain ⟨Eb, c6b, e3, -, -⟩ := hu.fe.form
  subst e1 e2 e3
  obtain ⟨n1b, k1b⟩ : ∃ n, u.cuts.length = n := ⟨_, rfl⟩
  obtain ⟨n2b, k2b⟩ : ∃ n, u.letters.length = n := ⟨_, rfl⟩
  obtain ⟨n3b, k3b⟩ : ∃ n, u.bn.length = n := ⟨_, rfl⟩
  obtain ⟨n4b, k4b⟩ : ∃ n, u.bo.length = n := ⟨_, rfl⟩
  obtain ⟨n5b, k5b⟩ : ∃ n, u.fn.length = n := ⟨_, rfl⟩
  obtain ⟨n6b, k6b⟩ : ∃ n, u.fe.length = n := ⟨_, rfl⟩
  rw [k1b, k2b, k3b, k4b, k5b, k6b] at hu ⊢
  clear k1b k2b k3b k4b k5b k6b
  obtain ⟨ba, hba⟩ : ∃ b, b = w.heap.size := ⟨_, rfl⟩
  obtain ⟨W0, hW0⟩ : ∃ W, w.alloc (.cells #[.slice Ca n1a c1a, .slice La n2a c2a, .slice Ma n3a c3a, .slice Oa n4a c4a, .slice Fa n5a c5a, .slice Ea n6a c6a] 31) = W := ⟨_, rfl⟩
  obtain ⟨bb, hbb⟩ : ∃ b, b = W0.heap.size := ⟨_, rfl⟩
  obtain ⟨V0, hV0⟩ : ∃ W, W0.alloc (.cells #[.slice Cb n1b c1b, .slice Lb n2b c2b, .slice Mb n3b c3b, .slice Ob n4b c4b, .slice Fb n5b c5b, .slice Eb n6b c6b] 31) = W := ⟨_, rfl⟩
  have hb0 : Below w.heap.size w W0 := by rw [<- hW0]; exact (Below.refl _ _).alloc (Nat.le_refl _) _
  have hb1 : Below W0.heap.size W0 V0 := by rw [<- hV0]; exact (Below.refl _ _).alloc (Nat.le_refl _) _
  have xa0 : Blk W0 ba 31 #[.slice Ca n1a c1a, .slice La n2a c2a, .slice Ma n3a c3a, .slice Oa n4a c4a, .slice Fa n5a c5a, .slice Ea n6a c6a] := by rw [<- hW0, hba]; exact Blk.new _ _ _
  have XB0 : Hid (Blk V0 bb 31 #[.slice Cb n1b c1b, .slice Lb n2b c2b, .slice Mb n3b c3b, .slice Ob n4b c4b, .slice Fb n5b c5b, .slice Eb n6b c6b]) := Lib.hid (by rw [<- hV0, hbb]; exact Blk.new _ _ _)
  have XA0 : Hid (Blk V0 ba 31 #[.slice Ca n1a c1a, .slice La n2a c2a, .slice Ma n3a c3a, .slice Oa n4a c4a, .slice Fa n5a c5a, .slice Ea n6a c6a]) := Lib.hid (Blk.below xa0 hb1 xa0.lt)
  have hs1 : ba + 1 = bb := by rw [hbb, <- hW0, World.size_alloc, hba]
  have HB0 := Lib.hid (hb0.trans (hb1.mono hb0.size))
  have FIN : Hid (((strOfNums (saveT t)).toList == (strOfNums (saveT u)).toList) = r) := Lib.hid (by
   rw [Bool.eq_iff_iff, hr, strL_inj (saveT_byte t) (saveT_byte u)])
  have HTA := Lib.hid ht; have HTB := Lib.hid hu; have HIA := Lib.hid hi; have HIB := Lib.hid hj; have HLA := Lib.hid hlen; have HLB := Lib.hid hlen2
  have HV0 := Lib.hid hV0; have HW0 := Lib.hid hW0; have EA := Lib.hid hba; have HS1 := Lib.hid hs1
  clear ht hu hi hj hlen hlen2 hr hV0 hW0 hba hbb hb0 hb1 xa0 hs1
  go_enter Try.func18, Try.ntmps18
  go_wp2_with fail
  rw [HW0.out, HV0.out, <- EA.out]
  try simp only [HS1.out]
  have HB1 := Lib.hid (HB0.out.drew)
  have XA1 := Lib.hid (Blk.drew XA0.out)
  have XB1 := Lib.hid (Blk.drew XB0.out)
  clear XA0 XB0 HB0
  refine region_x 7 (fun W : World => (W.cell? ⟨ba, 0, none⟩ = some (.slice Ca n1a c1a) /\ W.cell? ⟨ba, 1, none⟩ = some (.slice La n2a c2a) /\ W.cell? ⟨ba, 2, none⟩ = some (.slice Ma n3a c3a) /\ W.cell? ⟨ba, 3, none⟩ = some (.slice Oa n4a c4a) /\ W.cell? ⟨ba, 4, none⟩ = some (.slice Fa n5a c5a) /\ W.cell? ⟨ba, 5, none⟩ = some (.slice Ea n6a c6a)) /\ (W.cell? ⟨bb, 0, none⟩ = some (.slice Cb n1b c1b) /\ W.cell? ⟨bb, 1, none⟩ = some (.slice Lb n2b c2b) /\ W.cell? ⟨bb, 2, none⟩ = some (.slice Mb n3b c3b) /\ W.cell? ⟨bb, 3, none⟩ = some (.slice Ob n4b c4b) /\ W.cell? ⟨bb, 4, none⟩ = some (.slice Fb n5b c5b) /\ W.cell? ⟨bb, 5, none⟩ = some (.slice Eb n6b c6b))) (by kernel_rfl) ?_
  generalize V0.drew = V1 at *
  have hS : (fun W : World => (W.cell? ⟨ba, 0, none⟩ = some (.slice Ca n1a c1a) /\ W.cell? ⟨ba, 1, none⟩ = some (.slice La n2a c2a) /\ W.cell? ⟨ba, 2, none⟩ = some (.slice Ma n3a c3a) /\ W.cell? ⟨ba, 3, none⟩ = some (.slice Oa n4a c4a) /\ W.cell? ⟨ba, 4, none⟩ = some (.slice Fa n5a c5a) /\ W.cell? ⟨ba, 5, none⟩ = some (.slice Ea n6a c6a)) /\ (W.cell? ⟨bb, 0, none⟩ = some (.slice Cb n1b c1b) /\ W.cell? ⟨bb, 1, none⟩ = some (.slice Lb n2b c2b) /\ W.cell? ⟨bb, 2, none⟩ = some (.slice Mb n3b c3b) /\ W.cell? ⟨bb, 3, none⟩ = some (.slice Ob n4b c4b) /\ W.cell? ⟨bb, 4, none⟩ = some (.slice Fb n5b c5b) /\ W.cell? ⟨bb, 5, none⟩ = some (.slice Eb n6b c6b))) V1 := ⟨⟨XA1.out.cell 0, XA1.out.cell 1, XA1.out.cell 2, XA1.out.cell 3, XA1.out.cell 4, XA1.out.cell 5⟩, ⟨XB1.out.cell 0, XB1.out.cell 1, XB1.out.cell 2, XB1.out.cell 3, XB1.out.cell 4, XB1.out.cell 5⟩⟩
  refine tkx (i := 0) (v := ?_) hS ?_ ?_
  rotate_left
  ·rintro w' ⟨⟨a0', a1', a2', a3', a4', a5'⟩, ⟨b0', b1', b2', b3', b4', b5'⟩⟩
   go_simp
   try with_reducible rfl
  try simp only [Act.put, zq1, zq2, zq3, zq4, zq5, zq6]
  refine tkx (i := 3) (v := ?_) hS ?_ ?_
  rotate_left
  ·rintro w' ⟨⟨a0', a1', a2', a3', a4', a5'⟩, ⟨b0', b1', b2', b3', b4', b5'⟩⟩
   go_simp
   try with_reducible rfl
  try simp only [Act.put, zq1, zq2, zq3, zq4, zq5, zq6]
  refine anyX_g (i := 1) (by kernel_rfl) (by decide) rfl (by rfl) ?_
  intro K hK
  try simp only [zq1, zq2, zq3]
  refine wp_enterE #[.agg #[.slice Ca n1a c1a, .slice La n2a c2a, .slice Ma n3a c3a, .slice Oa n4a c4a, .slice Fa n5a c5a, .slice Ea n6a c6a]] Try.func17 (by kernel_rfl) (by kernel_rfl) ?_ (rsave_any (HTA.out.below HB1.out) HIA.out HLA.out) ?_
  ·go_simp
  rintro e V2 ⟨u2, rfl, ho, hb⟩
  have HB2 := Lib.hid (HB1.out.trans (hb.mono HB1.out.size))
  have XA2 := Lib.hid (Blk.below XA1.out hb XA1.out.lt)
  have XB2 := Lib.hid (Blk.below XB1.out hb XB1.out.lt)
  have HOA := Lib.hid ho
  clear ho hb XA1 XB1 hS
  have hS : (fun W : World => (W.cell? ⟨ba, 0, none⟩ = some (.slice Ca n1a c1a) /\ W.cell? ⟨ba, 1, none⟩ = some (.slice La n2a c2a) /\ W.cell? ⟨ba, 2, none⟩ = some (.slice Ma n3a c3a) /\ W.cell? ⟨ba, 3, none⟩ = some (.slice Oa n4a c4a) /\ W.cell? ⟨ba, 4, none⟩ = some (.slice Fa n5a c5a) /\ W.cell? ⟨ba, 5, none⟩ = some (.slice Ea n6a c6a)) /\ (W.cell? ⟨bb, 0, none⟩ = some (.slice Cb n1b c1b) /\ W.cell? ⟨bb, 1, none⟩ = some (.slice Lb n2b c2b) /\ W.cell? ⟨bb, 2, none⟩ = some (.slice Mb n3b c3b) /\ W.cell? ⟨bb, 3, none⟩ = some (.slice Ob n4b c4b) /\ W.cell? ⟨bb, 4, none⟩ = some (.slice Fb n5b c5b) /\ W.cell? ⟨bb, 5, none⟩ = some (.slice Eb n6b c6b))) V2 := ⟨⟨XA2.out.cell 0, XA2.out.cell 1, XA2.out.cell 2, XA2.out.cell 3, XA2.out.cell 4, XA2.out.cell 5⟩, ⟨XB2.out.cell 0, XB2.out.cell 1, XB2.out.cell 2, XB2.out.cell 3, XB2.out.cell 4, XB2.out.cell 5⟩⟩
  refine ⟨_, rfl, ?_⟩
  refine hK _ _ hS ?_
  clear hK
  try simp only [Act.put, zq1, zq2, zq3, zq4, zq5, zq6]
  refine anyX_2 (i := 2) (j := 4) (by kernel_rfl) (by decide) (by decide) rfl rfl rfl rfl ?_ ?_
  ·intro K hK
   try simp only [zq1, zq2, zq3]
   refine wp_convB rfl (.tmp 6) rfl _ rfl HOA.out ?_
   refine hK _ _ hS ?_
   clear hK
   try simp only [Act.put, zq1, zq2, zq3, zq4, zq5, zq6]
   refine anyX_g (i := 4) (by kernel_rfl) (by decide) rfl (by rfl) ?_
   intro K hK
   try simp only [zq1, zq2, zq3]
   refine wp_enterE #[.agg #[.slice Cb n1b c1b, .slice Lb n2b c2b, .slice Mb n3b c3b, .slice Ob n4b c4b, .slice Fb n5b c5b, .slice Eb n6b c6b]] Try.func17 (by kernel_rfl) (by kernel_rfl) ?_ (rsave_any (HTB.out.below HB2.out) HIB.out HLB.out) ?_
   ·go_simp
   rintro e V3 ⟨u3, rfl, ho, hb⟩
   have HB3 := Lib.hid (HB2.out.trans (hb.mono HB2.out.size))
   have XA3 := Lib.hid (Blk.below XA2.out hb XA2.out.lt)
   have XB3 := Lib.hid (Blk.below XB2.out hb XB2.out.lt)
   have HOB := Lib.hid ho
   replace HOA := Lib.hid (HOA.out.below hb)
   clear ho hb XA2 XB2 hS
   have hS : (fun W : World => (W.cell? ⟨ba, 0, none⟩ = some (.slice Ca n1a c1a) /\ W.cell? ⟨ba, 1, none⟩ = some (.slice La n2a c2a) /\ W.cell? ⟨ba, 2, none⟩ = some (.slice Ma n3a c3a) /\ W.cell? ⟨ba, 3, none⟩ = some (.slice Oa n4a c4a) /\ W.cell? ⟨ba, 4, none⟩ = some (.slice Fa n5a c5a) /\ W.cell? ⟨ba, 5, none⟩ = some (.slice Ea n6a c6a)) /\ (W.cell? ⟨bb, 0, none⟩ = some (.slice Cb n1b c1b) /\ W.cell? ⟨bb, 1, none⟩ = some (.slice Lb n2b c2b) /\ W.cell? ⟨bb, 2, none⟩ = some (.slice Mb n3b c3b) /\ W.cell? ⟨bb, 3, none⟩ = some (.slice Ob n4b c4b) /\ W.cell? ⟨bb, 4, none⟩ = some (.slice Fb n5b c5b) /\ W.cell? ⟨bb, 5, none⟩ = some (.slice Eb n6b c6b))) V3 := ⟨⟨XA3.out.cell 0, XA3.out.cell 1, XA3.out.cell 2, XA3.out.cell 3, XA3.out.cell 4, XA3.out.cell 5⟩, ⟨XB3.out.cell 0, XB3.out.cell 1, XB3.out.cell 2, XB3.out.cell 3, XB3.out.cell 4, XB3.out.cell 5⟩⟩
   refine ⟨_, rfl, ?_⟩
   refine hK _ _ hS ?_
   clear hK
   try simp only [Act.put, zq1, zq2, zq3, zq4, zq5, zq6]
   refine anyX_g (i := 5) (by kernel_rfl) (by decide) rfl (by rfl) ?_
   intro K hK
   try simp only [zq1, zq2, zq3]
   refine wp_convB rfl (.tmp 9) rfl _ rfl HOB.out ?_
   refine hK _ _ hS ?_
   clear hK
   try simp only [Act.put, zq1, zq2, zq3, zq4, zq5, zq6]
   refine anyX_g (i := 6) (by kernel_rfl) (by decide) rfl (by rfl) ?_
   intro K hK
   try simp only [zq1, zq2, zq3]
   go_simp
   refine hK _ _ hS ?_
   clear hK
   try simp only [Act.put, zq1, zq2, zq3, zq4, zq5, zq6]
   clear hS
   refine anyX_last (by kernel_rfl) (by kernel_rfl) rfl rfl ?_
   try simp only [zq1, zq2, zq3]
   go_simp
   try apply_assumption
   go_wp2_with fail
   go_ret
   exact ⟨by rw [<- FIN.out]; rfl, HB3.out⟩
  ·intro K hK
   try simp only [zq1, zq2, zq3]
   refine wp_enterE #[.agg #[.slice Cb n1b c1b, .slice Lb n2b c2b, .slice Mb n3b c3b, .slice Ob n4b c4b, .slice Fb n5b c5b, .slice Eb n6b c6b]] Try.func17 (by kernel_rfl) (by kernel_rfl) ?_ (rsave_any (HTB.out.below HB2.out) HIB.out HLB.out) ?_
   ·go_simp
   rintro e V3 ⟨u3, rfl, ho, hb⟩
   have HB3 := Lib.hid (HB2.out.trans (hb.mono HB2.out.size))
   have XA3 := Lib.hid (Blk.below XA2.out hb XA2.out.lt)
   have XB3 := Lib.hid (Blk.below XB2.out hb XB2.out.lt)
   have HOB := Lib.hid ho
   replace HOA := Lib.hid (HOA.out.below hb)
   clear ho hb XA2 XB2 hS
   have hS : (fun W : World => (W.cell? ⟨ba, 0, none⟩ = some (.slice Ca n1a c1a) /\ W.cell? ⟨ba, 1, none⟩ = some (.slice La n2a c2a) /\ W.cell? ⟨ba, 2, none⟩ = some (.slice Ma n3a c3a) /\ W.cell? ⟨ba, 3, none⟩ = some (.slice Oa n4a c4a) /\ W.cell? ⟨ba, 4, none⟩ = some (.slice Fa n5a c5a) /\ W.cell? ⟨ba, 5, none⟩ = some (.slice Ea n6a c6a)) /\ (W.cell? ⟨bb, 0, none⟩ = some (.slice Cb n1b c1b) /\ W.cell? ⟨bb, 1, none⟩ = some (.slice Lb n2b c2b) /\ W.cell? ⟨bb, 2, none⟩ = some (.slice Mb n3b c3b) /\ W.cell? ⟨bb, 3, none⟩ = some (.slice Ob n4b c4b) /\ W.cell? ⟨bb, 4, none⟩ = some (.slice Fb n5b c5b) /\ W.cell? ⟨bb, 5, none⟩ = some (.slice Eb n6b c6b))) V3 := ⟨⟨XA3.out.cell 0, XA3.out.cell 1, XA3.out.cell 2, XA3.out.cell 3, XA3.out.cell 4, XA3.out.cell 5⟩, ⟨XB3.out.cell 0, XB3.out.cell 1, XB3.out.cell 2, XB3.out.cell 3, XB3.out.cell 4, XB3.out.cell 5⟩⟩
   refine ⟨_, rfl, ?_⟩
   refine hK _ _ hS ?_
   clear hK
   try simp only [Act.put, zq1, zq2, zq3, zq4, zq5, zq6]
   refine anyX_2 (i := 2) (j := 5) (by kernel_rfl) (by decide) (by decide) rfl rfl rfl rfl ?_ ?_
   ·intro K hK
    try simp only [zq1, zq2, zq3]
    refine wp_convB rfl (.tmp 6) rfl _ rfl HOA.out ?_
    refine hK _ _ hS ?_
    clear hK
    try simp only [Act.put, zq1, zq2, zq3, zq4, zq5, zq6]
    refine anyX_g (i := 5) (by kernel_rfl) (by decide) rfl (by rfl) ?_
    intro K hK
    try simp only [zq1, zq2, zq3]
    refine wp_convB rfl (.tmp 9) rfl _ rfl HOB.out ?_
    refine hK _ _ hS ?_
    clear hK
    try simp only [Act.put, zq1, zq2, zq3, zq4, zq5, zq6]
    refine anyX_g (i := 6) (by kernel_rfl) (by decide) rfl (by rfl) ?_
    intro K hK
    try simp only [zq1, zq2, zq3]
    go_simp
    refine hK _ _ hS ?_
    clear hK
    try simp only [Act.put, zq1, zq2, zq3, zq4, zq5, zq6]
    clear hS
    refine anyX_last (by kernel_rfl) (by kernel_rfl) rfl rfl ?_
    try simp only [zq1, zq2, zq3]
    go_simp
    try apply_assumption
    go_wp2_with fail
    go_ret
    exact ⟨by rw [<- FIN.out]; rfl, HB3.out⟩
   ·intro K hK
    try simp only [zq1, zq2, zq3]
    refine wp_convB rfl (.tmp 9) rfl _ rfl HOB.out ?_
    refine hK _ _ hS ?_
    clear hK
    try simp only [Act.put, zq1, zq2, zq3, zq4, zq5, zq6]
    refine anyX_g (i := 2) (by kernel_rfl) (by decide) rfl (by rfl) ?_
    intro K hK
    try simp only [zq1, zq2, zq3]
    refine wp_convB rfl (.tmp 6) rfl _ rfl HOA.out ?_
    refine hK _ _ hS ?_
    clear hK
    try simp only [Act.put, zq1, zq2, zq3, zq4, zq5, zq6]
    refine anyX_g (i := 6) (by kernel_rfl) (by decide) rfl (by rfl) ?_
    intro K hK
    try simp only [zq1, zq2, zq3]
    go_simp
    refine hK _ _ hS ?_
    clear hK
    try simp only [Act.put, zq1, zq2, zq3, zq4, zq5, zq6]
    clear hS
    refine anyX_last (by kernel_rfl) (by kernel_rfl) rfl rfl ?_
    try simp only [zq1, zq2, zq3]
    go_simp
    try apply_assumption
    go_wp2_with fail
    go_ret
    exact ⟨by rw [<- FIN.out]; rfl, HB3.out⟩
end Go.Proofs.Ytjkcglgkdclidaa
namespace Go.Proofs.Ytjkcglgkdclidaa
open Go Go.RowKit Go.Proofs
theorem load_save {w w' : World} {e : Ending} {t : Tab} (h : LoadE w w' e (saveT t)) (ht : RightT t) :
  ∃ vc vl vbn vbo vfn vfe, e = .returned (.tuple #[.agg #[vc, vl, vbn, vbo, vfn, vfe], .bool true]) /\ TabO w' w.heap.size vc vl vbn vbo vfn vfe t /\ TabR w' vc vl vbn vbo vfn vfe t := by
  rcases h with ⟨vc, vl, vbn, vbo, vfn, vfe, u, hu, rfl, h1, h2⟩ | ⟨h, -⟩
  ·have := (loadP_iff (saveT_byte t) u).1 hu
   have e := saveT_inj ht this.1 this.2
   subst e
   exact ⟨vc, vl, vbn, vbo, vfn, vfe, rfl, h1, h2⟩
  ·exact absurd ((loadP_iff (saveT_byte t) t).2 ⟨ht, rfl⟩) (h t)
theorem load_none {w w' : World} {e : Ending} {bs : List Int} (h : LoadE w w' e bs) (hn : ∀ t, RightT t -> bs ≠ saveT t) (hb : ∀ x ∈ bs, ByteI x) :
  e = .returned (.tuple #[.agg #[.slice none 0 0, .slice none 0 0, .slice none 0 0, .slice none 0 0, .slice none 0 0, .slice none 0 0], .bool false]) := by
  rcases h with ⟨vc, vl, vbn, vbo, vfn, vfe, u, hu, rfl, h1, h2⟩ | ⟨-, h⟩
  ·have := (loadP_iff hb u).1 hu
   exact absurd this.2 (hn u this.1)
  ·exact h
theorem readsI_nil0 (w : World) : ReadsI w (.slice none 0 0) 0 [] := ⟨rfl, none, 0, rfl, Nat.le_refl _, Nat.zero_le _, fun _ => rfl, fun i hi => absurd hi (Nat.not_lt_zero i)⟩
theorem noT_tab (w : World) : TabR w (.slice none 0 0) (.slice none 0 0) (.slice none 0 0) (.slice none 0 0) (.slice none 0 0) (.slice none 0 0) noT :=
 ⟨readsI_nil0 w, readsI_nil0 w, RowsI.nil w, readsI_nil0 w, RowsI.nil w, ⟨none, 0, rfl, Nat.le_refl _, Nat.zero_le _, fun _ => rfl, fun i hi => absurd hi (Nat.not_lt_zero i)⟩⟩
theorem noT_ints : IntsT noT := ⟨(fun x hx => by cases hx), (fun x hx => by cases hx), (fun x hx => by cases hx), (fun x hx => by cases hx), (fun x hx => by cases hx), (fun x hx => by cases hx)⟩
theorem rowsI_one {w : World} {b : Nat} {u : Value} {l : List Int} {t : TypeId} (h : Blk w b t #[u]) (hu : ReadsI w u l.length l) : RowsI w (.slice (some ⟨b, 0, none⟩) 1 1) [l] :=
 ⟨_, 1, rfl, Nat.le_refl _, by unfold maxLen; omega, (fun e => by cases e), fun i hi => by
  have hi1 : i < 1 := hi
  obtain rfl : i = 0 := by omega
  exact ⟨b, 0, u, rfl, h.cell 0, hu⟩⟩
theorem emitR_one {w : World} {b : Nat} {u : Value} {l : List V3} {t : TypeId} (h : Blk w b t #[u]) (hu : ReadsE encV 3 w u l.length l) : EmitR w (.slice (some ⟨b, 0, none⟩) 1 1) [l] :=
 ⟨_, 1, rfl, Nat.le_refl _, by unfold maxLen; omega, (fun e => by cases e), fun i hi => by
  have hi1 : i < 1 := hi
  obtain rfl : i = 0 := by omega
  exact ⟨b, 0, u, rfl, h.cell 0, hu⟩⟩
theorem vec_one {w : World} {b : Nat} {t : TypeId} {x y z : Int} (h : Blk w b t #[.int .i64 x, .int .i64 y, .int .i64 z]) : ReadsE encV 3 w (.slice (some ⟨b, 0, none⟩) 1 1) 1 [(x, y, z)] :=
 ⟨rfl, _, 1, rfl, Nat.le_refl _, by unfold maxLen; omega, (fun e => by cases e), fun i u hi => by
  have hi1 : i < 1 := (List.getElem?_eq_some_iff.1 hi).1
  obtain rfl : i = 0 := by omega
  simp only [List.getElem?_cons_zero, Option.some.injEq] at hi
  subst hi
  refine ⟨b, 0, rfl, fun j u hj => ?_⟩
  rw [show 0 + 0 * 3 + j = j by omega, h.cell]
  have hj3 : j < 3 := by have := (List.getElem?_eq_some_iff.1 hj).1; rwa [encV_len] at this
  rcases (show j = 0 \/ j = 1 \/ j = 2 by omega) with rfl | rfl | rfl <;> exact hj⟩
theorem Blk.newAt (w : World) {b : Nat} (hb : w.heap.size = b) (cs : Array Value) (t : TypeId) : Blk (w.alloc (.cells cs t)) b t cs := by rw [<- hb]; exact Blk.new _ _ _
theorem known_tab (w : World) : ∃ W, ((((((((w.alloc (.cells #[.int .i64 0] 3)).alloc (.cells #[.int .i64 0] 3)).alloc (.cells #[.int .i64 0] 3)).alloc (.cells #[.slice (some ⟨w.heap.size + 1 + 1, 0, none⟩) 1 1] 22)).alloc (.cells #[.int .i64 0] 3)).alloc (.cells #[.int .i64 0] 3)).alloc (.cells #[.slice (some ⟨w.heap.size + 1 + 1 + 1 + 1 + 1, 0, none⟩) 1 1] 22)).alloc (.cells #[.int .i64 1, .int .i64 2, .int .i64 3] 45)).alloc (.cells #[.slice (some ⟨w.heap.size + 1 + 1 + 1 + 1 + 1 + 1 + 1, 0, none⟩) 1 1] 46) = W /\ Below w.heap.size w W /\ W.heap.size = w.heap.size + 1 + 1 + 1 + 1 + 1 + 1 + 1 + 1 + 1 /\
  TabR W (.slice (some ⟨w.heap.size, 0, none⟩) 1 1) (.slice (some ⟨w.heap.size + 1, 0, none⟩) 1 1) (.slice (some ⟨w.heap.size + 1 + 1 + 1, 0, none⟩) 1 1) (.slice (some ⟨w.heap.size + 1 + 1 + 1 + 1, 0, none⟩) 1 1) (.slice (some ⟨w.heap.size + 1 + 1 + 1 + 1 + 1 + 1, 0, none⟩) 1 1) (.slice (some ⟨w.heap.size + 1 + 1 + 1 + 1 + 1 + 1 + 1 + 1, 0, none⟩) 1 1) knownT := by
  refine ⟨_, rfl, ?_, by simp, ?_⟩
  ·exact (((((((((Below.refl _ _).alloc (Nat.le_refl _) _).alloc (by simp) _).alloc (by simp; omega) _).alloc (by simp; omega) _).alloc (by simp; omega) _).alloc (by simp; omega) _).alloc (by simp; omega) _).alloc (by simp; omega) _).alloc (by simp; omega) _
  ·have r1 : ∀ {W : World} {b : Nat}, Blk W b 3 #[.int .i64 0] -> ReadsI W (.slice (some ⟨b, 0, none⟩) 1 1) 1 [0] := fun h => readsI_new (h.cell 0)
   refine ⟨r1 ?_, r1 ?_, rowsI_one (u := .slice (some ⟨w.heap.size + 1 + 1, 0, none⟩) 1 1) (t := 22) ?_ (r1 ?_), r1 ?_, rowsI_one (u := .slice (some ⟨w.heap.size + 1 + 1 + 1 + 1 + 1, 0, none⟩) 1 1) (t := 22) ?_ (r1 ?_), emitR_one (u := .slice (some ⟨w.heap.size + 1 + 1 + 1 + 1 + 1 + 1 + 1, 0, none⟩) 1 1) (t := 46) ?_ (vec_one (t := 45) ?_)⟩
   all_goals (repeat (first | (refine Blk.newAt _ ?_ _ _; simp; done) | refine Blk.alloc ?_ _))
theorem tknown_any (w : World) : Calls Try.prog 12 #[] w fun e w' => e = .returned (.bool true) /\ Below w.heap.size w w' := by
 obtain ⟨V0, hV0, hb0, hz0, ht0⟩ := known_tab w
 obtain ⟨s0, hs0⟩ : ∃ s, w.heap.size = s := ⟨_, rfl⟩
 rw [hs0] at hV0 hz0 ht0
 obtain ⟨bt, hbt⟩ : ∃ b, s0 + 1 + 1 + 1 + 1 + 1 + 1 + 1 + 1 + 1 = b := ⟨_, rfl⟩
 rw [hbt] at hz0
 obtain ⟨V1, hV1⟩ : ∃ W, V0.alloc (.cells #[.slice (some ⟨s0, 0, none⟩) 1 1, .slice (some ⟨s0 + 1, 0, none⟩) 1 1, .slice (some ⟨s0 + 1 + 1 + 1, 0, none⟩) 1 1, .slice (some ⟨s0 + 1 + 1 + 1 + 1, 0, none⟩) 1 1, .slice (some ⟨s0 + 1 + 1 + 1 + 1 + 1 + 1, 0, none⟩) 1 1, .slice (some ⟨s0 + 1 + 1 + 1 + 1 + 1 + 1 + 1 + 1, 0, none⟩) 1 1] 31) = W := ⟨_, rfl⟩
 have hb1 : Below V0.heap.size V0 V1 := by rw [<- hV1]; exact (Below.refl _ _).alloc (Nat.le_refl _) _
 have XT : Hid (Blk V1 bt 31 #[.slice (some ⟨s0, 0, none⟩) 1 1, .slice (some ⟨s0 + 1, 0, none⟩) 1 1, .slice (some ⟨s0 + 1 + 1 + 1, 0, none⟩) 1 1, .slice (some ⟨s0 + 1 + 1 + 1 + 1, 0, none⟩) 1 1, .slice (some ⟨s0 + 1 + 1 + 1 + 1 + 1 + 1, 0, none⟩) 1 1, .slice (some ⟨s0 + 1 + 1 + 1 + 1 + 1 + 1 + 1 + 1, 0, none⟩) 1 1]) := Lib.hid (by rw [<- hV1]; exact Blk.newAt _ hz0 _ _)
 have HT := Lib.hid (ht0.below hb1)
 have HB1 := Lib.hid (hb0.trans (hb1.mono hb0.size))
 have HV0 := Lib.hid hV0; have HV1 := Lib.hid hV1; have HS0 := Lib.hid hs0; have HBT := Lib.hid hbt
 have hle : (enT knownT).length <= 100000 := by decide
 have HLE := Lib.hid hle
 clear hV0 hb0 hz0 ht0 hV1 hb1 hs0 hbt hle
 go_enter Try.func12, Try.ntmps12
 go_wp2_with fail
 try simp only [HS0.out]
 rw [HV0.out]
 try simp only [HBT.out]
 rw [HV1.out]
 refine (tsave_any HT.out (fun _ => Nat.le_trans HLE.out (by decide))).mono ?_
 rintro e V2 ⟨u, rfl, hsv, -, hb⟩
 have HBY := Lib.hid ((hsv knownT_right).bytes (saveT_byte knownT))
 have XT2 := Lib.hid (Blk.below XT.out hb XT.out.lt)
 have HT2 := Lib.hid (HT.out.below hb)
 have HB2 := Lib.hid (HB1.out.trans (hb.mono HB1.out.size))
 clear hsv hb XT HT HB1 HV0 HV1 HS0 HBT
 obtain ⟨A2, k2, rfl, -, -, -⟩ := HBY.out.form
 obtain ⟨n2, hn2⟩ : ∃ n, (saveT knownT).length = n := ⟨_, rfl⟩
 have hn8 : (saveT knownT).length <= 8000000 := by
  rw [saveT_len]
  exact Nat.le_trans (Nat.add_le_add_right (Nat.mul_le_mul_right 8 HLE.out) 8) (by decide)
 have hn9 : n2 <= 8000000 := by rw [<- hn2]; exact hn8
 clear hn8
 rw [hn2] at HBY ⊢
 clear hn2
 go_wp2_with fail
 refine (tload_any HBY.out hn9).mono ?_
 rintro e V3 ⟨hld, hb⟩
 obtain ⟨vc, vl, vbn, vbo, vfn, vfe, rfl, hto, htr⟩ := load_save hld knownT_right
 obtain ⟨x1, k1, rfl, -, -, -⟩ := htr.c.form
 obtain ⟨x2, k2', rfl, -, -, -⟩ := htr.l.form
 obtain ⟨x3, k3, e1, -, -⟩ := htr.bn.form
 obtain ⟨x4, k4, rfl, -, -, -⟩ := htr.bo.form
 obtain ⟨x5, k5, e2, -, -⟩ := htr.fn.form
 obtain ⟨x6, k6, e3, -, -⟩ := htr.fe.form
 subst e1 e2 e3
 have z1 : knownT.cuts.length = 1 := rfl
 have z2 : knownT.letters.length = 1 := rfl
 have z3 : knownT.bn.length = 1 := rfl
 have z4 : knownT.bo.length = 1 := rfl
 have z5 : knownT.fn.length = 1 := rfl
 have z6 : knownT.fe.length = 1 := rfl
 rw [z1, z2, z3, z4, z5, z6] at htr ⊢
 have XT3 := Lib.hid (Blk.below XT2.out hb XT2.out.lt)
 have HT3 := Lib.hid (HT2.out.below hb)
 have HB3 := Lib.hid (HB2.out.trans (hb.mono HB2.out.size))
 have HU3 := Lib.hid htr
 clear hld hto htr hb XT2 HT2 HB2 HBY z1 z2 z3 z4 z5 z6
 obtain ⟨bu, hbu⟩ : ∃ b, V3.heap.size = b := ⟨_, rfl⟩
 obtain ⟨V4, hV4⟩ : ∃ W, V3.alloc (.cells #[.slice x1 1 k1, .slice x2 1 k2', .slice x3 1 k3, .slice x4 1 k4, .slice x5 1 k5, .slice x6 1 k6] 31) = W := ⟨_, rfl⟩
 have hb4 : Below V3.heap.size V3 V4 := by rw [<- hV4]; exact (Below.refl _ _).alloc (Nat.le_refl _) _
 have XU4 : Hid (Blk V4 bu 31 #[.slice x1 1 k1, .slice x2 1 k2', .slice x3 1 k3, .slice x4 1 k4, .slice x5 1 k5, .slice x6 1 k6]) := Lib.hid (by rw [<- hV4]; exact Blk.newAt _ hbu _ _)
 have XT4 := Lib.hid (Blk.below XT3.out hb4 XT3.out.lt)
 have HT4 := Lib.hid (HT3.out.below hb4)
 have HU4 := Lib.hid (HU3.out.below hb4)
 have HB4 := Lib.hid (HB3.out.trans (hb4.mono HB3.out.size))
 have HV4 := Lib.hid hV4; have HBU := Lib.hid hbu
 clear hV4 hb4 hbu XT3 HT3 HU3 HB3
 go_wp2_with fail
 try simp only [HBU.out]
 rw [HV4.out]
 refine (tload_any (n := 0) (bs := []) ⟨ReadsE.nil _, fun x hx => by cases hx⟩ (Nat.zero_le _)).mono ?_
 rintro e V5 ⟨hld, hb⟩
 have he := load_none hld (fun t _ e => saveT_ne t e.symm) (fun x hx => by cases hx)
 subst he
 have XT5 := Lib.hid (Blk.below XT4.out hb XT4.out.lt)
 have XU5 := Lib.hid (Blk.below XU4.out hb XU4.out.lt)
 have HT5 := Lib.hid (HT4.out.below hb)
 have HU5 := Lib.hid (HU4.out.below hb)
 have HB5 := Lib.hid (HB4.out.trans (hb.mono HB4.out.size))
 clear hld hb XT4 XU4 HT4 HU4 HB4 HV4 HBU
 obtain ⟨bn, hbn⟩ : ∃ b, V5.heap.size = b := ⟨_, rfl⟩
 obtain ⟨V6, hV6⟩ : ∃ W, V5.alloc (.cells #[.slice none 0 0, .slice none 0 0, .slice none 0 0, .slice none 0 0, .slice none 0 0, .slice none 0 0] 31) = W := ⟨_, rfl⟩
 have hb6 : Below V5.heap.size V5 V6 := by rw [<- hV6]; exact (Below.refl _ _).alloc (Nat.le_refl _) _
 have XT6 := Lib.hid (Blk.below XT5.out hb6 XT5.out.lt)
 have XU6 := Lib.hid (Blk.below XU5.out hb6 XU5.out.lt)
 have HT6 := Lib.hid (HT5.out.below hb6)
 have HU6 := Lib.hid (HU5.out.below hb6)
 have HB6 := Lib.hid (HB5.out.trans (hb6.mono HB5.out.size))
 have HV6 := Lib.hid hV6; have HBN := Lib.hid hbn
 clear hV6 hb6 hbn XT5 XU5 HT5 HU5 HB5
 go_wp2_with fail
 try simp only [HBN.out]
 rw [HV6.out]
 refine (sum_any (n := 0) (l := []) ⟨ReadsE.nil _, fun x hx => by cases hx⟩).mono ?_
 rintro e V6' ⟨rfl, hw6⟩
 subst hw6
 have hs1 : sumI [] = 1 := rfl
 rw [hs1]
 clear hs1 HV6 HBN
 have c0 := XT6.out.cell 0; have c1 := XT6.out.cell 1; have c2 := XT6.out.cell 2; have c3 := XT6.out.cell 3; have c4 := XT6.out.cell 4; have c5 := XT6.out.cell 5
 simp only [List.getElem?_toArray, List.getElem?_cons_zero, List.getElem?_cons_succ] at c0 c1 c2 c3 c4 c5
 go_wp2_with fail
 refine (tright_any HT6.out).mono ?_
 rintro e V7 ⟨s7, rfl, hs7, hb⟩
 have h7 := hs7.2 knownT_right
 subst h7
 have XT7 := Lib.hid (Blk.below XT6.out hb XT6.out.lt)
 have XU7 := Lib.hid (Blk.below XU6.out hb XU6.out.lt)
 have HT7 := Lib.hid (HT6.out.below hb)
 have HU7 := Lib.hid (HU6.out.below hb)
 have HB7 := Lib.hid (HB6.out.trans (hb.mono HB6.out.size))
 clear hs7 hb c0 c1 c2 c3 c4 c5 XT6 XU6 HT6 HU6 HB6
 have c0 := XT7.out.cell 0; have c1 := XT7.out.cell 1; have c2 := XT7.out.cell 2; have c3 := XT7.out.cell 3; have c4 := XT7.out.cell 4; have c5 := XT7.out.cell 5
 have d0 := XU7.out.cell 0; have d1 := XU7.out.cell 1; have d2 := XU7.out.cell 2; have d3 := XU7.out.cell 3; have d4 := XU7.out.cell 4; have d5 := XU7.out.cell 5
 simp only [List.getElem?_toArray, List.getElem?_cons_zero, List.getElem?_cons_succ] at c0 c1 c2 c3 c4 c5 d0 d1 d2 d3 d4 d5
 go_wp2_with fail
 refine (rsame_any HT7.out HU7.out knownT_right.intsT knownT_right.intsT (Nat.le_trans HLE.out (by decide)) (Nat.le_trans HLE.out (by decide)) (r := true) ⟨fun _ => rfl, fun _ => rfl⟩).mono ?_
 rintro e V8 ⟨rfl, hb⟩
 have HB8 := Lib.hid (HB7.out.trans (hb.mono HB7.out.size))
 clear hb c0 c1 c2 c3 c4 c5 d0 d1 d2 d3 d4 d5 XT7 XU7 HT7 HU7 HB7
 go_wp2_with fail
 refine (tright_any (noT_tab V8)).mono ?_
 rintro e V9 ⟨s9, rfl, hs9, hb⟩
 have h9 : s9 = false := by cases s9 with
  | false => rfl
  | true => exact absurd (hs9.1 rfl) noT_not
 subst h9
 have HB9 := Lib.hid (HB8.out.trans (hb.mono HB8.out.size))
 clear hs9 hb HB8
 go_wp2_with fail
 go_ret
 exact ⟨rfl, HB9.out⟩
end Go.Proofs.Ytjkcglgkdclidaa
namespace Go.Proofs.Ytjkcglgkdclidaa
open Go Go.RowKit Go.Proofs
theorem twithin2_any (x n : Int) (hn : 0 < n) (hn2 : n <= 1099511627776) (w : World) :
  Calls Try.prog 19 #[.int .i64 x, .int .i64 n] w fun e w' => e = .returned (.int .i64 (x % n)) /\ w = w' := by
  have h1 := Int.tmod_lt_of_pos x hn
  have h2 : -n < x.tmod n := by
   have := Int.tmod_lt_of_pos (-x) hn
   rw [Int.neg_tmod] at this
   omega
  have hE : x % n = if x.tmod n < 0 then x.tmod n + n else x.tmod n := by
   have h3 := Int.emod_eq_tmod (a := x) (b := n)
   have hd : (n.natAbs : Int) = n := Int.natAbs_of_nonneg (Int.le_of_lt hn)
   have h4 := Int.emod_nonneg x (Int.ne_of_gt hn)
   have h5 := Int.emod_lt_of_pos x hn
   have e1 := Int.emod_add_mul_ediv x n
   have e2 := Int.tmod_add_mul_tdiv x n
   split
   ·rename_i hlt
    have : (x % n - (x.tmod n + n)) = n * (x.tdiv n - x / n - 1) := by
     rw [Int.mul_sub, Int.mul_sub, Int.mul_one]; omega
    have hq : x.tdiv n - x / n - 1 = 0 := by
     apply Classical.byContradiction
     intro hne
     rcases Int.lt_or_gt_of_ne hne with h | h
     ·have : n * (x.tdiv n - x / n - 1) <= n * (-1) := Int.mul_le_mul_of_nonneg_left (by omega) (by omega)
      omega
     ·have : n * 1 <= n * (x.tdiv n - x / n - 1) := Int.mul_le_mul_of_nonneg_left (by omega) (by omega)
      omega
    rw [hq] at this
    omega
   ·rename_i hge
    have : (x % n - x.tmod n) = n * (x.tdiv n - x / n) := by
     rw [Int.mul_sub]; omega
    have hq : x.tdiv n - x / n = 0 := by
     apply Classical.byContradiction
     intro hne
     rcases Int.lt_or_gt_of_ne hne with h | h
     ·have : n * (x.tdiv n - x / n) <= n * (-1) := Int.mul_le_mul_of_nonneg_left (by omega) (by omega)
      omega
     ·have : n * 1 <= n * (x.tdiv n - x / n) := Int.mul_le_mul_of_nonneg_left (by omega) (by omega)
      omega
    rw [hq] at this
    omega
  have E := Lib.hid hE
  have hne : ¬ n = 0 := by omega
  clear hE
  go_enter Try.func19, Try.ntmps19
  by_cases hlt : x.tmod n < 0
  ·go_wp2_with fail
   go_ret
   exact ⟨by rw [E.out, if_pos hlt]; rfl, rfl⟩
  ·go_wp2_with fail
   go_ret
   exact ⟨by rw [E.out, if_neg (by omega)]; rfl, rfl⟩
theorem IsRow.bytes {w : World} {a : Option Addr} {len cap : Nat} {z : List Int} (h : IsRow .u8 w a len cap z) : BytesR w (.slice a len cap) len (z.take len) := by
 have hle := h.len_le
 have hwf : ∀ x ∈ z.take len, ByteI x := by
  intro x hx
  rcases h with ⟨rfl, rfl, rfl, rfl⟩ | ⟨y, rfl, hl, hm, hz, hc, hw⟩
  ·cases hx
  ·have := hw x (List.mem_of_mem_take hx)
   simp [Lit.wf] at this
   have e1 : IntKind.u8.min = 0 := rfl
   have e2 : IntKind.u8.max = 255 := rfl
   rw [e1, e2] at this
   unfold ByteI
   omega
 refine ⟨⟨by rw [List.length_take]; omega, a, cap, rfl, ?_, ?_, ?_, fun i x hi => ?_⟩, hwf⟩
 ·rcases h with ⟨rfl, rfl, rfl, rfl⟩ | ⟨y, rfl, hl, hm, _⟩
  ·exact Nat.le_refl _
  ·exact hl
 ·rcases h with ⟨rfl, rfl, rfl, rfl⟩ | ⟨y, rfl, hl, hm, _⟩
  ·exact Nat.zero_le _
  ·exact hm
 ·intro e
  rcases h with ⟨rfl, rfl, rfl, rfl⟩ | ⟨y, rfl, hl, hm, _⟩
  ·rfl
  ·cases e
 ·have hil : i < len := by have := (List.getElem?_eq_some_iff.1 hi).1; rw [List.length_take] at this; omega
  obtain ⟨b, off, e, -, hc, -⟩ := h.at i hil
  refine ⟨b, off, e, fun j u hj => ?_⟩
  match j, hj with
  | 0, hj =>
    have hu : .int .u8 x = u := by simpa [encB] using hj
    rw [Nat.mul_one, Nat.add_zero, hc i hil, <- hu]
    have : z.getD i 0 = x := by
     rw [List.getElem?_take, if_pos hil] at hi
     rw [List.getD_eq_getElem?_getD, hi]; rfl
    rw [this]
  | j + 1, hj => simp [encB] at hj
theorem BRow.none_ (w : World) : BRow (w.alloc (.cells #[] 5)) w.heap.size (.slice (some ⟨w.heap.size, 0, none⟩) 0 0) [] :=
 ⟨rfl, .inr ⟨w.heap.size, 0, #[], rfl, Nat.le_refl _, heap_alloc_new w _, by simp [maxLen]⟩⟩
theorem flatB (l : List Int) : l.flatMap encB = l.map (Value.int .u8) := by
 induction l with
 | nil => rfl
 | cons a l ih => rw [List.flatMap_cons, ih]; rfl
theorem BRow.set_ {w : World} {B g cap : Nat} {l : List Int} (h : BRow w B (.slice (some ⟨g, 0, none⟩) l.length cap) l) (k : Nat) (y : Int) : BRow (w.setCell ⟨g, k, none⟩ (.int .u8 y)) B (.slice (some ⟨g, 0, none⟩) l.length cap) (l.set k y) := by
 have := (World.ownsRow.stored h k (.int .u8 y)).1
 unfold BRow OwnE
 rw [List.length_set, flatB, List.map_set, <- flatB]
 exact this
theorem BRow.cellAt {w : World} {B g cap k : Nat} {l : List Int} (h : BRow w B (.slice (some ⟨g, 0, none⟩) l.length cap) l) (hk : k < l.length) : w.cell? ⟨g, k, none⟩ = some (.int .u8 (l.getD k 0)) := by
 have := World.ownsRow.cellAt h k (by omega)
 rw [this, flatB, List.getElem?_map, List.getElem?_eq_getElem hk, List.getD_eq_getElem?_getD, List.getElem?_eq_getElem hk]
 rfl
theorem BRow.frozenAt {w : World} {B g cap : Nat} {l : List Int} (h : BRow w B (.slice (some ⟨g, 0, none⟩) l.length cap) l) (k : Nat) : w.frozen? ⟨g, k, none⟩ = false := World.ownsRow.frozenAt h k
theorem sumI_set {l : List Int} {k : Nat} {y : Int} (hl : ∀ x ∈ l, ByteI x) (hy : ByteI y) (hk : k < l.length) : sumI (l.set k y) = sumI l ↔ y = l.getD k 0 := by
 have e1 : l = l.take k ++ l.getD k 0 :: l.drop (k + 1) := by
  rw [List.getD_eq_getElem?_getD, List.getElem?_eq_getElem hk]
  simp
 have e2 : l.set k y = l.take k ++ y :: l.drop (k + 1) := by
  rw [List.set_eq_take_append_cons_drop, if_pos hk]
 rw [e2]
 conv => lhs; rhs; rw [e1]
 rw [sumI_turn _ _ hy (hl _ (getD_mem hk))]
end Go.Proofs.Ytjkcglgkdclidaa
