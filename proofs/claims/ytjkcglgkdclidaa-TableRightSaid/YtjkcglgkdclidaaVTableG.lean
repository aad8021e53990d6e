/- Contracts of table: backward.right, forward.right, Right. -/
import Derived.Test.YtjkcglgkdclidaaVTableB
import Derived.Test.YtjkcglgkdclidaaVTk
set_option linter.unusedVariables false
set_option linter.unusedSimpArgs false
set_option maxRecDepth 100000
set_option maxHeartbeats 4000000
namespace Go.Proofs.Ytjkcglgkdclidaa
open Go Go.RowKit Go.Proofs
section
variable {P : Program} {ops : Array Oper} {Q : Exit -> Act -> World -> Prop} {md : Region.Mode} {S : World -> Prop} {m : Nat}
theorem tkskip {i : Nat} {oi : Oper} {fuel : Nat} {listed : Array Bool} {a : Act} {w : World} (hS : S w)
  (h : anyX P md ops Q S m fuel (listed.setIfInBounds i true) (a.put oi.dst undef) w)
  (hi : ops[i]? = some oi := by rfl) (hg : Region.wanted oi (yielded ops a.tmps) = false := by rfl)
  (hs : Region.noSelect ops = true := by kernel_rfl) (hf : Region.free md ops listed i = true := by kernel_rfl) (hr : (Region.ready md ops listed).contains i = true := by kernel_rfl) (hw : waits md ops m i = true := by kernel_rfl)
  (hQ : ∀ c a w, Q (.panic c) (a.put oi.dst undef) w -> Q (.panic c) a w := by exact fun _ _ _ h => h) : anyX P md ops Q S m (fuel + 1) listed a w :=
  anyX_take hi hs hf hr hw hQ (Or.inr ⟨hg, rfl⟩) hS h
end
theorem leadI_iff {T : List (List Int)} {n : Nat} : LeadI T n ↔ (1 <= T.length /\ T.length <= 100000 /\ ∀ r ∈ T, (r.length : Int) = (n : Int) /\ ∀ x ∈ r, 0 <= x /\ x < (T.length : Int)) := by
 unfold LeadI
 constructor
 ·rintro ⟨a, b, c⟩; exact ⟨a, b, fun r hr => ⟨by rw [(c r hr).1], (c r hr).2⟩⟩
 ·rintro ⟨a, b, c⟩; exact ⟨a, b, fun r hr => ⟨by have := (c r hr).1; omega, (c r hr).2⟩⟩
theorem backRight_any {w : World} {A O : Option Addr} {cap m oc : Nat} {T : List (List Int)} {bo : List Int} {n : Nat} (h : RowsI w (.slice A T.length cap) T) (ho : ReadsI w (.slice O m oc) m bo) :
  Calls Try.prog 30 #[.agg #[.slice A T.length cap, .slice O m oc], .int .i64 (n : Int)] w fun e w' => ∃ b, e = .returned (.bool b) /\ (b = true ↔ BackR T bo n) /\ Below w.heap.size w w' := by
  obtain ⟨A2, cap2, e2, l1, l2⟩ := h.form
  simp only [Value.slice.injEq, true_and] at e2
  obtain ⟨rfl, rfl⟩ := e2
  obtain ⟨A3, cap3, e3, l3, l4, l5⟩ := ho.form
  simp only [Value.slice.injEq, true_and] at e3
  obtain ⟨rfl, rfl⟩ := e3
  obtain ⟨W0, hW0⟩ : ∃ W, w.alloc (.cells #[.slice A T.length cap, .slice O m oc] 62) = W := ⟨_, rfl⟩
  have hb0 : Below w.heap.size w W0 := by rw [<- hW0]; exact (Below.refl _ _).alloc (Nat.le_refl _) _
  have hx0 : Blk W0 w.heap.size 62 #[.slice A T.length cap, .slice O m oc] := by rw [<- hW0]; exact Blk.new _ _ _
  obtain ⟨b, hbw⟩ : ∃ b, b = w.heap.size := ⟨_, rfl⟩
  rw [<- hbw] at hx0
  have HH := Lib.hid (h.below hb0); have HO := Lib.hid (ho.below hb0)
  have HL := Lib.hid l5
  have HKS : Hid (∀ W, Below W0.heap.size W0 W -> (fun W : World => W.cell? ⟨b, 0, none⟩ = some (.slice A T.length cap) /\ W.cell? ⟨b, 1, none⟩ = some (.slice O m oc)) W) := Lib.hid (fun W hW => ⟨bel_m hW (hx0.cell 0), bel_m hW (hx0.cell 1)⟩)
  have HW0 := Lib.hid hW0; have HB0 := Lib.hid hb0; have HBW := Lib.hid hbw
  clear h ho hW0 hb0 hx0 l5 hbw
  go_enter Try.func30, Try.ntmps30
  go_wp2_with fail
  rw [HW0.out, <- HBW.out]
  have hb : Below W0.heap.size W0 W0.drew := (Below.refl _ _).drew
  have hS := HKS.out _ hb
  refine region_x 18 (fun W : World => W.cell? ⟨b, 0, none⟩ = some (.slice A T.length cap) /\ W.cell? ⟨b, 1, none⟩ = some (.slice O m oc)) (by kernel_rfl) ?_
  generalize W0.drew = V0 at *
  refine tkx (i := 0) (v := ?_) hS ?_ ?_
  rotate_left
  ·rintro w' ⟨s0', s1'⟩
   go_simp
   try with_reducible rfl
  try simp only [Act.put, zq1, zq2, zq3, zq4, zq5, zq6]
  refine tkx (i := 1) (v := ?_) hS ?_ ?_
  rotate_left
  ·rintro w' ⟨s0', s1'⟩
   go_simp
   try with_reducible rfl
  try simp only [Act.put, zq1, zq2, zq3, zq4, zq5, zq6]
  refine tkx (i := 2) (v := ?_) hS ?_ ?_
  rotate_left
  ·rintro w' ⟨s0', s1'⟩
   go_simp
   try with_reducible rfl
  try simp only [Act.put, zq1, zq2, zq3, zq4, zq5, zq6]
  refine anyX_g (i := 3) (by kernel_rfl) (by decide) rfl (by rfl) ?_
  intro K hK
  try simp only [zq1, zq2, zq3]
  refine wp_enterE #[.agg #[.slice A T.length cap], .int .i64 (n : Int)] Try.func52 (by kernel_rfl) (by kernel_rfl) ?_ (lead_any (n := (n : Int)) (HH.out.below hb)) ?_
  ·go_simp
  rintro e V1 ⟨b1, rfl, hb1, hbn⟩
  replace hb := hb.trans (hbn.mono hb.size)
  clear hbn
  replace hS := HKS.out _ hb
  refine ⟨_, rfl, ?_⟩
  refine hK _ _ hS ?_
  clear hK
  try simp only [Act.put, zq1, zq2, zq3, zq4, zq5, zq6]
  cases b1 with
  | false =>
    have HL1 := Lib.hid hb1
    clear hb1
    refine tkx (i := 4) (v := ?_) hS ?_ ?_
    rotate_left
    ·rintro w' ⟨s0', s1'⟩
     go_simp
     try with_reducible rfl
    try simp only [Act.put, zq1, zq2, zq3, zq4, zq5, zq6]
    refine tkskip (i := 5) hS ?_
    try simp only [Act.put, zq1, zq2, zq3, zq4, zq5, zq6]
    refine tkskip (i := 6) hS ?_
    try simp only [Act.put, zq1, zq2, zq3, zq4, zq5, zq6]
    refine tkskip (i := 7) hS ?_
    try simp only [Act.put, zq1, zq2, zq3, zq4, zq5, zq6]
    refine tkskip (i := 8) hS ?_
    try simp only [Act.put, zq1, zq2, zq3, zq4, zq5, zq6]
    refine tkskip (i := 9) hS ?_
    try simp only [Act.put, zq1, zq2, zq3, zq4, zq5, zq6]
    refine tkskip (i := 10) hS ?_
    try simp only [Act.put, zq1, zq2, zq3, zq4, zq5, zq6]
    refine tkskip (i := 11) hS ?_
    try simp only [Act.put, zq1, zq2, zq3, zq4, zq5, zq6]
    refine tkx (i := 12) (v := ?_) hS ?_ ?_
    rotate_left
    ·rintro w' ⟨s0', s1'⟩
     go_simp
     try with_reducible rfl
    try simp only [Act.put, zq1, zq2, zq3, zq4, zq5, zq6]
    refine tkx (i := 13) (v := ?_) hS ?_ ?_
    rotate_left
    ·rintro w' ⟨s0', s1'⟩
     go_simp
     try with_reducible rfl
    try simp only [Act.put, zq1, zq2, zq3, zq4, zq5, zq6]
    refine tkskip (i := 14) hS ?_
    try simp only [Act.put, zq1, zq2, zq3, zq4, zq5, zq6]
    refine tkskip (i := 15) hS ?_
    try simp only [Act.put, zq1, zq2, zq3, zq4, zq5, zq6]
    refine tkskip (i := 16) hS ?_
    try simp only [Act.put, zq1, zq2, zq3, zq4, zq5, zq6]
    refine tkx (i := 17) (v := ?_) hS ?_ ?_
    rotate_left
    ·rintro w' ⟨s0', s1'⟩
     go_simp
     try with_reducible rfl
    try simp only [Act.put, zq1, zq2, zq3, zq4, zq5, zq6]
    have HBZ := Lib.hid (HB0.out.trans (hb.mono HB0.out.size))
    clear hS hb
    refine anyX_last (by kernel_rfl) (by kernel_rfl) rfl rfl ?_
    try simp only [zq1, zq2, zq3]
    go_simp
    try apply_assumption
    go_wp2_with fail
    go_ret
    exact ⟨false, rfl, ⟨(fun e => by cases e), fun e => absurd (HL1.out.2 (leadI_iff.1 e.1)) (by simp)⟩, HBZ.out⟩
  | true =>
    have HL1 := Lib.hid (leadI_iff.2 (hb1.1 rfl))
    clear hb1
    refine tkx (i := 4) (v := ?_) hS ?_ ?_
    rotate_left
    ·rintro w' ⟨s0', s1'⟩
     go_simp
     try with_reducible rfl
    try simp only [Act.put, zq1, zq2, zq3, zq4, zq5, zq6]
    refine tkx (i := 5) (v := ?_) hS ?_ ?_
    rotate_left
    ·rintro w' ⟨s0', s1'⟩
     go_simp
     try with_reducible rfl
    try simp only [Act.put, zq1, zq2, zq3, zq4, zq5, zq6]
    refine tkx (i := 6) (v := ?_) hS ?_ ?_
    rotate_left
    ·rintro w' ⟨s0', s1'⟩
     go_simp
     try with_reducible rfl
    try simp only [Act.put, zq1, zq2, zq3, zq4, zq5, zq6]
    refine tkx (i := 7) (v := ?_) hS ?_ ?_
    rotate_left
    ·rintro w' ⟨s0', s1'⟩
     go_simp
     try with_reducible rfl
    try simp only [Act.put, zq1, zq2, zq3, zq4, zq5, zq6]
    refine tkx (i := 8) (v := ?_) hS ?_ ?_
    rotate_left
    ·rintro w' ⟨s0', s1'⟩
     go_simp
     try with_reducible rfl
    try simp only [Act.put, zq1, zq2, zq3, zq4, zq5, zq6]
    refine tkx (i := 9) (v := ?_) hS ?_ ?_
    rotate_left
    ·rintro w' ⟨s0', s1'⟩
     go_simp
     try with_reducible rfl
    try simp only [Act.put, zq1, zq2, zq3, zq4, zq5, zq6]
    refine anyX_g (i := 10) (by kernel_rfl) (by decide) rfl (by rfl) ?_
    intro K hK
    try simp only [zq1, zq2, zq3]
    refine wp_enterE #[.agg #[.slice A T.length cap]] Try.func53 (by kernel_rfl) (by kernel_rfl) ?_ (tsize_any A T.length cap V1) ?_
    ·go_simp
    rintro e V2 ⟨rfl, hbn⟩
    replace hb := hb.trans (hbn.mono hb.size)
    clear hbn
    replace hS := HKS.out _ hb
    refine ⟨_, rfl, ?_⟩
    refine hK _ _ hS ?_
    clear hK
    try simp only [Act.put, zq1, zq2, zq3, zq4, zq5, zq6]
    by_cases h2 : m = T.length
    ·have q1 : ((m : Int) == (T.length : Int)) = true := by simp; omega
     have H2 := Lib.hid h2
     clear h2
     refine tkx (i := 11) (v := ?_) hS ?_ ?_
     rotate_left
     ·rintro w' ⟨s0', s1'⟩
      go_simp
      try with_reducible rfl
     try simp only [Act.put, zq1, zq2, zq3, zq4, zq5, zq6]
     refine tkx (i := 12) (v := ?_) hS ?_ ?_
     rotate_left
     ·rintro w' ⟨s0', s1'⟩
      go_simp
      try with_reducible rfl
     try simp only [Act.put, zq1, zq2, zq3, zq4, zq5, zq6]
     refine tkx (i := 13) (v := ?_) hS ?_ ?_
     rotate_left
     ·rintro w' ⟨s0', s1'⟩
      go_simp
      try with_reducible rfl
     try simp only [Act.put, zq1, zq2, zq3, zq4, zq5, zq6]
     refine tkx (i := 14) (v := ?_) hS ?_ ?_
     rotate_left
     ·rintro w' ⟨s0', s1'⟩
      go_simp
      try with_reducible rfl
     try simp only [Act.put, zq1, zq2, zq3, zq4, zq5, zq6]
     refine tkx (i := 15) (v := ?_) hS ?_ ?_
     rotate_left
     ·rintro w' ⟨s0', s1'⟩
      go_simp
      try with_reducible rfl
     try simp only [Act.put, zq1, zq2, zq3, zq4, zq5, zq6]
     refine anyX_g (i := 16) (by kernel_rfl) (by decide) rfl (by rfl) ?_
     intro K hK
     try simp only [zq1, zq2, zq3]
     refine wp_enterE #[.int .i64 0, .int .i64 99999, .slice O m oc] Try.func54 (by kernel_rfl) (by kernel_rfl) ?_ (twithin_any 0 99999 (HO.out.below hb)) ?_
     ·go_simp
     rintro e V3 ⟨rfl, hV3⟩
     subst hV3
     refine ⟨_, rfl, ?_⟩
     refine hK _ _ hS ?_
     clear hK
     try simp only [Act.put, zq1, zq2, zq3, zq4, zq5, zq6]
     refine tkx (i := 17) (v := ?_) hS ?_ ?_
     rotate_left
     ·rintro w' ⟨s0', s1'⟩
      go_simp
      try with_reducible rfl
     try simp only [Act.put, zq1, zq2, zq3, zq4, zq5, zq6]
     have HBZ := Lib.hid (HB0.out.trans (hb.mono HB0.out.size))
     clear hS hb
     refine anyX_last (by kernel_rfl) (by kernel_rfl) rfl rfl ?_
     try simp only [zq1, zq2, zq3]
     go_simp
     try apply_assumption
     go_wp2_with fail
     go_ret
     exact ⟨_, rfl, ⟨fun e => ⟨HL1.out, by rw [HL.out, H2.out], inB_iff.1 e⟩, fun e => inB_iff.2 e.2.2⟩, HBZ.out⟩
    ·have q1 : ((m : Int) == (T.length : Int)) = false := by simp; omega
     have q2 : ¬ (m : Int) = (T.length : Int) := by omega
     have H2 := Lib.hid h2
     clear h2
     refine tkx (i := 11) (v := ?_) hS ?_ ?_
     rotate_left
     ·rintro w' ⟨s0', s1'⟩
      go_simp
      try with_reducible rfl
     try simp only [Act.put, zq1, zq2, zq3, zq4, zq5, zq6]
     refine tkx (i := 12) (v := ?_) hS ?_ ?_
     rotate_left
     ·rintro w' ⟨s0', s1'⟩
      go_simp
      try with_reducible rfl
     try simp only [Act.put, zq1, zq2, zq3, zq4, zq5, zq6]
     refine tkx (i := 13) (v := ?_) hS ?_ ?_
     rotate_left
     ·rintro w' ⟨s0', s1'⟩
      go_simp
      try with_reducible rfl
     try simp only [Act.put, zq1, zq2, zq3, zq4, zq5, zq6]
     refine tkskip (i := 14) hS ?_
     try simp only [Act.put, zq1, zq2, zq3, zq4, zq5, zq6]
     refine tkskip (i := 15) hS ?_
     try simp only [Act.put, zq1, zq2, zq3, zq4, zq5, zq6]
     refine tkskip (i := 16) hS ?_
     try simp only [Act.put, zq1, zq2, zq3, zq4, zq5, zq6]
     refine tkx (i := 17) (v := ?_) hS ?_ ?_
     rotate_left
     ·rintro w' ⟨s0', s1'⟩
      go_simp
      try with_reducible rfl
     try simp only [Act.put, zq1, zq2, zq3, zq4, zq5, zq6]
     have HBZ := Lib.hid (HB0.out.trans (hb.mono HB0.out.size))
     clear hS hb
     refine anyX_last (by kernel_rfl) (by kernel_rfl) rfl rfl ?_
     try simp only [zq1, zq2, zq3]
     go_simp
     try apply_assumption
     go_wp2_with fail
     go_ret
     exact ⟨false, rfl, ⟨(fun e => by cases e), fun e => absurd (show m = T.length by rw [<- HL.out]; exact e.2.1) H2.out⟩, HBZ.out⟩
end Go.Proofs.Ytjkcglgkdclidaa
