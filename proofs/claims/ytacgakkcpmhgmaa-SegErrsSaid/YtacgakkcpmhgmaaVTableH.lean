/- Contracts of table: backward.right, forward.right, Right. Contracts of table: forward.right. Contracts of table: Right. -/
import Derived.Test.YtacgakkcpmhgmaaVTableB
import Derived.Test.YtacgakkcpmhgmaaVLastY
set_option linter.unusedVariables false
set_option linter.unusedSimpArgs false
set_option maxRecDepth 100000
set_option maxHeartbeats 4000000
namespace Go.Proofs.Ytacgakkcpmhgmaa
open Go Go.RowKit Go.Proofs
section
variable {P : Program} {ops : Array Oper} {Q : Exit -> Act -> World -> Prop} {md : Region.Mode} {S : World -> Prop} {m : Nat}
theorem tkskip {i : Nat} {oi : Oper} {fuel : Nat} {listed : Array Bool} {a : Act} {w : World} (hS : S w)
  (h : anyX P md ops Q S m fuel (listed.setIfInBounds i true) (a.put oi.dst undef) w)
  (hi : ops[i]? = some oi := by rfl) (hg : Region.wanted oi (yielded ops a.tmps) = false := by rfl)
  (hs : Region.noSelect ops = true := by kernel_rfl) (hf : Region.free md ops listed i = true := by kernel_rfl) (hr : (Region.ready md ops listed).contains i = true := by kernel_rfl) (hw : waits md ops m i = true := by kernel_rfl)
  (hQ : ∀ c a w, Q (.panic c) (a.put oi.dst undef) w -> Q (.panic c) a w := by exact fun _ _ _ h => h) : anyX P md ops Q S m (fuel + 1) listed a w :=
  anyX_take hi hs hf hr hw hQ (Or.inr ⟨hg, rfl⟩) hS h
end
theorem leadI_iff {T : List (List Int)} {n : Nat} : LeadI T n ↔ (1 <= T.length /\ T.length <= 100000 /\ ∀ r ∈ T, (r.length : Int) = (n : Int) /\ ∀ x ∈ r, 0 <= x /\ x < (T.length : Int)) := by
 unfold LeadI
 constructor
 ·rintro ⟨a, b, c⟩; exact ⟨a, b, fun r hr => ⟨by rw [(c r hr).1], (c r hr).2⟩⟩
 ·rintro ⟨a, b, c⟩; exact ⟨a, b, fun r hr => ⟨by have := (c r hr).1; omega, (c r hr).2⟩⟩
theorem backRight_any {w : World} {A O : Option Addr} {cap m oc : Nat} {T : List (List Int)} {bo : List Int} {n : Nat} (h : RowsI w (.slice A T.length cap) T) (ho : ReadsI w (.slice O m oc) m bo) :
  Calls Try.prog 61 #[.agg #[.slice A T.length cap, .slice O m oc], .int .i64 (n : Int)] w fun e w' => ∃ b, e = .returned (.bool b) /\ (b = true ↔ BackR T bo n) /\ Below w.heap.size w w' := by
  obtain ⟨A2, cap2, e2, l1, l2⟩ := h.form
  simp only [Value.slice.injEq, true_and] at e2
  obtain ⟨rfl, rfl⟩ := e2
  obtain ⟨A3, cap3, e3, l3, l4, l5⟩ := ho.form
  simp only [Value.slice.injEq, true_and] at e3
  obtain ⟨rfl, rfl⟩ := e3
  obtain ⟨W0, hW0⟩ : ∃ W, w.alloc (.cells #[.slice A T.length cap, .slice O m oc] 97) = W := ⟨_, rfl⟩
  have hb0 : Below w.heap.size w W0 := by rw [<- hW0]; exact (Below.refl _ _).alloc (Nat.le_refl _) _
  have hx0 : Blk W0 w.heap.size 97 #[.slice A T.length cap, .slice O m oc] := by rw [<- hW0]; exact Blk.new _ _ _
  obtain ⟨b, hbw⟩ : ∃ b, b = w.heap.size := ⟨_, rfl⟩
  rw [<- hbw] at hx0
  have HH := Lib.hid (h.below hb0); have HO := Lib.hid (ho.below hb0)
  have HL := Lib.hid l5
  have HKS : Hid (∀ W, Below W0.heap.size W0 W -> (fun W : World => W.cell? ⟨b, 0, none⟩ = some (.slice A T.length cap) /\ W.cell? ⟨b, 1, none⟩ = some (.slice O m oc)) W) := Lib.hid (fun W hW => ⟨bel_m hW (hx0.cell 0), bel_m hW (hx0.cell 1)⟩)
  have HW0 := Lib.hid hW0; have HB0 := Lib.hid hb0; have HBW := Lib.hid hbw
  clear h ho hW0 hb0 hx0 l5 hbw
  go_enter Try.func61, Try.ntmps61
  go_wp2_with fail
  rw [HW0.out, <- HBW.out]
  have hb : Below W0.heap.size W0 W0.drew := (Below.refl _ _).drew
  have hS := HKS.out _ hb
  refine region_x 18 (fun W : World => W.cell? ⟨b, 0, none⟩ = some (.slice A T.length cap) /\ W.cell? ⟨b, 1, none⟩ = some (.slice O m oc)) (by kernel_rfl) ?_
  generalize W0.drew = V0 at *
  refine tkx (i := 0) (v := ?_) hS ?_ ?_
  rotate_left
  ·rintro w' ⟨s0', s1'⟩
   go_simp
   try with_reducible rfl
  try simp only [Act.put, zq1, zq2, zq3, zq4, zq5, zq6]
  refine tkx (i := 1) (v := ?_) hS ?_ ?_
  rotate_left
  ·rintro w' ⟨s0', s1'⟩
   go_simp
   try with_reducible rfl
  try simp only [Act.put, zq1, zq2, zq3, zq4, zq5, zq6]
  refine tkx (i := 2) (v := ?_) hS ?_ ?_
  rotate_left
  ·rintro w' ⟨s0', s1'⟩
   go_simp
   try with_reducible rfl
  try simp only [Act.put, zq1, zq2, zq3, zq4, zq5, zq6]
  refine anyX_g (i := 3) (by kernel_rfl) (by decide) rfl (by rfl) ?_
  intro K hK
  try simp only [zq1, zq2, zq3]
  refine wp_enterE #[.agg #[.slice A T.length cap], .int .i64 (n : Int)] Try.func73 (by kernel_rfl) (by kernel_rfl) ?_ (lead_any (n := (n : Int)) (HH.out.below hb)) ?_
  ·go_simp
  rintro e V1 ⟨b1, rfl, hb1, hbn⟩
  replace hb := hb.trans (hbn.mono hb.size)
  clear hbn
  replace hS := HKS.out _ hb
  refine ⟨_, rfl, ?_⟩
  refine hK _ _ hS ?_
  clear hK
  try simp only [Act.put, zq1, zq2, zq3, zq4, zq5, zq6]
  cases b1 with
  | false =>
    have HL1 := Lib.hid hb1
    clear hb1
    refine tkx (i := 4) (v := ?_) hS ?_ ?_
    rotate_left
    ·rintro w' ⟨s0', s1'⟩
     go_simp
     try with_reducible rfl
    try simp only [Act.put, zq1, zq2, zq3, zq4, zq5, zq6]
    refine tkskip (i := 5) hS ?_
    try simp only [Act.put, zq1, zq2, zq3, zq4, zq5, zq6]
    refine tkskip (i := 6) hS ?_
    try simp only [Act.put, zq1, zq2, zq3, zq4, zq5, zq6]
    refine tkskip (i := 7) hS ?_
    try simp only [Act.put, zq1, zq2, zq3, zq4, zq5, zq6]
    refine tkskip (i := 8) hS ?_
    try simp only [Act.put, zq1, zq2, zq3, zq4, zq5, zq6]
    refine tkskip (i := 9) hS ?_
    try simp only [Act.put, zq1, zq2, zq3, zq4, zq5, zq6]
    refine tkskip (i := 10) hS ?_
    try simp only [Act.put, zq1, zq2, zq3, zq4, zq5, zq6]
    refine tkskip (i := 11) hS ?_
    try simp only [Act.put, zq1, zq2, zq3, zq4, zq5, zq6]
    refine tkx (i := 12) (v := ?_) hS ?_ ?_
    rotate_left
    ·rintro w' ⟨s0', s1'⟩
     go_simp
     try with_reducible rfl
    try simp only [Act.put, zq1, zq2, zq3, zq4, zq5, zq6]
    refine tkx (i := 13) (v := ?_) hS ?_ ?_
    rotate_left
    ·rintro w' ⟨s0', s1'⟩
     go_simp
     try with_reducible rfl
    try simp only [Act.put, zq1, zq2, zq3, zq4, zq5, zq6]
    refine tkskip (i := 14) hS ?_
    try simp only [Act.put, zq1, zq2, zq3, zq4, zq5, zq6]
    refine tkskip (i := 15) hS ?_
    try simp only [Act.put, zq1, zq2, zq3, zq4, zq5, zq6]
    refine tkskip (i := 16) hS ?_
    try simp only [Act.put, zq1, zq2, zq3, zq4, zq5, zq6]
    refine tkx (i := 17) (v := ?_) hS ?_ ?_
    rotate_left
    ·rintro w' ⟨s0', s1'⟩
     go_simp
     try with_reducible rfl
    try simp only [Act.put, zq1, zq2, zq3, zq4, zq5, zq6]
    have HBZ := Lib.hid (HB0.out.trans (hb.mono HB0.out.size))
    clear hS hb
    refine anyX_last (by kernel_rfl) (by kernel_rfl) rfl rfl ?_
    try simp only [zq1, zq2, zq3]
    go_simp
    try apply_assumption
    go_wp2_with fail
    go_ret
    exact ⟨false, rfl, ⟨(fun e => by cases e), fun e => absurd (HL1.out.2 (leadI_iff.1 e.1)) (by simp)⟩, HBZ.out⟩
  | true =>
    have HL1 := Lib.hid (leadI_iff.2 (hb1.1 rfl))
    clear hb1
    refine tkx (i := 4) (v := ?_) hS ?_ ?_
    rotate_left
    ·rintro w' ⟨s0', s1'⟩
     go_simp
     try with_reducible rfl
    try simp only [Act.put, zq1, zq2, zq3, zq4, zq5, zq6]
    refine tkx (i := 5) (v := ?_) hS ?_ ?_
    rotate_left
    ·rintro w' ⟨s0', s1'⟩
     go_simp
     try with_reducible rfl
    try simp only [Act.put, zq1, zq2, zq3, zq4, zq5, zq6]
    refine tkx (i := 6) (v := ?_) hS ?_ ?_
    rotate_left
    ·rintro w' ⟨s0', s1'⟩
     go_simp
     try with_reducible rfl
    try simp only [Act.put, zq1, zq2, zq3, zq4, zq5, zq6]
    refine tkx (i := 7) (v := ?_) hS ?_ ?_
    rotate_left
    ·rintro w' ⟨s0', s1'⟩
     go_simp
     try with_reducible rfl
    try simp only [Act.put, zq1, zq2, zq3, zq4, zq5, zq6]
    refine tkx (i := 8) (v := ?_) hS ?_ ?_
    rotate_left
    ·rintro w' ⟨s0', s1'⟩
     go_simp
     try with_reducible rfl
    try simp only [Act.put, zq1, zq2, zq3, zq4, zq5, zq6]
    refine tkx (i := 9) (v := ?_) hS ?_ ?_
    rotate_left
    ·rintro w' ⟨s0', s1'⟩
     go_simp
     try with_reducible rfl
    try simp only [Act.put, zq1, zq2, zq3, zq4, zq5, zq6]
    refine anyX_g (i := 10) (by kernel_rfl) (by decide) rfl (by rfl) ?_
    intro K hK
    try simp only [zq1, zq2, zq3]
    refine wp_enterE #[.agg #[.slice A T.length cap]] Try.func74 (by kernel_rfl) (by kernel_rfl) ?_ (tsize_any A T.length cap V1) ?_
    ·go_simp
    rintro e V2 ⟨rfl, hbn⟩
    replace hb := hb.trans (hbn.mono hb.size)
    clear hbn
    replace hS := HKS.out _ hb
    refine ⟨_, rfl, ?_⟩
    refine hK _ _ hS ?_
    clear hK
    try simp only [Act.put, zq1, zq2, zq3, zq4, zq5, zq6]
    by_cases h2 : m = T.length
    ·have q1 : ((m : Int) == (T.length : Int)) = true := by simp; omega
     have H2 := Lib.hid h2
     clear h2
     refine tkx (i := 11) (v := ?_) hS ?_ ?_
     rotate_left
     ·rintro w' ⟨s0', s1'⟩
      go_simp
      try with_reducible rfl
     try simp only [Act.put, zq1, zq2, zq3, zq4, zq5, zq6]
     refine tkx (i := 12) (v := ?_) hS ?_ ?_
     rotate_left
     ·rintro w' ⟨s0', s1'⟩
      go_simp
      try with_reducible rfl
     try simp only [Act.put, zq1, zq2, zq3, zq4, zq5, zq6]
     refine tkx (i := 13) (v := ?_) hS ?_ ?_
     rotate_left
     ·rintro w' ⟨s0', s1'⟩
      go_simp
      try with_reducible rfl
     try simp only [Act.put, zq1, zq2, zq3, zq4, zq5, zq6]
     refine tkx (i := 14) (v := ?_) hS ?_ ?_
     rotate_left
     ·rintro w' ⟨s0', s1'⟩
      go_simp
      try with_reducible rfl
     try simp only [Act.put, zq1, zq2, zq3, zq4, zq5, zq6]
     refine tkx (i := 15) (v := ?_) hS ?_ ?_
     rotate_left
     ·rintro w' ⟨s0', s1'⟩
      go_simp
      try with_reducible rfl
     try simp only [Act.put, zq1, zq2, zq3, zq4, zq5, zq6]
     refine anyX_g (i := 16) (by kernel_rfl) (by decide) rfl (by rfl) ?_
     intro K hK
     try simp only [zq1, zq2, zq3]
     refine wp_enterE #[.int .i64 0, .int .i64 99999, .slice O m oc] Try.func75 (by kernel_rfl) (by kernel_rfl) ?_ (twithin_any 0 99999 (HO.out.below hb)) ?_
     ·go_simp
     rintro e V3 ⟨rfl, hV3⟩
     subst hV3
     refine ⟨_, rfl, ?_⟩
     refine hK _ _ hS ?_
     clear hK
     try simp only [Act.put, zq1, zq2, zq3, zq4, zq5, zq6]
     refine tkx (i := 17) (v := ?_) hS ?_ ?_
     rotate_left
     ·rintro w' ⟨s0', s1'⟩
      go_simp
      try with_reducible rfl
     try simp only [Act.put, zq1, zq2, zq3, zq4, zq5, zq6]
     have HBZ := Lib.hid (HB0.out.trans (hb.mono HB0.out.size))
     clear hS hb
     refine anyX_last (by kernel_rfl) (by kernel_rfl) rfl rfl ?_
     try simp only [zq1, zq2, zq3]
     go_simp
     try apply_assumption
     go_wp2_with fail
     go_ret
     exact ⟨_, rfl, ⟨fun e => ⟨HL1.out, by rw [HL.out, H2.out], inB_iff.1 e⟩, fun e => inB_iff.2 e.2.2⟩, HBZ.out⟩
    ·have q1 : ((m : Int) == (T.length : Int)) = false := by simp; omega
     have q2 : ¬ (m : Int) = (T.length : Int) := by omega
     have H2 := Lib.hid h2
     clear h2
     refine tkx (i := 11) (v := ?_) hS ?_ ?_
     rotate_left
     ·rintro w' ⟨s0', s1'⟩
      go_simp
      try with_reducible rfl
     try simp only [Act.put, zq1, zq2, zq3, zq4, zq5, zq6]
     refine tkx (i := 12) (v := ?_) hS ?_ ?_
     rotate_left
     ·rintro w' ⟨s0', s1'⟩
      go_simp
      try with_reducible rfl
     try simp only [Act.put, zq1, zq2, zq3, zq4, zq5, zq6]
     refine tkx (i := 13) (v := ?_) hS ?_ ?_
     rotate_left
     ·rintro w' ⟨s0', s1'⟩
      go_simp
      try with_reducible rfl
     try simp only [Act.put, zq1, zq2, zq3, zq4, zq5, zq6]
     refine tkskip (i := 14) hS ?_
     try simp only [Act.put, zq1, zq2, zq3, zq4, zq5, zq6]
     refine tkskip (i := 15) hS ?_
     try simp only [Act.put, zq1, zq2, zq3, zq4, zq5, zq6]
     refine tkskip (i := 16) hS ?_
     try simp only [Act.put, zq1, zq2, zq3, zq4, zq5, zq6]
     refine tkx (i := 17) (v := ?_) hS ?_ ?_
     rotate_left
     ·rintro w' ⟨s0', s1'⟩
      go_simp
      try with_reducible rfl
     try simp only [Act.put, zq1, zq2, zq3, zq4, zq5, zq6]
     have HBZ := Lib.hid (HB0.out.trans (hb.mono HB0.out.size))
     clear hS hb
     refine anyX_last (by kernel_rfl) (by kernel_rfl) rfl rfl ?_
     try simp only [zq1, zq2, zq3]
     go_simp
     try apply_assumption
     go_wp2_with fail
     go_ret
     exact ⟨false, rfl, ⟨(fun e => by cases e), fun e => absurd (show m = T.length by rw [<- HL.out]; exact e.2.1) H2.out⟩, HBZ.out⟩
end Go.Proofs.Ytacgakkcpmhgmaa
namespace Go.Proofs.Ytacgakkcpmhgmaa
open Go Go.RowKit Go.Proofs
section
variable {P : Program} {ops : Array Oper} {Q : Exit -> Act -> World -> Prop} {md : Region.Mode} {S : World -> Prop} {m : Nat}
theorem tkygskip (G : List Nat) {i : Nat} {oi : Oper} {fuel : Nat} {listed : Array Bool} {a : Act} {w : World} (hS : S w)
  (h : anyY P md ops Q S m fuel (listed.setIfInBounds i true) (a.put oi.dst undef) w)
  (hi : ops[i]? = some oi := by rfl) (hg : Region.wanted oi (yielded ops a.tmps) = false := by rfl)
  (hs : Region.noSelect ops = true := by kernel_rfl) (hf : Region.free md ops listed i = true := by kernel_rfl) (hr : (Region.ready md ops listed).contains i = true := by kernel_rfl) (hw : gated md ops m G i = true := by kernel_rfl) (hm : listed.getD m true = false := by kernel_rfl) (hG : (G.all fun g => !(listed.getD g true)) = true := by kernel_rfl)
  (hQ : ∀ c a w, Q (.panic c) (a.put oi.dst undef) w -> Q (.panic c) a w := by exact fun _ _ _ h => h) : anyY P md ops Q S m (fuel + 1) listed a w :=
  anyY_firstG hi (Region.noSelect_spec hs) hQ hw fuel listed a w (Region.free_spec hi hf) hm (fun g hg => by
   have := List.all_eq_true.1 hG g hg
   simpa using this) (by simpa using hr) (Or.inr ⟨hg, rfl⟩) hS h
theorem anyY_gw {i : Nat} {o : Oper} {fuel : Nat} {listed : Array Bool} {a : Act} {w : World} (hr : Region.ready md ops listed = [i]) (ho : ops[i]? = some o) (hw : Region.wanted o (yielded ops a.tmps) = true)
  (h : ∀ K' : Act -> World -> Prop, (∀ a w, S w -> anyY P md ops Q S m fuel (listed.setIfInBounds i true) a w -> K' a w) -> Oper.wp P o a w K' Q) : anyY P md ops Q S m (fuel + 1) listed a w := by
  refine ⟨fun h0 => (by rw [hr] at h0; cases h0), fun j hj => ?_⟩
  rw [hr] at hj
  obtain rfl : j = i := by simpa using hj
  unfold wpOp
  rw [ho]
  simp only [hw, if_true]
  exact .inl (h _ fun a w hS hx => ⟨fun _ _ => hS, hx⟩)
end
theorem fwdRight_any {w : World} {A X : Option Addr} {cap xc : Nat} {T : List (List Int)} {fe : List (List V3)} {n : Nat} (q : Int) (h : RowsI w (.slice A T.length cap) T) (he : EmitR w (.slice X fe.length xc) fe) :
  Calls Try.prog 62 #[.agg #[.slice A T.length cap, .slice X fe.length xc], .int .i64 (n : Int), .int .i64 q] w fun e w' => ∃ b, e = .returned (.bool b) /\ (b = true ↔ FwdR T fe n q) /\ Below w.heap.size w w' := by
  obtain ⟨A2, cap2, e2, l1, l2⟩ := h.form
  simp only [Value.slice.injEq, true_and] at e2
  obtain ⟨rfl, rfl⟩ := e2
  obtain ⟨A3, cap3, e3, l3, l4⟩ := he.form
  simp only [Value.slice.injEq, true_and] at e3
  obtain ⟨rfl, rfl⟩ := e3
  obtain ⟨W0, hW0⟩ : ∃ W, w.alloc (.cells #[.slice A T.length cap, .slice X fe.length xc] 99) = W := ⟨_, rfl⟩
  have hb0 : Below w.heap.size w W0 := by rw [<- hW0]; exact (Below.refl _ _).alloc (Nat.le_refl _) _
  have hx0 : Blk W0 w.heap.size 99 #[.slice A T.length cap, .slice X fe.length xc] := by rw [<- hW0]; exact Blk.new _ _ _
  obtain ⟨b, hbw⟩ : ∃ b, b = w.heap.size := ⟨_, rfl⟩
  rw [<- hbw] at hx0
  have HH := Lib.hid (h.below hb0); have HE := Lib.hid (he.below hb0)
  have HKS : Hid (∀ W, Below W0.heap.size W0 W -> (fun W : World => W.cell? ⟨b, 0, none⟩ = some (.slice A T.length cap) /\ W.cell? ⟨b, 1, none⟩ = some (.slice X fe.length xc)) W) := Lib.hid (fun W hW => ⟨bel_m hW (hx0.cell 0), bel_m hW (hx0.cell 1)⟩)
  have HW0 := Lib.hid hW0; have HB0 := Lib.hid hb0; have HBW := Lib.hid hbw
  clear h he hW0 hb0 hx0 hbw
  go_enter Try.func62, Try.ntmps62
  go_wp2_with fail
  rw [HW0.out, <- HBW.out]
  have hb : Below W0.heap.size W0 W0.drew := (Below.refl _ _).drew
  have hS := HKS.out _ hb
  refine region_y 13 (fun W : World => W.cell? ⟨b, 0, none⟩ = some (.slice A T.length cap) /\ W.cell? ⟨b, 1, none⟩ = some (.slice X fe.length xc)) (by kernel_rfl) ?_
  generalize W0.drew = V0 at *
  refine tkyg [5, 4, 3, 1] (i := 0) (v := ?_) hS ?_ ?_
  rotate_left
  ·rintro w' ⟨s0', s1'⟩
   go_simp
   try with_reducible rfl
  try simp only [Act.put, zq1, zq2, zq3, zq4, zq5, zq6]
  refine tkyg [5, 4, 3] (i := 1) (v := ?_) hS ?_ ?_
  rotate_left
  ·rintro w' ⟨s0', s1'⟩
   go_simp
   try with_reducible rfl
  try simp only [Act.put, zq1, zq2, zq3, zq4, zq5, zq6]
  refine tkyg [5, 4, 3] (i := 2) (v := ?_) hS ?_ ?_
  rotate_left
  ·rintro w' ⟨s0', s1'⟩
   go_simp
   try with_reducible rfl
  try simp only [Act.put, zq1, zq2, zq3, zq4, zq5, zq6]
  refine anyY_gw (i := 3) (by kernel_rfl) rfl (by rfl) ?_
  intro K hK
  try simp only [zq1, zq2, zq3]
  refine wp_enterE #[.agg #[.slice A T.length cap], .int .i64 (n : Int)] Try.func73 (by kernel_rfl) (by kernel_rfl) ?_ (lead_any (n := (n : Int)) (HH.out.below hb)) ?_
  ·go_simp
  rintro e V1 ⟨b1, rfl, hb1, hbn⟩
  replace hb := hb.trans (hbn.mono hb.size)
  clear hbn
  replace hS := HKS.out _ hb
  refine ⟨_, rfl, ?_⟩
  refine hK _ _ hS ?_
  clear hK
  try simp only [Act.put, zq1, zq2, zq3, zq4, zq5, zq6]
  cases b1 with
  | false =>
    have HL1 := Lib.hid hb1
    clear hb1
    refine tkyg [5] (i := 4) (v := ?_) hS ?_ ?_
    rotate_left
    ·rintro w' ⟨s0', s1'⟩
     go_simp
     try with_reducible rfl
    try simp only [Act.put, zq1, zq2, zq3, zq4, zq5, zq6]
    refine tky (i := 5) (v := ?_) hS ?_ ?_
    rotate_left
    ·rintro w' ⟨s0', s1'⟩
     go_simp
     try with_reducible rfl
    try simp only [Act.put, zq1, zq2, zq3, zq4, zq5, zq6]
    refine tkygskip [12, 8, 7] (i := 6) hS ?_
    try simp only [Act.put, zq1, zq2, zq3, zq4, zq5, zq6]
    refine tkygskip [12, 8] (i := 7) hS ?_
    try simp only [Act.put, zq1, zq2, zq3, zq4, zq5, zq6]
    refine tkygskip [12] (i := 8) hS ?_
    try simp only [Act.put, zq1, zq2, zq3, zq4, zq5, zq6]
    refine tkygskip [12, 11, 10] (i := 9) hS ?_
    try simp only [Act.put, zq1, zq2, zq3, zq4, zq5, zq6]
    refine tkygskip [12, 11] (i := 10) hS ?_
    try simp only [Act.put, zq1, zq2, zq3, zq4, zq5, zq6]
    refine tkygskip [12] (i := 11) hS ?_
    try simp only [Act.put, zq1, zq2, zq3, zq4, zq5, zq6]
    refine tkygskip [] (i := 12) hS ?_
    try simp only [Act.put, zq1, zq2, zq3, zq4, zq5, zq6]
    have HBZ := Lib.hid (HB0.out.trans (hb.mono HB0.out.size))
    clear hS hb
    refine anyY_last (i := 13) (by kernel_rfl) (by kernel_rfl) (by kernel_rfl) rfl rfl ?_
    try simp only [zq1, zq2, zq3]
    go_simp
    try apply_assumption
    go_wp2_with fail
    go_ret
    exact ⟨false, rfl, ⟨(fun e => by cases e), fun e => absurd (HL1.out.2 (leadI_iff.1 e.1)) (by simp)⟩, HBZ.out⟩
  | true =>
    have HL1 := Lib.hid (leadI_iff.2 (hb1.1 rfl))
    clear hb1
    refine tkyg [5] (i := 4) (v := ?_) hS ?_ ?_
    rotate_left
    ·rintro w' ⟨s0', s1'⟩
     go_simp
     try with_reducible rfl
    try simp only [Act.put, zq1, zq2, zq3, zq4, zq5, zq6]
    refine tky (i := 5) (v := ?_) hS ?_ ?_
    rotate_left
    ·rintro w' ⟨s0', s1'⟩
     go_simp
     try with_reducible rfl
    try simp only [Act.put, zq1, zq2, zq3, zq4, zq5, zq6]
    refine tkyg [12, 8, 7] (i := 6) (v := ?_) hS ?_ ?_
    rotate_left
    ·rintro w' ⟨s0', s1'⟩
     go_simp
     try with_reducible rfl
    try simp only [Act.put, zq1, zq2, zq3, zq4, zq5, zq6]
    refine tkyg [12, 8] (i := 7) (v := ?_) hS ?_ ?_
    rotate_left
    ·rintro w' ⟨s0', s1'⟩
     go_simp
     try with_reducible rfl
    try simp only [Act.put, zq1, zq2, zq3, zq4, zq5, zq6]
    refine tkyg [12] (i := 8) (v := ?_) hS ?_ ?_
    rotate_left
    ·rintro w' ⟨s0', s1'⟩
     go_simp
     try with_reducible rfl
    try simp only [Act.put, zq1, zq2, zq3, zq4, zq5, zq6]
    refine tkyg [12, 11, 10] (i := 9) (v := ?_) hS ?_ ?_
    rotate_left
    ·rintro w' ⟨s0', s1'⟩
     go_simp
     try with_reducible rfl
    try simp only [Act.put, zq1, zq2, zq3, zq4, zq5, zq6]
    refine tkyg [12, 11] (i := 10) (v := ?_) hS ?_ ?_
    rotate_left
    ·rintro w' ⟨s0', s1'⟩
     go_simp
     try with_reducible rfl
    try simp only [Act.put, zq1, zq2, zq3, zq4, zq5, zq6]
    refine anyY_gw (i := 11) (by kernel_rfl) rfl (by rfl) ?_
    intro K hK
    try simp only [zq1, zq2, zq3]
    refine wp_enterE #[.agg #[.slice A T.length cap]] Try.func74 (by kernel_rfl) (by kernel_rfl) ?_ (tsize_any A T.length cap V1) ?_
    ·go_simp
    rintro e V2 ⟨rfl, hbn⟩
    replace hb := hb.trans (hbn.mono hb.size)
    clear hbn
    replace hS := HKS.out _ hb
    refine ⟨_, rfl, ?_⟩
    refine hK _ _ hS ?_
    clear hK
    try simp only [Act.put, zq1, zq2, zq3, zq4, zq5, zq6]
    by_cases h2 : fe.length = T.length
    ·have q1 : ((fe.length : Int) != (T.length : Int)) = false := by simp; omega
     have H2 := Lib.hid h2
     clear h2
     refine tky (i := 12) (v := ?_) hS ?_ ?_
     rotate_left
     ·rintro w' ⟨s0', s1'⟩
      go_simp
      try with_reducible rfl
     try simp only [Act.put, zq1, zq2, zq3, zq4, zq5, zq6]
     have HBY := Lib.hid hb
     have hS2 := hS
     clear hS hb
     refine anyY_last (i := 13) (by kernel_rfl) (by kernel_rfl) (by kernel_rfl) rfl rfl ?_
     try simp only [zq1, zq2, zq3]
     go_simp
     try apply_assumption
     have c1 := hS2.2
     clear hS2
     go_wp2_with fail
     clear c1
     go_loopw [26] (fun vi wr => ∃ i : Nat, vi = .int .i64 (i : Int) /\ i <= fe.length /\ Hid (∀ j, j < i -> ((fe.getD j []).length : Int) = q /\ ∀ u ∈ fe.getD j [], CostV u) /\ Hid (Below W0.heap.size W0 wr)) (fun vi _ => fe.length - (intOf vi).toNat)
     case atStart => exact ⟨0, rfl, Nat.zero_le _, Lib.hid (fun j hj => absurd hj (Nat.not_lt_zero j)), HBY⟩
     case round =>
      clear HBY
      obtain ⟨i, rfl, hi, HJ, HB⟩ := hrel
      have i0 : (0 : Int) <= (i : Int) := Int.natCast_nonneg _
      by_cases hlt : i < fe.length
      ·have i1 : (i : Int) < (fe.length : Int) := by omega
       have t1 : decide (i < fe.length) = true := by simpa using hlt
       have t2 : decide (fe.length <= i) = false := by simpa using hlt
       have hmem : fe.getD i [] ∈ fe := by rw [List.getD_eq_getElem?_getD, List.getElem?_eq_getElem hlt]; simp
       obtain ⟨g, o, A3, k3, c3, e, hm, cr, hr, l13, l14⟩ := (HE.out.below HB.out).at_ (i := i) hlt
       subst e
       obtain ⟨r, er⟩ : ∃ r, fe.getD i [] = r := ⟨_, rfl⟩
       rw [er] at hm hr hmem
       have HR := Lib.hid hr; have HM := Lib.hid hm; have ER := Lib.hid er; have HMEM := Lib.hid hmem
       clear hm hr er hmem
       by_cases hmn : (k3 : Int) = q
       ·subst hmn
        have q1 : ((k3 : Int) != (k3 : Int)) = false := by simp
        go_wp2_with fail
        refine (areCosts_any HR.out).mono ?_
        rintro e w1 ⟨b2, rfl, hb2, hbl⟩
        have HB1 := Lib.hid (HB.out.trans (hbl.mono HB.out.size))
        have HC := Lib.hid hb2
        clear hbl hb2 cr
        cases b2 with
        | false =>
          go_wp2_with fail
          go_ret
          exact ⟨false, rfl, ⟨(fun e => by cases e), fun e => absurd (HC.out.2 (e.2.2 r HMEM.out).2) (by simp)⟩, HB0.out.trans (HB1.out.mono HB0.out.size)⟩
        | true =>
          have HJ1 : Hid (∀ j, j < i + 1 -> ((fe.getD j []).length : Int) = (k3 : Int) /\ ∀ u ∈ fe.getD j [], CostV u) := Lib.hid (fun j hj => by
           by_cases e : j = i
           ·rw [e, ER.out]
            exact ⟨by rw [HM.out], HC.out.1 (by simp)⟩
           ·exact HJ.out j (by omega))
          go_wp2_with fail
          exact ⟨⟨i + 1, by go_num, by omega, HJ1, HB1⟩, by simp [intOf]; omega⟩
       ·have q1 : ((k3 : Int) != q) = true := by simp; exact hmn
        have HF := Lib.hid hmn
        go_wp2_with fail
        go_ret
        exact ⟨false, rfl, ⟨(fun e => by cases e), fun e => absurd (show (k3 : Int) = q by have := (e.2.2 r HMEM.out).1; rwa [<- HM.out] at this) HF.out⟩, HB0.out.trans (HB.out.mono HB0.out.size)⟩
      ·have hif : i = fe.length := by omega
       have HI := Lib.hid hif
       rw [hif]
       clear hif hlt i0 hi
       go_wp2_with fail
       go_ret
       refine ⟨true, rfl, ⟨fun _ => ⟨HL1.out, H2.out, fun r hr => ?_⟩, fun _ => rfl⟩, HB0.out.trans (HB.out.mono HB0.out.size)⟩
       obtain ⟨j, hj, rfl⟩ := List.getElem_of_mem hr
       have h9 := HJ.out j (by rw [HI.out]; exact hj)
       rw [List.getD_eq_getElem?_getD, List.getElem?_eq_getElem hj] at h9
       exact h9
    ·have q1 : ((fe.length : Int) != (T.length : Int)) = true := by simp; omega
     have q2 : ¬ (fe.length : Int) = (T.length : Int) := by omega
     have H2 := Lib.hid h2
     clear h2
     refine tky (i := 12) (v := ?_) hS ?_ ?_
     rotate_left
     ·rintro w' ⟨s0', s1'⟩
      go_simp
      try with_reducible rfl
     try simp only [Act.put, zq1, zq2, zq3, zq4, zq5, zq6]
     have HBZ := Lib.hid (HB0.out.trans (hb.mono HB0.out.size))
     clear hS hb
     refine anyY_last (i := 13) (by kernel_rfl) (by kernel_rfl) (by kernel_rfl) rfl rfl ?_
     try simp only [zq1, zq2, zq3]
     go_simp
     try apply_assumption
     go_wp2_with fail
     go_ret
     exact ⟨false, rfl, ⟨(fun e => by cases e), fun e => absurd e.2.1 H2.out⟩, HBZ.out⟩
end Go.Proofs.Ytacgakkcpmhgmaa
namespace Go.Proofs.Ytacgakkcpmhgmaa
open Go Go.RowKit Go.Proofs
theorem tright_any {w : World} {vc vl vbn vbo vfn vfe : Value} {t : Tab} (h : TabR w vc vl vbn vbo vfn vfe t) :
  Calls Try.prog 46 #[.agg #[vc, vl, vbn, vbo, vfn, vfe]] w fun e w' => ∃ b, e = .returned (.bool b) /\ (b = true ↔ RightT t) /\ Below w.heap.size w w' := by
  obtain ⟨C, cc, rfl, l1, l2, -⟩ := h.c.form
  obtain ⟨L, lc, rfl, l3, l4, -⟩ := h.l.form
  obtain ⟨BN, bc, e1, l5, l6⟩ := h.bn.form
  obtain ⟨BO, oc, rfl, l7, l8, -⟩ := h.bo.form
  obtain ⟨FN, fc, e2, l9, l10⟩ := h.fn.form
  obtain ⟨FE, ec, e3, l11, l12⟩ := h.fe.form
  subst e1 e2 e3
  have HT := Lib.hid h
  clear h
  obtain ⟨b1, hb1⟩ : ∃ b, b = w.heap.size := ⟨_, rfl⟩
  obtain ⟨W0, hW0⟩ : ∃ W, w.alloc (.cells #[.slice C t.cuts.length cc, .slice L t.letters.length lc, .slice BN t.bn.length bc, .slice BO t.bo.length oc, .slice FN t.fn.length fc, .slice FE t.fe.length ec] 32) = W := ⟨_, rfl⟩
  have hb' : Below w.heap.size w W0 := by rw [<- hW0]; exact (Below.refl _ _).alloc (Nat.le_refl _) _
  have xb1 : Blk W0 b1 32 #[.slice C t.cuts.length cc, .slice L t.letters.length lc, .slice BN t.bn.length bc, .slice BO t.bo.length oc, .slice FN t.fn.length fc, .slice FE t.fe.length ec] := by rw [<- hW0, hb1]; exact Blk.new _ _ _
  replace HT := Lib.hid (HT.out.below hb')
  have Xb1 := Lib.hid xb1; have HW0 := Lib.hid hW0; have Eb1 := Lib.hid hb1
  have HB0 := Lib.hid hb'
  clear hb' xb1 hW0 hb1
  obtain ⟨b3, hb3⟩ : ∃ b, b = W0.heap.size := ⟨_, rfl⟩
  obtain ⟨W1, hW1⟩ : ∃ W, W0.alloc (.cells #[.slice C t.cuts.length cc, .slice L t.letters.length lc] 92) = W := ⟨_, rfl⟩
  have hb' : Below W0.heap.size W0 W1 := by rw [<- hW1]; exact (Below.refl _ _).alloc (Nat.le_refl _) _
  have xb3 : Blk W1 b3 92 #[.slice C t.cuts.length cc, .slice L t.letters.length lc] := by rw [<- hW1, hb3]; exact Blk.new _ _ _
  replace Xb1 := Lib.hid (Blk.below Xb1.out hb' Xb1.out.lt)
  replace HT := Lib.hid (HT.out.below hb')
  have Xb3 := Lib.hid xb3; have HW1 := Lib.hid hW1; have Eb3 := Lib.hid hb3
  have HB1 := Lib.hid (HB0.out.trans (hb'.mono HB0.out.size))
  clear hb' xb3 hW1 hb3 HB0
  have HS1 : Hid (b1 + 1 = b3) := Lib.hid (by rw [Eb3.out, <- HW0.out, World.size_alloc, Eb1.out])
  go_enter Try.func46, Try.ntmps46
  go_wp2_with fail
  rw [HW0.out, HW1.out, <- Eb1.out]
  refine (alphaRight_any HT.out.c HT.out.l).mono ?_
  rintro e w2 ⟨r1, rfl, hr1, hbl⟩
  replace HT := Lib.hid (HT.out.below hbl)
  replace Xb1 := Lib.hid (Blk.below Xb1.out hbl Xb1.out.lt)
  have HB2 := Lib.hid (HB1.out.trans (hbl.mono HB1.out.size))
  have H1 := Lib.hid hr1
  clear hr1 hbl HW0 HW1 HS1 Xb3
  cases r1 with
  | false =>
    go_wp2_with fail
    go_ret
    exact ⟨false, rfl, ⟨(fun e => by cases e), fun e => absurd (H1.out.2 ((rightT_parts t).1 e).1) (by simp)⟩, HB2.out⟩
  | true =>
    replace H1 := Lib.hid (H1.out.1 rfl)
    have cb11 := Xb1.out.cell 1
    have cb12 := Xb1.out.cell 2
    have cb13 := Xb1.out.cell 3
    have cb14 := Xb1.out.cell 4
    have cb15 := Xb1.out.cell 5
    simp only [List.getElem?_toArray, List.getElem?_cons_zero, List.getElem?_cons_succ] at cb11 cb12 cb13 cb14 cb15
    go_wp2_with fail
    refine (count_any HT.out.l).mono ?_
    rintro e w3 ⟨rfl, hw3⟩
    subst hw3
    obtain ⟨nn, hnn⟩ : ∃ nn, cntL t.letters = nn := ⟨_, rfl⟩
    rw [hnn]
    have HNN := Lib.hid hnn
    clear hnn
    obtain ⟨b5, hb5⟩ : ∃ b, b = w3.heap.size := ⟨_, rfl⟩
    obtain ⟨W3, hW3⟩ : ∃ W, w3.alloc (.cells #[.slice BN t.bn.length bc, .slice BO t.bo.length oc] 97) = W := ⟨_, rfl⟩
    have hb' : Below w3.heap.size w3 W3 := by rw [<- hW3]; exact (Below.refl _ _).alloc (Nat.le_refl _) _
    have xb5 : Blk W3 b5 97 #[.slice BN t.bn.length bc, .slice BO t.bo.length oc] := by rw [<- hW3, hb5]; exact Blk.new _ _ _
    replace Xb1 := Lib.hid (Blk.below Xb1.out hb' Xb1.out.lt)
    replace HT := Lib.hid (HT.out.below hb')
    have Xb5 := Lib.hid xb5; have HW3 := Lib.hid hW3; have Eb5 := Lib.hid hb5
    have HB3 := Lib.hid (HB2.out.trans (hb'.mono HB2.out.size))
    clear hb' xb5 hW3 hb5 HB2
    go_wp2_with fail
    rw [HW3.out, <- Eb5.out]
    clear cb11 cb12 cb13 cb14 cb15
    refine (backRight_any HT.out.bn HT.out.bo).mono ?_
    rintro e w4 ⟨r2, rfl, hr2, hbl⟩
    replace HT := Lib.hid (HT.out.below hbl)
    replace Xb1 := Lib.hid (Blk.below Xb1.out hbl Xb1.out.lt)
    replace Xb5 := Lib.hid (Blk.below Xb5.out hbl Xb5.out.lt)
    have HB4 := Lib.hid (HB3.out.trans (hbl.mono HB3.out.size))
    have H2 := Lib.hid hr2
    clear hr2 hbl HB3
    cases r2 with
    | false =>
      go_wp2_with fail
      go_ret
      exact ⟨false, rfl, ⟨(fun e => by cases e), fun e => absurd (H2.out.2 (by rw [<- HNN.out]; exact ((rightT_parts t).1 e).2.1)) (by simp)⟩, HB4.out⟩
    | true =>
      replace H2 := Lib.hid (H2.out.1 rfl)
      have cb14 := Xb1.out.cell 4
      have cb15 := Xb1.out.cell 5
      simp only [List.getElem?_toArray, List.getElem?_cons_zero, List.getElem?_cons_succ] at cb14 cb15
      obtain ⟨b6, hb6⟩ : ∃ b, b = w4.heap.size := ⟨_, rfl⟩
      obtain ⟨W5, hW5⟩ : ∃ W, w4.alloc (.cells #[.slice FN t.fn.length fc, .slice FE t.fe.length ec] 99) = W := ⟨_, rfl⟩
      have hb' : Below w4.heap.size w4 W5 := by rw [<- hW5]; exact (Below.refl _ _).alloc (Nat.le_refl _) _
      have xb6 : Blk W5 b6 99 #[.slice FN t.fn.length fc, .slice FE t.fe.length ec] := by rw [<- hW5, hb6]; exact Blk.new _ _ _
      replace Xb5 := Lib.hid (Blk.below Xb5.out hb' Xb5.out.lt)
      replace HT := Lib.hid (HT.out.below hb')
      have Xb6 := Lib.hid xb6; have HW5 := Lib.hid hW5; have Eb6 := Lib.hid hb6
      have HB5 := Lib.hid (HB4.out.trans (hb'.mono HB4.out.size))
      clear hb' xb6 hW5 hb6 HB4
      have HBO1 : Hid (1 <= t.bo.length) := Lib.hid (by have := H2.out.2.1; have := H2.out.1.1; omega)
      have HBO2 : Hid (∀ x ∈ t.bo, 0 <= x /\ x <= 99999) := Lib.hid H2.out.2.2
      have HKS : Hid (∀ W, Below W5.heap.size W5 W -> (fun W : World => W.cell? ⟨b6, 0, none⟩ = some (.slice FN t.fn.length fc) /\ W.cell? ⟨b6, 1, none⟩ = some (.slice FE t.fe.length ec) /\ W.cell? ⟨b5, 0, none⟩ = some (.slice BN t.bn.length bc) /\ W.cell? ⟨b5, 1, none⟩ = some (.slice BO t.bo.length oc)) W) := Lib.hid (fun W hW => ⟨bel_m hW (Xb6.out.cell 0), bel_m hW (Xb6.out.cell 1), bel_m hW (Xb5.out.cell 0), bel_m hW (Xb5.out.cell 1)⟩)
      go_wp2_with fail
      rw [HW5.out, <- Eb6.out]
      clear cb14 cb15
      have hb : Below W5.heap.size W5 W5.drew := (Below.refl _ _).drew
      have hS := HKS.out _ hb
      refine region_x 5 (fun W : World => W.cell? ⟨b6, 0, none⟩ = some (.slice FN t.fn.length fc) /\ W.cell? ⟨b6, 1, none⟩ = some (.slice FE t.fe.length ec) /\ W.cell? ⟨b5, 0, none⟩ = some (.slice BN t.bn.length bc) /\ W.cell? ⟨b5, 1, none⟩ = some (.slice BO t.bo.length oc)) (by kernel_rfl) ?_
      generalize W5.drew = V0 at *
      refine tkx (i := 0) (v := ?_) hS ?_ ?_
      rotate_left
      ·rintro w' ⟨s0', s1', s2', s3'⟩
       go_simp
       try with_reducible rfl
      try simp only [Act.put, zq1, zq2, zq3, zq4, zq5, zq6]
      refine tkx (i := 1) (v := ?_) hS ?_ ?_
      rotate_left
      ·rintro w' ⟨s0', s1', s2', s3'⟩
       go_simp
       try with_reducible rfl
      try simp only [Act.put, zq1, zq2, zq3, zq4, zq5, zq6]
      refine tkx (i := 2) (v := ?_) hS ?_ ?_
      rotate_left
      ·rintro w' ⟨s0', s1', s2', s3'⟩
       go_simp
       try with_reducible rfl
      try simp only [Act.put, zq1, zq2, zq3, zq4, zq5, zq6]
      refine anyX_g (i := 3) (by kernel_rfl) (by decide) rfl (by rfl) ?_
      intro K hK
      try simp only [zq1, zq2, zq3]
      refine wp_enterE #[.agg #[.slice BN t.bn.length bc, .slice BO t.bo.length oc]] Try.func63 (by kernel_rfl) (by kernel_rfl) ?_ (labels_any (HT.out.bo.below hb) HBO1.out HBO2.out) ?_
      ·go_simp
      rintro e V1 ⟨rfl, hbn⟩
      replace hb := hb.trans (hbn.mono hb.size)
      clear hbn
      replace hS := HKS.out _ hb
      refine ⟨_, rfl, ?_⟩
      refine hK _ _ hS ?_
      clear hK
      try simp only [Act.put, zq1, zq2, zq3, zq4, zq5, zq6]
      refine anyX_g (i := 4) (by kernel_rfl) (by decide) rfl (by rfl) ?_
      intro K hK
      try simp only [zq1, zq2, zq3]
      refine wp_enterE #[.agg #[.slice FN t.fn.length fc, .slice FE t.fe.length ec], .int .i64 (nn : Int), .int .i64 (maxL t.bo + 1)] Try.func62 (by kernel_rfl) (by kernel_rfl) ?_ (fwdRight_any (n := nn) (maxL t.bo + 1) (HT.out.fn.below hb) (HT.out.fe.below hb)) ?_
      ·go_simp
      rintro e V2 ⟨b3, rfl, hb3, hbn⟩
      replace hb := hb.trans (hbn.mono hb.size)
      clear hbn
      replace hS := HKS.out _ hb
      have H3 := Lib.hid hb3
      clear hb3
      refine ⟨_, rfl, ?_⟩
      refine hK _ _ hS ?_
      clear hK
      try simp only [Act.put, zq1, zq2, zq3, zq4, zq5, zq6]
      have HBZ := Lib.hid (HB5.out.trans (hb.mono HB5.out.size))
      clear hS hb
      refine anyX_last (by kernel_rfl) (by kernel_rfl) rfl rfl ?_
      try simp only [zq1, zq2, zq3]
      go_simp
      try apply_assumption
      go_wp2_with fail
      go_ret
      refine ⟨b3, rfl, ?_, HBZ.out⟩
      rw [rightT_parts, HNN.out]
      exact ⟨fun e => ⟨H1.out, H2.out, H3.out.1 e⟩, fun e => H3.out.2 e.2.2⟩
end Go.Proofs.Ytacgakkcpmhgmaa
