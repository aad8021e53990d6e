/- Contracts of the pieces' makers: either. -/
import Derived.Test.YtfccnadbiglagaaGreatVSideI
import Derived.Test.YtfccnadbiglagaaGreatVAny
set_option linter.unusedVariables false
set_option linter.unusedSimpArgs false
set_option maxRecDepth 100000
set_option maxHeartbeats 8000000
namespace Go.Proofs.YtfccnadbiglagaaGreat
open Go Go.RowKit Go.Proofs
theorem either_any {w : World} {S : Nat -> Prop} {va vb : Value} {lFA lEA lFB lEB : List (Int × Int)} {za zb : Int} (ha : PieceV w S va lFA lEA za) (hb : PieceV w S vb lFB lEB zb)
  (hza : CostC za) (hl1 : lFA.length + lFB.length <= 1000) (hl2 : lEA.length + lEB.length <= 1000) (hSt : ∀ g, w.heap.size <= g -> S g) :
  Calls Tryz.prog 69 #[va, vb] w fun e w' => ∃ v', e = .returned v' /\ PieceV w' (fun g => w.heap.size <= g /\ S g) v' (lFA ++ lFB) (lEA ++ lEB) (mnC za zb) /\ Below w.heap.size w w' := by
  obtain ⟨FA, fc, EA, ec, rfl, hfa, hea, -, -, -, -, -, -⟩ := ha.parts
  obtain ⟨FB, gc, EB, hc, rfl, hfb, heb, -, -, -, -, -, -⟩ := hb.parts
  have hHL1 : (lFA ++ lFB).length <= 1000 := by simpa using hl1
  have hHL2 : (lEA ++ lEB).length <= 1000 := by simpa using hl2
  obtain ⟨n1, hn1⟩ : ∃ n, (lFA ++ lFB).length = n := ⟨_, rfl⟩
  obtain ⟨n2, hn2⟩ : ∃ n, (lEA ++ lEB).length = n := ⟨_, rfl⟩
  obtain ⟨nf, hnf⟩ : ∃ n, lFA.length = n := ⟨_, rfl⟩
  obtain ⟨ne, hne⟩ : ∃ n, lEA.length = n := ⟨_, rfl⟩
  obtain ⟨mf, hmf⟩ : ∃ n, lFB.length = n := ⟨_, rfl⟩
  obtain ⟨me, hme⟩ : ∃ n, lEB.length = n := ⟨_, rfl⟩
  rw [hnf] at hfa ⊢
  rw [hne] at hea ⊢
  rw [hmf] at hfb ⊢
  rw [hme] at heb ⊢
  obtain ⟨W0, hW0⟩ : ∃ W0, ((w.alloc (.cells #[.slice FA nf fc, .slice EA ne ec, .int .i64 za] 87)).alloc (.cells #[.slice FB mf gc, .slice EB me hc, .int .i64 zb] 87)).alloc (.cells #[.slice none 0 0, .slice none 0 0, .int .i64 0] 87) = W0 := ⟨_, rfl⟩
  have hb0 : Below w.heap.size w W0 := by rw [<- hW0]; exact (((Below.refl _ _).alloc (Nat.le_refl _) _).alloc (by simp) _).alloc (by simp; omega) _
  have hz0 : W0.heap.size = w.heap.size + 3 := by rw [<- hW0]; simp
  have hx0 : Blk W0 w.heap.size 87 #[.slice FA nf fc, .slice EA ne ec, .int .i64 za] := by rw [<- hW0]; exact Blk.alloc (Blk.alloc (Blk.new _ _ _) _) _
  have hx1 : Blk W0 (w.heap.size + 1) 87 #[.slice FB mf gc, .slice EB me hc, .int .i64 zb] := by
   rw [<- hW0]
   have := Blk.new (w.alloc (.cells #[.slice FA nf fc, .slice EA ne ec, .int .i64 za] 87)) 87 #[.slice FB mf gc, .slice EB me hc, .int .i64 zb]
   rw [World.size_alloc] at this
   exact Blk.alloc this _
  have hx2 : Blk W0 (w.heap.size + 1 + 1) 87 #[.slice none 0 0, .slice none 0 0, .int .i64 0] := by
   rw [<- hW0]
   have := Blk.new ((w.alloc (.cells #[.slice FA nf fc, .slice EA ne ec, .int .i64 za] 87)).alloc (.cells #[.slice FB mf gc, .slice EB me hc, .int .i64 zb] 87)) 87 #[.slice none 0 0, .slice none 0 0, .int .i64 0]
   rwa [World.size_alloc, World.size_alloc] at this
  have hks : ∀ W : World, Below W0.heap.size W0 W -> (fun w' : World => w'.cell? ⟨w.heap.size, 0, none⟩ = some (.slice FA nf fc) /\ w'.cell? ⟨w.heap.size, 1, none⟩ = some (.slice EA ne ec) /\ w'.cell? ⟨w.heap.size, 2, none⟩ = some (.int .i64 za) /\ w'.cell? ⟨w.heap.size + 1, 0, none⟩ = some (.slice FB mf gc) /\ w'.cell? ⟨w.heap.size + 1, 1, none⟩ = some (.slice EB me hc) /\ w'.cell? ⟨w.heap.size + 1, 2, none⟩ = some (.int .i64 zb)) W := fun W hW => ⟨bel_q hW (Blk.cell hx0 0), bel_q hW (Blk.cell hx0 1), bel_q hW (Blk.cell hx0 2), bel_q hW (Blk.cell hx1 0), bel_q hW (Blk.cell hx1 1), bel_q hW (Blk.cell hx1 2)⟩
  have hsg : ∀ g, W0.heap.size <= g -> S g := fun g hg => hSt g (by omega)
  have HKS := Lib.hid hks; have HXR := Lib.hid hx2; have HFA := Lib.hid (hfa.bel hb0); have HEA := Lib.hid (hea.bel hb0); have HFB := Lib.hid (hfb.bel hb0); have HEB := Lib.hid (heb.bel hb0); have HZ0 := Lib.hid hz0
  have HW0 := Lib.hid hW0; have HZA := Lib.hid hza; have HL1 := Lib.hid hHL1; have HL2 := Lib.hid hHL2; have HN1 := Lib.hid hn1; have HN2 := Lib.hid hn2; have HSG := Lib.hid hsg; have HB0 := Lib.hid hb0
  clear ha hb hfa hea hfb heb hx0 hx1 hx2 hks hb0 hz0 hnf hne hmf hme hW0 hza hl1 hl2 hHL1 hHL2 hn1 hn2 hsg hSt
  go_enter Tryz.func69, Tryz.ntmps69
  go_wp2_with fail
  rw [HW0.out]
  refine region_x 19 (fun w' : World => w'.cell? ⟨w.heap.size, 0, none⟩ = some (.slice FA nf fc) /\ w'.cell? ⟨w.heap.size, 1, none⟩ = some (.slice EA ne ec) /\ w'.cell? ⟨w.heap.size, 2, none⟩ = some (.int .i64 za) /\ w'.cell? ⟨w.heap.size + 1, 0, none⟩ = some (.slice FB mf gc) /\ w'.cell? ⟨w.heap.size + 1, 1, none⟩ = some (.slice EB me hc) /\ w'.cell? ⟨w.heap.size + 1, 2, none⟩ = some (.int .i64 zb)) (by kernel_rfl) ?_
  have hR0 : Below W0.heap.size W0 W0.drew := (Below.refl _ _).drew
  have hS0 := HKS.out _ hR0
  obtain ⟨V0, eV⟩ : ∃ W', W0.drew = W' := ⟨_, rfl⟩
  rw [eV] at hR0 hS0 ⊢
  clear eV
  refine tkx (i := 0) (v := ?_) hS0 ?_ ?_
  rotate_left
  ·rintro w' ⟨c0, c1, c2, d0, d1, d2⟩
   go_simp
   try with_reducible rfl
  try simp only [Act.put, zq1, zq2, zq3, zq4, zq5, zq6]
  refine tkx (i := 1) (v := ?_) hS0 ?_ ?_
  rotate_left
  ·rintro w' ⟨c0, c1, c2, d0, d1, d2⟩
   go_simp
   try with_reducible rfl
  try simp only [Act.put, zq1, zq2, zq3, zq4, zq5, zq6]
  refine tkx (i := 2) (v := ?_) hS0 ?_ ?_
  rotate_left
  ·rintro w' ⟨c0, c1, c2, d0, d1, d2⟩
   go_simp
   try with_reducible rfl
  try simp only [Act.put, zq1, zq2, zq3, zq4, zq5, zq6]
  refine tkx (i := 3) (v := ?_) hS0 ?_ ?_
  rotate_left
  ·rintro w' ⟨c0, c1, c2, d0, d1, d2⟩
   go_simp
   try with_reducible rfl
  try simp only [Act.put, zq1, zq2, zq3, zq4, zq5, zq6]
  refine tkx (i := 6) (v := ?_) hS0 ?_ ?_
  rotate_left
  ·rintro w' ⟨c0, c1, c2, d0, d1, d2⟩
   go_simp
   try with_reducible rfl
  try simp only [Act.put, zq1, zq2, zq3, zq4, zq5, zq6]
  refine tkx (i := 7) (v := ?_) hS0 ?_ ?_
  rotate_left
  ·rintro w' ⟨c0, c1, c2, d0, d1, d2⟩
   go_simp
   try with_reducible rfl
  try simp only [Act.put, zq1, zq2, zq3, zq4, zq5, zq6]
  refine tkx (i := 8) (v := ?_) hS0 ?_ ?_
  rotate_left
  ·rintro w' ⟨c0, c1, c2, d0, d1, d2⟩
   go_simp
   try with_reducible rfl
  try simp only [Act.put, zq1, zq2, zq3, zq4, zq5, zq6]
  refine tkx (i := 9) (v := ?_) hS0 ?_ ?_
  rotate_left
  ·rintro w' ⟨c0, c1, c2, d0, d1, d2⟩
   go_simp
   try with_reducible rfl
  try simp only [Act.put, zq1, zq2, zq3, zq4, zq5, zq6]
  refine tkx (i := 12) (v := ?_) hS0 ?_ ?_
  rotate_left
  ·rintro w' ⟨c0, c1, c2, d0, d1, d2⟩
   go_simp
   try with_reducible rfl
  try simp only [Act.put, zq1, zq2, zq3, zq4, zq5, zq6]
  refine tkx (i := 13) (v := ?_) hS0 ?_ ?_
  rotate_left
  ·rintro w' ⟨c0, c1, c2, d0, d1, d2⟩
   go_simp
   try with_reducible rfl
  try simp only [Act.put, zq1, zq2, zq3, zq4, zq5, zq6]
  refine tkx (i := 14) (v := ?_) hS0 ?_ ?_
  rotate_left
  ·rintro w' ⟨c0, c1, c2, d0, d1, d2⟩
   go_simp
   try with_reducible rfl
  try simp only [Act.put, zq1, zq2, zq3, zq4, zq5, zq6]
  refine tkx (i := 15) (v := ?_) hS0 ?_ ?_
  rotate_left
  ·rintro w' ⟨c0, c1, c2, d0, d1, d2⟩
   go_simp
   try with_reducible rfl
  try simp only [Act.put, zq1, zq2, zq3, zq4, zq5, zq6]
  have qs0000 : True := trivial
  all_goals try (
   clear qs0000
   refine anyX_3 (i := 4) (j := 10) (l := 16) (by kernel_rfl) (by decide) (by decide) (by decide) rfl rfl rfl rfl rfl rfl ?_ ?_ ?_
   focus
    intro K hK
    try simp only [zq1, zq2, zq3]
    go_simp
    obtain ⟨V1, eV⟩ : ∃ W', V0.alloc (.cells #[.slice FA nf fc, .slice FB mf gc] 85) = W' := ⟨_, rfl⟩
    have hb : Below V0.heap.size V0 V1 := by rw [<- eV]; exact (Below.refl _ _).alloc (Nat.le_refl _) _
    have xa4 : Blk V1 V0.heap.size 85 #[.slice FA nf fc, .slice FB mf gc] := by rw [<- eV]; exact Blk.new _ _ _
    rw [eV]
    clear eV
    obtain ⟨p4, hp⟩ : ∃ p, V0.heap.size = p := ⟨_, rfl⟩
    rw [hp] at xa4 ⊢
    clear hp
    have hR1 := hR0.trans (hb.mono hR0.size)
    have hS1 := HKS.out _ hR1
    clear hb
    refine hK _ _ hS1 ?_
    clear hK
    try simp only [Act.put, zq1, zq2, zq3, zq4, zq5, zq6]
    have qs0100 : True := trivial
   rotate_left
   focus
    intro K hK
    try simp only [zq1, zq2, zq3]
    go_simp
    obtain ⟨V1, eV⟩ : ∃ W', V0.alloc (.cells #[.slice EA ne ec, .slice EB me hc] 85) = W' := ⟨_, rfl⟩
    have hb : Below V0.heap.size V0 V1 := by rw [<- eV]; exact (Below.refl _ _).alloc (Nat.le_refl _) _
    have xa10 : Blk V1 V0.heap.size 85 #[.slice EA ne ec, .slice EB me hc] := by rw [<- eV]; exact Blk.new _ _ _
    rw [eV]
    clear eV
    obtain ⟨p10, hp⟩ : ∃ p, V0.heap.size = p := ⟨_, rfl⟩
    rw [hp] at xa10 ⊢
    clear hp
    have hR1 := hR0.trans (hb.mono hR0.size)
    have hS1 := HKS.out _ hR1
    clear hb
    refine hK _ _ hS1 ?_
    clear hK
    try simp only [Act.put, zq1, zq2, zq3, zq4, zq5, zq6]
    have qs0010 : True := trivial
   rotate_left
   focus
    intro K hK
    try simp only [zq1, zq2, zq3]
    go_simp
    obtain ⟨V1, eV⟩ : ∃ W', V0.alloc (.cells #[.int .i64 za, .int .i64 zb] 3) = W' := ⟨_, rfl⟩
    have hb : Below V0.heap.size V0 V1 := by rw [<- eV]; exact (Below.refl _ _).alloc (Nat.le_refl _) _
    have xa16 : Blk V1 V0.heap.size 3 #[.int .i64 za, .int .i64 zb] := by rw [<- eV]; exact Blk.new _ _ _
    rw [eV]
    clear eV
    obtain ⟨p16, hp⟩ : ∃ p, V0.heap.size = p := ⟨_, rfl⟩
    rw [hp] at xa16 ⊢
    clear hp
    have hR1 := hR0.trans (hb.mono hR0.size)
    have hS1 := HKS.out _ hR1
    clear hb
    refine hK _ _ hS1 ?_
    clear hK
    try simp only [Act.put, zq1, zq2, zq3, zq4, zq5, zq6]
    have qs0001 : True := trivial)
  all_goals try (
   clear qs0100
   refine anyX_3 (i := 5) (j := 10) (l := 16) (by kernel_rfl) (by decide) (by decide) (by decide) rfl rfl rfl rfl rfl rfl ?_ ?_ ?_
   focus
    intro K hK
    try simp only [zq1, zq2, zq3]
    refine wp_enterE #[.slice (some ⟨p4, 0, none⟩) 2 2] Tryz.func107 (by kernel_rfl) (by kernel_rfl) ?_ (concat2 (HFA.out.bel hR1) (HFB.out.bel hR1) p4 (Blk.cell xa4 0) (Blk.cell xa4 1)) ?_
    ·go_simp
    rintro e V2 ⟨v, rfl, ho1, hb⟩
    refine ⟨_, rfl, ?_⟩
    replace ho1 := OwnD.more ho1 hR1.size
    obtain ⟨A1, k1, hv, -, -, -⟩ := (ho1.doors (S := fun _ => True) HL1.out (fun _ _ _ => trivial)).form
    subst hv
    have hn := HN1.out
    rw [hn] at ho1 ⊢
    clear hn
    clear xa4
    have hR2 := hR1.trans (hb.mono hR1.size)
    have hS2 := HKS.out _ hR2
    clear hb
    refine hK _ _ hS2 ?_
    clear hK
    try simp only [Act.put, zq1, zq2, zq3, zq4, zq5, zq6]
    have qs1100 : True := trivial
   rotate_left
   focus
    intro K hK
    try simp only [zq1, zq2, zq3]
    go_simp
    obtain ⟨V2, eV⟩ : ∃ W', V1.alloc (.cells #[.slice EA ne ec, .slice EB me hc] 85) = W' := ⟨_, rfl⟩
    have hb : Below V1.heap.size V1 V2 := by rw [<- eV]; exact (Below.refl _ _).alloc (Nat.le_refl _) _
    replace xa4 := Blk.below xa4 hb xa4.lt
    have xa10 : Blk V2 V1.heap.size 85 #[.slice EA ne ec, .slice EB me hc] := by rw [<- eV]; exact Blk.new _ _ _
    rw [eV]
    clear eV
    obtain ⟨p10, hp⟩ : ∃ p, V1.heap.size = p := ⟨_, rfl⟩
    rw [hp] at xa10 ⊢
    clear hp
    have hR2 := hR1.trans (hb.mono hR1.size)
    have hS2 := HKS.out _ hR2
    clear hb
    refine hK _ _ hS2 ?_
    clear hK
    try simp only [Act.put, zq1, zq2, zq3, zq4, zq5, zq6]
    have qs0110 : True := trivial
   rotate_left
   focus
    intro K hK
    try simp only [zq1, zq2, zq3]
    go_simp
    obtain ⟨V2, eV⟩ : ∃ W', V1.alloc (.cells #[.int .i64 za, .int .i64 zb] 3) = W' := ⟨_, rfl⟩
    have hb : Below V1.heap.size V1 V2 := by rw [<- eV]; exact (Below.refl _ _).alloc (Nat.le_refl _) _
    replace xa4 := Blk.below xa4 hb xa4.lt
    have xa16 : Blk V2 V1.heap.size 3 #[.int .i64 za, .int .i64 zb] := by rw [<- eV]; exact Blk.new _ _ _
    rw [eV]
    clear eV
    obtain ⟨p16, hp⟩ : ∃ p, V1.heap.size = p := ⟨_, rfl⟩
    rw [hp] at xa16 ⊢
    clear hp
    have hR2 := hR1.trans (hb.mono hR1.size)
    have hS2 := HKS.out _ hR2
    clear hb
    refine hK _ _ hS2 ?_
    clear hK
    try simp only [Act.put, zq1, zq2, zq3, zq4, zq5, zq6]
    have qs0101 : True := trivial)
  all_goals try (
   clear qs0010
   refine anyX_2 (i := 4) (j := 16) (by kernel_rfl) (by decide) (by decide) rfl rfl rfl rfl ?_ ?_
   focus
    intro K hK
    try simp only [zq1, zq2, zq3]
    go_simp
    obtain ⟨V2, eV⟩ : ∃ W', V1.alloc (.cells #[.slice FA nf fc, .slice FB mf gc] 85) = W' := ⟨_, rfl⟩
    have hb : Below V1.heap.size V1 V2 := by rw [<- eV]; exact (Below.refl _ _).alloc (Nat.le_refl _) _
    replace xa10 := Blk.below xa10 hb xa10.lt
    have xa4 : Blk V2 V1.heap.size 85 #[.slice FA nf fc, .slice FB mf gc] := by rw [<- eV]; exact Blk.new _ _ _
    rw [eV]
    clear eV
    obtain ⟨p4, hp⟩ : ∃ p, V1.heap.size = p := ⟨_, rfl⟩
    rw [hp] at xa4 ⊢
    clear hp
    have hR2 := hR1.trans (hb.mono hR1.size)
    have hS2 := HKS.out _ hR2
    clear hb
    refine hK _ _ hS2 ?_
    clear hK
    try simp only [Act.put, zq1, zq2, zq3, zq4, zq5, zq6]
    have qs0110 : True := trivial
   rotate_left
   focus
    intro K hK
    try simp only [zq1, zq2, zq3]
    go_simp
    obtain ⟨V2, eV⟩ : ∃ W', V1.alloc (.cells #[.int .i64 za, .int .i64 zb] 3) = W' := ⟨_, rfl⟩
    have hb : Below V1.heap.size V1 V2 := by rw [<- eV]; exact (Below.refl _ _).alloc (Nat.le_refl _) _
    replace xa10 := Blk.below xa10 hb xa10.lt
    have xa16 : Blk V2 V1.heap.size 3 #[.int .i64 za, .int .i64 zb] := by rw [<- eV]; exact Blk.new _ _ _
    rw [eV]
    clear eV
    obtain ⟨p16, hp⟩ : ∃ p, V1.heap.size = p := ⟨_, rfl⟩
    rw [hp] at xa16 ⊢
    clear hp
    have hR2 := hR1.trans (hb.mono hR1.size)
    have hS2 := HKS.out _ hR2
    clear hb
    refine hK _ _ hS2 ?_
    clear hK
    try simp only [Act.put, zq1, zq2, zq3, zq4, zq5, zq6]
    have qs0011 : True := trivial)
  all_goals try (
   clear qs0001
   refine anyX_2 (i := 4) (j := 10) (by kernel_rfl) (by decide) (by decide) rfl rfl rfl rfl ?_ ?_
   focus
    intro K hK
    try simp only [zq1, zq2, zq3]
    go_simp
    obtain ⟨V2, eV⟩ : ∃ W', V1.alloc (.cells #[.slice FA nf fc, .slice FB mf gc] 85) = W' := ⟨_, rfl⟩
    have hb : Below V1.heap.size V1 V2 := by rw [<- eV]; exact (Below.refl _ _).alloc (Nat.le_refl _) _
    replace xa16 := Blk.below xa16 hb xa16.lt
    have xa4 : Blk V2 V1.heap.size 85 #[.slice FA nf fc, .slice FB mf gc] := by rw [<- eV]; exact Blk.new _ _ _
    rw [eV]
    clear eV
    obtain ⟨p4, hp⟩ : ∃ p, V1.heap.size = p := ⟨_, rfl⟩
    rw [hp] at xa4 ⊢
    clear hp
    have hR2 := hR1.trans (hb.mono hR1.size)
    have hS2 := HKS.out _ hR2
    clear hb
    refine hK _ _ hS2 ?_
    clear hK
    try simp only [Act.put, zq1, zq2, zq3, zq4, zq5, zq6]
    have qs0101 : True := trivial
   rotate_left
   focus
    intro K hK
    try simp only [zq1, zq2, zq3]
    go_simp
    obtain ⟨V2, eV⟩ : ∃ W', V1.alloc (.cells #[.slice EA ne ec, .slice EB me hc] 85) = W' := ⟨_, rfl⟩
    have hb : Below V1.heap.size V1 V2 := by rw [<- eV]; exact (Below.refl _ _).alloc (Nat.le_refl _) _
    replace xa16 := Blk.below xa16 hb xa16.lt
    have xa10 : Blk V2 V1.heap.size 85 #[.slice EA ne ec, .slice EB me hc] := by rw [<- eV]; exact Blk.new _ _ _
    rw [eV]
    clear eV
    obtain ⟨p10, hp⟩ : ∃ p, V1.heap.size = p := ⟨_, rfl⟩
    rw [hp] at xa10 ⊢
    clear hp
    have hR2 := hR1.trans (hb.mono hR1.size)
    have hS2 := HKS.out _ hR2
    clear hb
    refine hK _ _ hS2 ?_
    clear hK
    try simp only [Act.put, zq1, zq2, zq3, zq4, zq5, zq6]
    have qs0011 : True := trivial)
  all_goals try (
   clear qs0110
   refine anyX_2 (i := 5) (j := 16) (by kernel_rfl) (by decide) (by decide) rfl rfl rfl rfl ?_ ?_
   focus
    intro K hK
    try simp only [zq1, zq2, zq3]
    refine wp_enterE #[.slice (some ⟨p4, 0, none⟩) 2 2] Tryz.func107 (by kernel_rfl) (by kernel_rfl) ?_ (concat2 (HFA.out.bel hR2) (HFB.out.bel hR2) p4 (Blk.cell xa4 0) (Blk.cell xa4 1)) ?_
    ·go_simp
    rintro e V3 ⟨v, rfl, ho1, hb⟩
    refine ⟨_, rfl, ?_⟩
    replace ho1 := OwnD.more ho1 hR2.size
    obtain ⟨A1, k1, hv, -, -, -⟩ := (ho1.doors (S := fun _ => True) HL1.out (fun _ _ _ => trivial)).form
    subst hv
    have hn := HN1.out
    rw [hn] at ho1 ⊢
    clear hn
    replace xa10 := Blk.below xa10 hb xa10.lt
    clear xa4
    have hR3 := hR2.trans (hb.mono hR2.size)
    have hS3 := HKS.out _ hR3
    clear hb
    refine hK _ _ hS3 ?_
    clear hK
    try simp only [Act.put, zq1, zq2, zq3, zq4, zq5, zq6]
    have qs1110 : True := trivial
   rotate_left
   focus
    intro K hK
    try simp only [zq1, zq2, zq3]
    go_simp
    obtain ⟨V3, eV⟩ : ∃ W', V2.alloc (.cells #[.int .i64 za, .int .i64 zb] 3) = W' := ⟨_, rfl⟩
    have hb : Below V2.heap.size V2 V3 := by rw [<- eV]; exact (Below.refl _ _).alloc (Nat.le_refl _) _
    replace xa4 := Blk.below xa4 hb xa4.lt
    replace xa10 := Blk.below xa10 hb xa10.lt
    have xa16 : Blk V3 V2.heap.size 3 #[.int .i64 za, .int .i64 zb] := by rw [<- eV]; exact Blk.new _ _ _
    rw [eV]
    clear eV
    obtain ⟨p16, hp⟩ : ∃ p, V2.heap.size = p := ⟨_, rfl⟩
    rw [hp] at xa16 ⊢
    clear hp
    have hR3 := hR2.trans (hb.mono hR2.size)
    have hS3 := HKS.out _ hR3
    clear hb
    refine hK _ _ hS3 ?_
    clear hK
    try simp only [Act.put, zq1, zq2, zq3, zq4, zq5, zq6]
    have qs0111 : True := trivial)
  all_goals try (
   clear qs0101
   refine anyX_2 (i := 5) (j := 10) (by kernel_rfl) (by decide) (by decide) rfl rfl rfl rfl ?_ ?_
   focus
    intro K hK
    try simp only [zq1, zq2, zq3]
    refine wp_enterE #[.slice (some ⟨p4, 0, none⟩) 2 2] Tryz.func107 (by kernel_rfl) (by kernel_rfl) ?_ (concat2 (HFA.out.bel hR2) (HFB.out.bel hR2) p4 (Blk.cell xa4 0) (Blk.cell xa4 1)) ?_
    ·go_simp
    rintro e V3 ⟨v, rfl, ho1, hb⟩
    refine ⟨_, rfl, ?_⟩
    replace ho1 := OwnD.more ho1 hR2.size
    obtain ⟨A1, k1, hv, -, -, -⟩ := (ho1.doors (S := fun _ => True) HL1.out (fun _ _ _ => trivial)).form
    subst hv
    have hn := HN1.out
    rw [hn] at ho1 ⊢
    clear hn
    replace xa16 := Blk.below xa16 hb xa16.lt
    clear xa4
    have hR3 := hR2.trans (hb.mono hR2.size)
    have hS3 := HKS.out _ hR3
    clear hb
    refine hK _ _ hS3 ?_
    clear hK
    try simp only [Act.put, zq1, zq2, zq3, zq4, zq5, zq6]
    have qs1101 : True := trivial
   rotate_left
   focus
    intro K hK
    try simp only [zq1, zq2, zq3]
    go_simp
    obtain ⟨V3, eV⟩ : ∃ W', V2.alloc (.cells #[.slice EA ne ec, .slice EB me hc] 85) = W' := ⟨_, rfl⟩
    have hb : Below V2.heap.size V2 V3 := by rw [<- eV]; exact (Below.refl _ _).alloc (Nat.le_refl _) _
    replace xa4 := Blk.below xa4 hb xa4.lt
    replace xa16 := Blk.below xa16 hb xa16.lt
    have xa10 : Blk V3 V2.heap.size 85 #[.slice EA ne ec, .slice EB me hc] := by rw [<- eV]; exact Blk.new _ _ _
    rw [eV]
    clear eV
    obtain ⟨p10, hp⟩ : ∃ p, V2.heap.size = p := ⟨_, rfl⟩
    rw [hp] at xa10 ⊢
    clear hp
    have hR3 := hR2.trans (hb.mono hR2.size)
    have hS3 := HKS.out _ hR3
    clear hb
    refine hK _ _ hS3 ?_
    clear hK
    try simp only [Act.put, zq1, zq2, zq3, zq4, zq5, zq6]
    have qs0111 : True := trivial)
  all_goals try (
   clear qs0011
   refine anyX_g (i := 4) (by kernel_rfl) (by decide) rfl (by rfl) ?_
   intro K hK
   try simp only [zq1, zq2, zq3]
   go_simp
   obtain ⟨V3, eV⟩ : ∃ W', V2.alloc (.cells #[.slice FA nf fc, .slice FB mf gc] 85) = W' := ⟨_, rfl⟩
   have hb : Below V2.heap.size V2 V3 := by rw [<- eV]; exact (Below.refl _ _).alloc (Nat.le_refl _) _
   replace xa10 := Blk.below xa10 hb xa10.lt
   replace xa16 := Blk.below xa16 hb xa16.lt
   have xa4 : Blk V3 V2.heap.size 85 #[.slice FA nf fc, .slice FB mf gc] := by rw [<- eV]; exact Blk.new _ _ _
   rw [eV]
   clear eV
   obtain ⟨p4, hp⟩ : ∃ p, V2.heap.size = p := ⟨_, rfl⟩
   rw [hp] at xa4 ⊢
   clear hp
   have hR3 := hR2.trans (hb.mono hR2.size)
   have hS3 := HKS.out _ hR3
   clear hb
   refine hK _ _ hS3 ?_
   clear hK
   try simp only [Act.put, zq1, zq2, zq3, zq4, zq5, zq6]
   have qs0111 : True := trivial)
  all_goals try (
   clear qs1100
   refine anyX_2 (i := 10) (j := 16) (by kernel_rfl) (by decide) (by decide) rfl rfl rfl rfl ?_ ?_
   focus
    intro K hK
    try simp only [zq1, zq2, zq3]
    go_simp
    obtain ⟨V3, eV⟩ : ∃ W', V2.alloc (.cells #[.slice EA ne ec, .slice EB me hc] 85) = W' := ⟨_, rfl⟩
    have hb : Below V2.heap.size V2 V3 := by rw [<- eV]; exact (Below.refl _ _).alloc (Nat.le_refl _) _
    replace ho1 := ho1.below_top hb
    have xa10 : Blk V3 V2.heap.size 85 #[.slice EA ne ec, .slice EB me hc] := by rw [<- eV]; exact Blk.new _ _ _
    rw [eV]
    clear eV
    obtain ⟨p10, hp⟩ : ∃ p, V2.heap.size = p := ⟨_, rfl⟩
    rw [hp] at xa10 ⊢
    clear hp
    have hR3 := hR2.trans (hb.mono hR2.size)
    have hS3 := HKS.out _ hR3
    clear hb
    refine hK _ _ hS3 ?_
    clear hK
    try simp only [Act.put, zq1, zq2, zq3, zq4, zq5, zq6]
    have qs1110 : True := trivial
   rotate_left
   focus
    intro K hK
    try simp only [zq1, zq2, zq3]
    go_simp
    obtain ⟨V3, eV⟩ : ∃ W', V2.alloc (.cells #[.int .i64 za, .int .i64 zb] 3) = W' := ⟨_, rfl⟩
    have hb : Below V2.heap.size V2 V3 := by rw [<- eV]; exact (Below.refl _ _).alloc (Nat.le_refl _) _
    replace ho1 := ho1.below_top hb
    have xa16 : Blk V3 V2.heap.size 3 #[.int .i64 za, .int .i64 zb] := by rw [<- eV]; exact Blk.new _ _ _
    rw [eV]
    clear eV
    obtain ⟨p16, hp⟩ : ∃ p, V2.heap.size = p := ⟨_, rfl⟩
    rw [hp] at xa16 ⊢
    clear hp
    have hR3 := hR2.trans (hb.mono hR2.size)
    have hS3 := HKS.out _ hR3
    clear hb
    refine hK _ _ hS3 ?_
    clear hK
    try simp only [Act.put, zq1, zq2, zq3, zq4, zq5, zq6]
    have qs1101 : True := trivial)
  all_goals try (
   clear qs0111
   refine anyX_g (i := 5) (by kernel_rfl) (by decide) rfl (by rfl) ?_
   intro K hK
   try simp only [zq1, zq2, zq3]
   refine wp_enterE #[.slice (some ⟨p4, 0, none⟩) 2 2] Tryz.func107 (by kernel_rfl) (by kernel_rfl) ?_ (concat2 (HFA.out.bel hR3) (HFB.out.bel hR3) p4 (Blk.cell xa4 0) (Blk.cell xa4 1)) ?_
   ·go_simp
   rintro e V4 ⟨v, rfl, ho1, hb⟩
   refine ⟨_, rfl, ?_⟩
   replace ho1 := OwnD.more ho1 hR3.size
   obtain ⟨A1, k1, hv, -, -, -⟩ := (ho1.doors (S := fun _ => True) HL1.out (fun _ _ _ => trivial)).form
   subst hv
   have hn := HN1.out
   rw [hn] at ho1 ⊢
   clear hn
   replace xa10 := Blk.below xa10 hb xa10.lt
   replace xa16 := Blk.below xa16 hb xa16.lt
   clear xa4
   have hR4 := hR3.trans (hb.mono hR3.size)
   have hS4 := HKS.out _ hR4
   clear hb
   refine hK _ _ hS4 ?_
   clear hK
   try simp only [Act.put, zq1, zq2, zq3, zq4, zq5, zq6]
   have qs1111 : True := trivial)
  all_goals try (
   clear qs1110
   refine anyX_2 (i := 11) (j := 16) (by kernel_rfl) (by decide) (by decide) rfl rfl rfl rfl ?_ ?_
   focus
    intro K hK
    try simp only [zq1, zq2, zq3]
    refine wp_enterE #[.slice (some ⟨p10, 0, none⟩) 2 2] Tryz.func107 (by kernel_rfl) (by kernel_rfl) ?_ (concat2 (HEA.out.bel hR3) (HEB.out.bel hR3) p10 (Blk.cell xa10 0) (Blk.cell xa10 1)) ?_
    ·go_simp
    rintro e V4 ⟨v, rfl, ho2, hb⟩
    refine ⟨_, rfl, ?_⟩
    replace ho2 := OwnD.more ho2 hR3.size
    obtain ⟨A2, k2, hv, -, -, -⟩ := (ho2.doors (S := fun _ => True) HL2.out (fun _ _ _ => trivial)).form
    subst hv
    have hn := HN2.out
    rw [hn] at ho2 ⊢
    clear hn
    replace ho1 := ho1.below_top hb
    clear xa10
    have hR4 := hR3.trans (hb.mono hR3.size)
    have hS4 := HKS.out _ hR4
    clear hb
    refine hK _ _ hS4 ?_
    clear hK
    try simp only [Act.put, zq1, zq2, zq3, zq4, zq5, zq6]
    have qs2110 : True := trivial
   rotate_left
   focus
    intro K hK
    try simp only [zq1, zq2, zq3]
    go_simp
    obtain ⟨V4, eV⟩ : ∃ W', V3.alloc (.cells #[.int .i64 za, .int .i64 zb] 3) = W' := ⟨_, rfl⟩
    have hb : Below V3.heap.size V3 V4 := by rw [<- eV]; exact (Below.refl _ _).alloc (Nat.le_refl _) _
    replace xa10 := Blk.below xa10 hb xa10.lt
    replace ho1 := ho1.below_top hb
    have xa16 : Blk V4 V3.heap.size 3 #[.int .i64 za, .int .i64 zb] := by rw [<- eV]; exact Blk.new _ _ _
    rw [eV]
    clear eV
    obtain ⟨p16, hp⟩ : ∃ p, V3.heap.size = p := ⟨_, rfl⟩
    rw [hp] at xa16 ⊢
    clear hp
    have hR4 := hR3.trans (hb.mono hR3.size)
    have hS4 := HKS.out _ hR4
    clear hb
    refine hK _ _ hS4 ?_
    clear hK
    try simp only [Act.put, zq1, zq2, zq3, zq4, zq5, zq6]
    have qs1111 : True := trivial)
  all_goals try (
   clear qs1101
   refine anyX_g (i := 10) (by kernel_rfl) (by decide) rfl (by rfl) ?_
   intro K hK
   try simp only [zq1, zq2, zq3]
   go_simp
   obtain ⟨V4, eV⟩ : ∃ W', V3.alloc (.cells #[.slice EA ne ec, .slice EB me hc] 85) = W' := ⟨_, rfl⟩
   have hb : Below V3.heap.size V3 V4 := by rw [<- eV]; exact (Below.refl _ _).alloc (Nat.le_refl _) _
   replace xa16 := Blk.below xa16 hb xa16.lt
   replace ho1 := ho1.below_top hb
   have xa10 : Blk V4 V3.heap.size 85 #[.slice EA ne ec, .slice EB me hc] := by rw [<- eV]; exact Blk.new _ _ _
   rw [eV]
   clear eV
   obtain ⟨p10, hp⟩ : ∃ p, V3.heap.size = p := ⟨_, rfl⟩
   rw [hp] at xa10 ⊢
   clear hp
   have hR4 := hR3.trans (hb.mono hR3.size)
   have hS4 := HKS.out _ hR4
   clear hb
   refine hK _ _ hS4 ?_
   clear hK
   try simp only [Act.put, zq1, zq2, zq3, zq4, zq5, zq6]
   have qs1111 : True := trivial)
  all_goals try (
   clear qs1111
   refine anyX_g (i := 11) (by kernel_rfl) (by decide) rfl (by rfl) ?_
   intro K hK
   try simp only [zq1, zq2, zq3]
   refine wp_enterE #[.slice (some ⟨p10, 0, none⟩) 2 2] Tryz.func107 (by kernel_rfl) (by kernel_rfl) ?_ (concat2 (HEA.out.bel hR4) (HEB.out.bel hR4) p10 (Blk.cell xa10 0) (Blk.cell xa10 1)) ?_
   ·go_simp
   rintro e V5 ⟨v, rfl, ho2, hb⟩
   refine ⟨_, rfl, ?_⟩
   replace ho2 := OwnD.more ho2 hR4.size
   obtain ⟨A2, k2, hv, -, -, -⟩ := (ho2.doors (S := fun _ => True) HL2.out (fun _ _ _ => trivial)).form
   subst hv
   have hn := HN2.out
   rw [hn] at ho2 ⊢
   clear hn
   replace xa16 := Blk.below xa16 hb xa16.lt
   replace ho1 := ho1.below_top hb
   clear xa10
   have hR5 := hR4.trans (hb.mono hR4.size)
   have hS5 := HKS.out _ hR5
   clear hb
   refine hK _ _ hS5 ?_
   clear hK
   try simp only [Act.put, zq1, zq2, zq3, zq4, zq5, zq6]
   have qs2111 : True := trivial)
  all_goals try (
   clear qs2110
   refine anyX_g (i := 16) (by kernel_rfl) (by decide) rfl (by rfl) ?_
   intro K hK
   try simp only [zq1, zq2, zq3]
   go_simp
   obtain ⟨V5, eV⟩ : ∃ W', V4.alloc (.cells #[.int .i64 za, .int .i64 zb] 3) = W' := ⟨_, rfl⟩
   have hb : Below V4.heap.size V4 V5 := by rw [<- eV]; exact (Below.refl _ _).alloc (Nat.le_refl _) _
   replace ho1 := ho1.below_top hb
   replace ho2 := ho2.below_top hb
   have xa16 : Blk V5 V4.heap.size 3 #[.int .i64 za, .int .i64 zb] := by rw [<- eV]; exact Blk.new _ _ _
   rw [eV]
   clear eV
   obtain ⟨p16, hp⟩ : ∃ p, V4.heap.size = p := ⟨_, rfl⟩
   rw [hp] at xa16 ⊢
   clear hp
   have hR5 := hR4.trans (hb.mono hR4.size)
   have hS5 := HKS.out _ hR5
   clear hb
   refine hK _ _ hS5 ?_
   clear hK
   try simp only [Act.put, zq1, zq2, zq3, zq4, zq5, zq6]
   have qs2111 : True := trivial)
  all_goals try (
   clear qs2111
   refine anyX_g (i := 17) (by kernel_rfl) (by decide) rfl (by rfl) ?_
   intro K hK
   try simp only [zq1, zq2, zq3]
   refine wp_enterE #[.slice (some ⟨p16, 0, none⟩) 2 2] Tryz.func100 (by kernel_rfl) (by kernel_rfl) ?_ (smin_any za zb p16 _ HZA.out (Blk.cell xa16 0) (Blk.cell xa16 1)) ?_
   ·go_simp
   rintro e w8 ⟨rfl, rfl⟩
   refine ⟨_, rfl, ?_⟩
   have hb := Below.refl V5.heap.size V5
   obtain ⟨V6, eV⟩ : ∃ W', V5 = W' := ⟨_, rfl⟩
   have hR6 := hR5
   have hS6 := hS5
   clear hb eV
   refine hK _ _ hS6 ?_
   clear hK
   try simp only [Act.put, zq1, zq2, zq3, zq4, zq5, zq6]
   have qs3111 : True := trivial)
  all_goals (
   refine tkx (i := 18) (v := ?_) hS6 ?_ ?_
   rotate_left
   ·rintro w' ⟨c0, c1, c2, d0, d1, d2⟩
    go_simp
    try with_reducible rfl
   try simp only [Act.put, zq1, zq2, zq3, zq4, zq5, zq6]
   have hxr := Blk.below HXR.out hR6 HXR.out.lt
   have r0 := Blk.cell hxr 0; have r1 := Blk.cell hxr 1; have r2 := Blk.cell hxr 2
   have fr0 := Blk.frozen hxr 0; have fr1 := Blk.frozen hxr 1; have fr2 := Blk.frozen hxr 2
   simp only [List.getElem?_toArray, List.getElem?_cons_zero, List.getElem?_cons_succ] at r0 r1 r2
   have HR6 := Lib.hid hR6; have HO1 := Lib.hid ho1; have HO2 := Lib.hid ho2
   clear hS0 hS1 hS2 hS3 hS4 hS5 hS6 hR0 hR1 hR2 hR3 hR4 hR5 hR6 ho1 ho2 hxr
   refine anyX_last (by kernel_rfl) (by kernel_rfl) rfl rfl ?_
   try simp only [zq1, zq2, zq3]
   go_simp
   try apply_assumption
   go_wp2_with fail
   have hq : w.heap.size + 1 + 1 < W0.heap.size := by have := HZ0.out; omega
   have ho1 := (ownsRow_setCell_below (ownsRow_setCell_below (ownsRow_setCell_below HO1.out (a := ⟨w.heap.size + 1 + 1, 0, none⟩) hq (.slice A1 n1 k1)) (a := ⟨w.heap.size + 1 + 1, 1, none⟩) hq (.slice A2 n2 k2)) (a := ⟨w.heap.size + 1 + 1, 2, none⟩) hq (.int .i64 (mnC za zb)))
   have ho2 := (ownsRow_setCell_below (ownsRow_setCell_below (ownsRow_setCell_below HO2.out (a := ⟨w.heap.size + 1 + 1, 0, none⟩) hq (.slice A1 n1 k1)) (a := ⟨w.heap.size + 1 + 1, 1, none⟩) hq (.slice A2 n2 k2)) (a := ⟨w.heap.size + 1 + 1, 2, none⟩) hq (.int .i64 (mnC za zb)))
   have hbf := (((HB0.out.trans (HR6.out.mono HB0.out.size)).setCell (p := ⟨w.heap.size + 1 + 1, 0, none⟩) (by simp; omega) (.slice A1 n1 k1)).setCell (p := ⟨w.heap.size + 1 + 1, 1, none⟩) (by simp; omega) (.slice A2 n2 k2)).setCell (p := ⟨w.heap.size + 1 + 1, 2, none⟩) (by simp; omega) (.int .i64 (mnC za zb))
   exact bodyPost_ret (v := .agg #[.slice A1 n1 k1, .slice A2 n2 k2, .int .i64 (mnC za zb)]) (by simp [results, Tryz.results69, go_sem, r0, r1, r2]) rfl ⟨_, rfl, ⟨_, _, rfl, OwnD.doors ho1 HL1.out (fun g h1 _ => ⟨by have := HZ0.out; omega, HSG.out g h1⟩), OwnD.doors ho2 HL2.out (fun g h1 _ => ⟨by have := HZ0.out; omega, HSG.out g h1⟩)⟩, hbf⟩)
end Go.Proofs.YtfccnadbiglagaaGreat
