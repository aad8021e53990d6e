/- What syn's sets mean: contract of a set that is made of two. -/
import Derived.Test.YtfccnadbiglagaaGreatVSynM
set_option linter.unusedVariables false
set_option linter.unusedSimpArgs false
set_option maxRecDepth 100000
set_option maxHeartbeats 16000000
namespace Go.Proofs.YtfccnadbiglagaaGreat
open Go Go.RowKit
structure P10 where
 g5 : Nat
 g6 : Nat
 k0 : Int
 lo0 : Int
 hi0 : Int
 nm0 : ByteArray
 A0 : Option Addr
 n0 : Nat
 c0 : Nat
 k1 : Int
 lo1 : Int
 hi1 : Int
 nm1 : ByteArray
 A1 : Option Addr
 n1 : Nat
 c1 : Nat
def opK (K : Int) (x y : Rg) : Rg := if K = 5 then normL [x, y].flatten else if K = 6 then andL x y else lessL x y
theorem m_two (D : List Bs) (ss : List Rg) (hss : RtA ss) (a b' : Cls) (ha : MSpec D ss a) (hb : MSpec D ss b') (K : Int) (hK : K = 5 \/ K = 6 \/ K = 7) (w : World) (b : Nat) (v : Value) (hT : TreeV false w (fun g => g < w.heap.size) v (.mk K 0 0 0 [] [a.tree, b'.tree])) (hM : MeanAt w b D ss) :
  Calls Tryz.prog 92 #[.pointer (some ⟨b, 0, none⟩), v] w (Tells w (opK K (meanC D ss a) (meanC D ss b'))) := by
  obtain ⟨nm, A, n, c, rfl, hnm, hk⟩ := hT.five_
  obtain rfl : n = 2 := by have := hk.1; simpa using this.symm
  obtain ⟨g, o, rfl⟩ := hk.2.2.2.1.some (by omega)
  have hch0 := fun (W : World) (hW : Below w.heap.size w W) => childC_ok W (fun g => g < w.heap.size) g o 2 c [a.tree, b'.tree] 0 (by simp) (hk.fr hW) 0 rfl (by omega)
  have hch1 := fun (W : World) (hW : Below w.heap.size w W) => childC_ok W (fun g => g < w.heap.size) g o 2 c [a.tree, b'.tree] 1 (by simp) (hk.fr hW) 1 rfl (by omega)
  simp only [List.getElem_cons_zero, List.getElem_cons_succ] at hch0 hch1
  have hb0 : Below w.heap.size w (w.alloc (.cells #[.int .i64 K, .int .i64 0, .int .i64 0, .string nm, .slice (some ⟨g, o, none⟩) 2 c] 70)).drew := ((Below.refl _ _).alloc (Nat.le_refl _) _).drew
  have hbx := Blk.drew (Blk.new w 70 #[.int .i64 K, .int .i64 0, .int .i64 0, .string nm, .slice (some ⟨g, o, none⟩) 2 c])
  have hz : w.heap.size < (w.alloc (.cells #[.int .i64 K, .int .i64 0, .int .i64 0, .string nm, .slice (some ⟨g, o, none⟩) 2 c] 70)).drew.heap.size := by simp [World.drew]
  have hK1 : (K == 1) = false := by simp; omega
  have hK2 : (K == 2) = false := by simp; omega
  have hK3 : (K == 3) = false := by simp; omega
  have hK4 : (K == 4) = false := by simp; omega
  obtain ⟨RES, hRES⟩ : ∃ RES, opK K (meanC D ss a) (meanC D ss b') = RES := ⟨_, rfl⟩
  rw [hRES]
  have HRES := Lib.hid hRES; have HKK := Lib.hid hK
  have HCH0 := Lib.hid hch0; have HCH1 := Lib.hid hch1; have HB := Lib.hid hb0; have HM := Lib.hid hM; have HA := Lib.hid ha; have HBB := Lib.hid hb; have HBX := Lib.hid hbx; have HSS := Lib.hid hss
  clear hch0 hch1 hb0 hM ha hb hk hT hbx hss hnm hRES hK
  go_enter Tryz.func92, Tryz.ntmps92
  go_wp2_with fail
  refine region_xq (π := P10) 9 (fun w' : World => w'.cell? ⟨w.heap.size, 4, none⟩ = some (.slice (some ⟨g, o, none⟩) 2 c)) (fun (p : P10) (a : Act) => ((((((((a.put (some 35) (.pointer (some ⟨w.heap.size, 4, none⟩))).put (some 36) (.slice (some ⟨g, o, none⟩) 2 c)).put (some 37) (.agg #[.int .i64 p.k0, .int .i64 p.lo0, .int .i64 p.hi0, .string p.nm0, .slice p.A0 p.n0 p.c0])).put (some 38) (.pointer (some ⟨w.heap.size, 4, none⟩))).put (some 39) (.slice (some ⟨g, o, none⟩) 2 c)).put (some 40) (.agg #[.int .i64 p.k1, .int .i64 p.lo1, .int .i64 p.hi1, .string p.nm1, .slice p.A1 p.n1 p.c1])).put (some 5) (.pointer (some ⟨p.g5, 0, none⟩))).put (some 6) (.pointer (some ⟨p.g6, 0, none⟩)))) (fun (p : P10) (W : World) => Two w a.tree b'.tree #[.int .i64 K, .int .i64 0, .int .i64 0, .string nm, .slice (some ⟨g, o, none⟩) 2 c] p.g5 p.g6 #[.int .i64 p.k0, .int .i64 p.lo0, .int .i64 p.hi0, .string p.nm0, .slice p.A0 p.n0 p.c0] #[.int .i64 p.k1, .int .i64 p.lo1, .int .i64 p.hi1, .string p.nm1, .slice p.A1 p.n1 p.c1] W) (fun (p : P10) (W : World) => TwoPre w a.tree b'.tree #[.int .i64 K, .int .i64 0, .int .i64 0, .string nm, .slice (some ⟨g, o, none⟩) 2 c] p.g5 p.g6 #[.int .i64 p.k0, .int .i64 p.lo0, .int .i64 p.hi0, .string p.nm0, .slice p.A0 p.n0 p.c0] #[.int .i64 p.k1, .int .i64 p.lo1, .int .i64 p.hi1, .string p.nm1, .slice p.A1 p.n1 p.c1] W /\ W.cell? ⟨w.heap.size, 4, none⟩ = some (.slice (some ⟨g, o, none⟩) 2 c)) 2 #[true, true, true, true, true, true, true, true, false, false] (by kernel_rfl) ?_ ?_ ?_
  ·clear HB HBX hz HM HA HBB HSS HRES HKK HCH0 HCH1
   rintro ⟨G5, G6, k0, lo0, hi0, nm0, A0, n0, c0, k1, lo1, hi1, nm1, A1, n1, c1⟩ W ⟨⟨qW, lG5, lG6, hne, xbW, x6W, x7W, t2W, t5W⟩, hSW⟩
   dsimp only at lG5 lG6 hne x6W x7W t2W t5W ⊢
   try simp only [Act.put, List.getElem_toArray, List.getElem_cons_succ, List.getElem_cons_zero, List.setIfInBounds_toArray, List.set_cons_zero, List.set_cons_succ]
   have f5 := fun i => Blk.frozen x6W i
   have u0 := Blk.cell x6W 0; have u1 := Blk.cell x6W 1; have u2 := Blk.cell x6W 2; have u3 := Blk.cell x6W 3; have u4 := Blk.cell x6W 4
   simp only [List.getElem?_toArray, List.getElem?_cons_zero, List.getElem?_cons_succ] at u0 u1 u2 u3 u4
   refine anyX_g (i := 8) (by kernel_rfl) (by decide) rfl (by rfl) ?_
   intro K9 hK9
   try simp only [List.getElem_toArray, List.getElem_cons_succ, List.getElem_cons_zero]
   go_simp
   obtain ⟨V8, e8⟩ : ∃ W', fiveAt W G5 (.int .i64 k0) (.int .i64 lo0) (.int .i64 hi0) (.string nm0) (.slice A0 n0 c0) = W' := ⟨_, rfl⟩
   have y5 := Blk.five (a1 := .int .i64 k0) (a2 := .int .i64 lo0) (a3 := .int .i64 hi0) (a4 := .string nm0) (a5 := .slice A0 n0 c0) x6W
   have y6 := Blk.five_far (H := G5) (a1 := .int .i64 k0) (a2 := .int .i64 lo0) (a3 := .int .i64 hi0) (a4 := .string nm0) (a5 := .slice A0 n0 c0) x7W (Ne.symm hne)
   have yb := Blk.five_far (H := G5) (a1 := .int .i64 k0) (a2 := .int .i64 lo0) (a3 := .int .i64 hi0) (a4 := .string nm0) (a5 := .slice A0 n0 c0) xbW (by omega)
   have z0 := TreeV.five (H := G5) (a1 := .int .i64 k0) (a2 := .int .i64 lo0) (a3 := .int .i64 hi0) (a4 := .string nm0) (a5 := .slice A0 n0 c0) t2W (fun _ h => h) (fun g hg => by omega)
   have z1 := TreeV.five (H := G5) (a1 := .int .i64 k0) (a2 := .int .i64 lo0) (a3 := .int .i64 hi0) (a4 := .string nm0) (a5 := .slice A0 n0 c0) t5W (fun _ h => h) (fun g hg => by omega)
   have hb8 := Below.five (H := G5) (a1 := .int .i64 k0) (a2 := .int .i64 lo0) (a3 := .int .i64 hi0) (a4 := .string nm0) (a5 := .slice A0 n0 c0) qW (by omega)
   rw [e8] at y5 y6 yb z0 z1 hb8
   unfold fiveAt at e8
   rw [e8]
   have hS8 : V8.cell? ⟨w.heap.size, 4, none⟩ = some (.slice (some ⟨g, o, none⟩) 2 c) := Blk.cell yb 4
   refine hK9 _ _ hS8 ?_
   clear hK9 e8 f5 u0 u1 u2 u3 u4
   try simp only [Act.put, List.getElem_toArray, List.getElem_cons_succ, List.getElem_cons_zero, List.setIfInBounds_toArray, List.set_cons_zero, List.set_cons_succ]
   have f6 := fun i => Blk.frozen y6 i
   have u0 := Blk.cell y6 0; have u1 := Blk.cell y6 1; have u2 := Blk.cell y6 2; have u3 := Blk.cell y6 3; have u4 := Blk.cell y6 4
   simp only [List.getElem?_toArray, List.getElem?_cons_zero, List.getElem?_cons_succ] at u0 u1 u2 u3 u4
   refine anyX_last (by kernel_rfl) (by kernel_rfl) rfl rfl ?_
   try simp only [List.getElem_toArray, List.getElem_cons_succ, List.getElem_cons_zero]
   go_simp
   refine .inl ⟨⟨G5, G6, k0, lo0, hi0, nm0, A0, n0, c0, k1, lo1, hi1, nm1, A1, n1, c1⟩, rfl, ?_, ?_⟩
   ·dsimp only
    simp only [Act.put, List.getElem_toArray, List.getElem_cons_succ, List.getElem_cons_zero, List.setIfInBounds_toArray, List.set_cons_zero, List.set_cons_succ]
   exact ⟨Below.five hb8 (H := G6) (by omega), lG5, lG6, hne, Blk.five_far yb (by omega), Blk.five_far y5 hne, Blk.five y6, TreeV.five z0 (fun _ h => h) (fun g hg => by omega), TreeV.five z1 (fun _ h => h) (fun g hg => by omega)⟩
  ·intro HLF
   obtain ⟨W0, eW0⟩ : ∃ W0, (w.alloc (.cells #[.int .i64 K, .int .i64 0, .int .i64 0, .string nm, .slice (some ⟨g, o, none⟩) 2 c] 70)).drew = W0 := ⟨_, rfl⟩
   rw [eW0] at HB HBX hz ⊢
   have qW0 := HB.out
   have xbW0 := HBX.out
   have sW0 := hz
   have hSW0 : W0.cell? ⟨w.heap.size, 4, none⟩ = some (.slice (some ⟨g, o, none⟩) 2 c) := Blk.cell xbW0 4
   clear HB HBX hz HM HA HBB eW0 HSS HRES HKK
   refine anyX_take (i := 0) (v := ?_) rfl (by kernel_rfl) (by kernel_rfl) (by kernel_rfl) (by kernel_rfl) (ends_panic _ _ (fun _ _ _ h => h)) (Or.inl ⟨by rfl, ?_⟩) hSW0 ?_
   rotate_left
   ·intro w' s0
    go_simp
    try with_reducible rfl
   try simp only [Act.put, List.getElem_toArray, List.getElem_cons_succ, List.getElem_cons_zero, List.setIfInBounds_toArray, List.set_cons_zero, List.set_cons_succ]
   refine anyX_take (i := 1) (v := ?_) rfl (by kernel_rfl) (by kernel_rfl) (by kernel_rfl) (by kernel_rfl) (ends_panic _ _ (fun _ _ _ h => h)) (Or.inl ⟨by rfl, ?_⟩) hSW0 ?_
   rotate_left
   ·intro w' s0
    go_simp
    try with_reducible rfl
   try simp only [Act.put, List.getElem_toArray, List.getElem_cons_succ, List.getElem_cons_zero, List.setIfInBounds_toArray, List.set_cons_zero, List.set_cons_succ]
   refine anyX_take (i := 3) (v := ?_) rfl (by kernel_rfl) (by kernel_rfl) (by kernel_rfl) (by kernel_rfl) (ends_panic _ _ (fun _ _ _ h => h)) (Or.inl ⟨by rfl, ?_⟩) hSW0 ?_
   rotate_left
   ·intro w' s0
    go_simp
    try with_reducible rfl
   try simp only [Act.put, List.getElem_toArray, List.getElem_cons_succ, List.getElem_cons_zero, List.setIfInBounds_toArray, List.set_cons_zero, List.set_cons_succ]
   refine anyX_take (i := 4) (v := ?_) rfl (by kernel_rfl) (by kernel_rfl) (by kernel_rfl) (by kernel_rfl) (ends_panic _ _ (fun _ _ _ h => h)) (Or.inl ⟨by rfl, ?_⟩) hSW0 ?_
   rotate_left
   ·intro w' s0
    go_simp
    try with_reducible rfl
   try simp only [Act.put, List.getElem_toArray, List.getElem_cons_succ, List.getElem_cons_zero, List.setIfInBounds_toArray, List.set_cons_zero, List.set_cons_succ]
   refine anyX_3 (i := 2) (j := 6) (l := 7) (by kernel_rfl) (by decide) (by decide) (by decide) rfl rfl rfl rfl rfl rfl ?_ ?_ ?_
   ·intro K hK
    try simp only [List.getElem_toArray, List.getElem_cons_succ, List.getElem_cons_zero]
    refine wp_enterE #[.slice (some ⟨g, o, none⟩) 2 c, .int .i64 0] Tryz.func118 (by kernel_rfl) (by kernel_rfl) ?_ (HCH0.out W0 qW0) ?_
    ·go_simp
    rintro e W1 ⟨v0, rfl, t2W1, hbW1⟩
    obtain ⟨k0, lo0, hi0, nm0, A0, n0, c0, rfl, -⟩ := t2W1.kindedC
    refine ⟨_, rfl, ?_⟩
    have qW1 : Below w.heap.size w W1 := qW0.trans (hbW1.mono qW0.size)
    have sW1 : w.heap.size < W1.heap.size := Nat.lt_of_lt_of_le sW0 hbW1.size
    have hSW1 : W1.cell? ⟨w.heap.size, 4, none⟩ = some (.slice (some ⟨g, o, none⟩) 2 c) := by rw [hbW1.cell (p := ⟨w.heap.size, 4, none⟩) sW0]; exact hSW0
    have xbW1 := Blk.below xbW0 hbW1 sW0
    refine hK _ _ hSW1 ?_
    clear hK
    try simp only [Act.put, List.getElem_toArray, List.getElem_cons_succ, List.getElem_cons_zero, List.setIfInBounds_toArray, List.set_cons_zero, List.set_cons_succ]
    refine anyX_3 (i := 5) (j := 6) (l := 7) (by kernel_rfl) (by decide) (by decide) (by decide) rfl rfl rfl rfl rfl rfl ?_ ?_ ?_
    ·intro K hK
     try simp only [List.getElem_toArray, List.getElem_cons_succ, List.getElem_cons_zero]
     refine wp_enterE #[.slice (some ⟨g, o, none⟩) 2 c, .int .i64 1] Tryz.func118 (by kernel_rfl) (by kernel_rfl) ?_ (HCH1.out W1 qW1) ?_
     ·go_simp
     rintro e W2 ⟨v1, rfl, t5W2, hbW2⟩
     obtain ⟨k1, lo1, hi1, nm1, A1, n1, c1, rfl, -⟩ := t5W2.kindedC
     refine ⟨_, rfl, ?_⟩
     have qW2 : Below w.heap.size w W2 := qW1.trans (hbW2.mono qW1.size)
     have sW2 : w.heap.size < W2.heap.size := Nat.lt_of_lt_of_le sW1 hbW2.size
     have hSW2 : W2.cell? ⟨w.heap.size, 4, none⟩ = some (.slice (some ⟨g, o, none⟩) 2 c) := by rw [hbW2.cell (p := ⟨w.heap.size, 4, none⟩) sW1]; exact hSW1
     have xbW2 := Blk.below xbW1 hbW2 sW1
     have t2W2 := t2W1.fr (hbW2.mono qW1.size)
     refine hK _ _ hSW2 ?_
     clear hK
     try simp only [Act.put, List.getElem_toArray, List.getElem_cons_succ, List.getElem_cons_zero, List.setIfInBounds_toArray, List.set_cons_zero, List.set_cons_succ]
     refine anyX_2 (i := 6) (j := 7) (by kernel_rfl) (by decide) (by decide) rfl rfl rfl rfl ?_ ?_
     ·intro K hK
      try simp only [List.getElem_toArray, List.getElem_cons_succ, List.getElem_cons_zero]
      go_simp
      obtain ⟨W3, eW3⟩ : ∃ W', W2.alloc (.cells #[.int .i64 0, .int .i64 0, .int .i64 0, .string ⟨#[]⟩, .slice none 0 0] 70) = W' := ⟨_, rfl⟩
      have hbW3 : Below W2.heap.size W2 W3 := by rw [<- eW3]; exact (Below.refl _ _).alloc (Nat.le_refl _) _
      have x6W3 : Blk W3 W2.heap.size 70 #[.int .i64 0, .int .i64 0, .int .i64 0, .string ⟨#[]⟩, .slice none 0 0] := by rw [<- eW3]; exact Blk.new _ _ _
      rw [eW3]
      have qW3 : Below w.heap.size w W3 := qW2.trans (hbW3.mono qW2.size)
      have sW3 : w.heap.size < W3.heap.size := Nat.lt_of_lt_of_le sW2 hbW3.size
      have hSW3 : W3.cell? ⟨w.heap.size, 4, none⟩ = some (.slice (some ⟨g, o, none⟩) 2 c) := by rw [hbW3.cell (p := ⟨w.heap.size, 4, none⟩) sW2]; exact hSW2
      have xbW3 := Blk.below xbW2 hbW3 sW2
      have t2W3 := t2W2.fr (hbW3.mono qW2.size)
      have t5W3 := t5W2.fr (hbW3.mono qW2.size)
      obtain ⟨G5, eG5⟩ : ∃ G, W2.heap.size = G := ⟨_, rfl⟩
      have lG5 : w.heap.size < G5 := by rw [<- eG5]; exact sW2
      rw [eG5] at x6W3
      try rw [eG5]
      refine hK _ _ hSW3 ?_
      clear hK
      try simp only [Act.put, List.getElem_toArray, List.getElem_cons_succ, List.getElem_cons_zero, List.setIfInBounds_toArray, List.set_cons_zero, List.set_cons_succ]
      refine anyX_g (i := 7) (by kernel_rfl) (by decide) rfl (by rfl) ?_
      intro K hK
      try simp only [List.getElem_toArray, List.getElem_cons_succ, List.getElem_cons_zero]
      go_simp
      obtain ⟨W4, eW4⟩ : ∃ W', W3.alloc (.cells #[.int .i64 0, .int .i64 0, .int .i64 0, .string ⟨#[]⟩, .slice none 0 0] 70) = W' := ⟨_, rfl⟩
      have hbW4 : Below W3.heap.size W3 W4 := by rw [<- eW4]; exact (Below.refl _ _).alloc (Nat.le_refl _) _
      have x7W4 : Blk W4 W3.heap.size 70 #[.int .i64 0, .int .i64 0, .int .i64 0, .string ⟨#[]⟩, .slice none 0 0] := by rw [<- eW4]; exact Blk.new _ _ _
      rw [eW4]
      have qW4 : Below w.heap.size w W4 := qW3.trans (hbW4.mono qW3.size)
      have sW4 : w.heap.size < W4.heap.size := Nat.lt_of_lt_of_le sW3 hbW4.size
      have hSW4 : W4.cell? ⟨w.heap.size, 4, none⟩ = some (.slice (some ⟨g, o, none⟩) 2 c) := by rw [hbW4.cell (p := ⟨w.heap.size, 4, none⟩) sW3]; exact hSW3
      have xbW4 := Blk.below xbW3 hbW4 sW3
      have t2W4 := t2W3.fr (hbW4.mono qW3.size)
      have t5W4 := t5W3.fr (hbW4.mono qW3.size)
      have x6W4 := Blk.below x6W3 hbW4 (Blk.lt x6W3)
      obtain ⟨G6, eG6⟩ : ∃ G, W3.heap.size = G := ⟨_, rfl⟩
      have lG6 : w.heap.size < G6 := by rw [<- eG6]; exact sW3
      have hne : G5 ≠ G6 := by have := Blk.lt x6W3; omega
      rw [eG6] at x7W4
      try rw [eG6]
      refine hK _ _ hSW4 ?_
      clear hK
      try simp only [Act.put, List.getElem_toArray, List.getElem_cons_succ, List.getElem_cons_zero, List.setIfInBounds_toArray, List.set_cons_zero, List.set_cons_succ]
      have hlf := HLF ⟨G5, G6, k0, lo0, hi0, nm0, A0, n0, c0, k1, lo1, hi1, nm1, A1, n1, c1⟩ W4 ⟨⟨qW4, lG5, lG6, hne, xbW4, x6W4, x7W4, t2W4, t5W4⟩, hSW4⟩
      dsimp only at hlf
      simp only [Act.put, List.getElem_toArray, List.getElem_cons_succ, List.getElem_cons_zero, List.setIfInBounds_toArray, List.set_cons_zero, List.set_cons_succ] at hlf
      exact hlf
     ·intro K hK
      try simp only [List.getElem_toArray, List.getElem_cons_succ, List.getElem_cons_zero]
      go_simp
      obtain ⟨W5, eW5⟩ : ∃ W', W2.alloc (.cells #[.int .i64 0, .int .i64 0, .int .i64 0, .string ⟨#[]⟩, .slice none 0 0] 70) = W' := ⟨_, rfl⟩
      have hbW5 : Below W2.heap.size W2 W5 := by rw [<- eW5]; exact (Below.refl _ _).alloc (Nat.le_refl _) _
      have x7W5 : Blk W5 W2.heap.size 70 #[.int .i64 0, .int .i64 0, .int .i64 0, .string ⟨#[]⟩, .slice none 0 0] := by rw [<- eW5]; exact Blk.new _ _ _
      rw [eW5]
      have qW5 : Below w.heap.size w W5 := qW2.trans (hbW5.mono qW2.size)
      have sW5 : w.heap.size < W5.heap.size := Nat.lt_of_lt_of_le sW2 hbW5.size
      have hSW5 : W5.cell? ⟨w.heap.size, 4, none⟩ = some (.slice (some ⟨g, o, none⟩) 2 c) := by rw [hbW5.cell (p := ⟨w.heap.size, 4, none⟩) sW2]; exact hSW2
      have xbW5 := Blk.below xbW2 hbW5 sW2
      have t2W5 := t2W2.fr (hbW5.mono qW2.size)
      have t5W5 := t5W2.fr (hbW5.mono qW2.size)
      obtain ⟨G6, eG6⟩ : ∃ G, W2.heap.size = G := ⟨_, rfl⟩
      have lG6 : w.heap.size < G6 := by rw [<- eG6]; exact sW2
      rw [eG6] at x7W5
      try rw [eG6]
      refine hK _ _ hSW5 ?_
      clear hK
      try simp only [Act.put, List.getElem_toArray, List.getElem_cons_succ, List.getElem_cons_zero, List.setIfInBounds_toArray, List.set_cons_zero, List.set_cons_succ]
      refine anyX_g (i := 6) (by kernel_rfl) (by decide) rfl (by rfl) ?_
      intro K hK
      try simp only [List.getElem_toArray, List.getElem_cons_succ, List.getElem_cons_zero]
      go_simp
      obtain ⟨W6, eW6⟩ : ∃ W', W5.alloc (.cells #[.int .i64 0, .int .i64 0, .int .i64 0, .string ⟨#[]⟩, .slice none 0 0] 70) = W' := ⟨_, rfl⟩
      have hbW6 : Below W5.heap.size W5 W6 := by rw [<- eW6]; exact (Below.refl _ _).alloc (Nat.le_refl _) _
      have x6W6 : Blk W6 W5.heap.size 70 #[.int .i64 0, .int .i64 0, .int .i64 0, .string ⟨#[]⟩, .slice none 0 0] := by rw [<- eW6]; exact Blk.new _ _ _
      rw [eW6]
      have qW6 : Below w.heap.size w W6 := qW5.trans (hbW6.mono qW5.size)
      have sW6 : w.heap.size < W6.heap.size := Nat.lt_of_lt_of_le sW5 hbW6.size
      have hSW6 : W6.cell? ⟨w.heap.size, 4, none⟩ = some (.slice (some ⟨g, o, none⟩) 2 c) := by rw [hbW6.cell (p := ⟨w.heap.size, 4, none⟩) sW5]; exact hSW5
      have xbW6 := Blk.below xbW5 hbW6 sW5
      have t2W6 := t2W5.fr (hbW6.mono qW5.size)
      have t5W6 := t5W5.fr (hbW6.mono qW5.size)
      have x7W6 := Blk.below x7W5 hbW6 (Blk.lt x7W5)
      obtain ⟨G5, eG5⟩ : ∃ G, W5.heap.size = G := ⟨_, rfl⟩
      have lG5 : w.heap.size < G5 := by rw [<- eG5]; exact sW5
      have hne : G5 ≠ G6 := by have := Blk.lt x7W5; omega
      rw [eG5] at x6W6
      try rw [eG5]
      refine hK _ _ hSW6 ?_
      clear hK
      try simp only [Act.put, List.getElem_toArray, List.getElem_cons_succ, List.getElem_cons_zero, List.setIfInBounds_toArray, List.set_cons_zero, List.set_cons_succ]
      have hlf := HLF ⟨G5, G6, k0, lo0, hi0, nm0, A0, n0, c0, k1, lo1, hi1, nm1, A1, n1, c1⟩ W6 ⟨⟨qW6, lG5, lG6, hne, xbW6, x6W6, x7W6, t2W6, t5W6⟩, hSW6⟩
      dsimp only at hlf
      simp only [Act.put, List.getElem_toArray, List.getElem_cons_succ, List.getElem_cons_zero, List.setIfInBounds_toArray, List.set_cons_zero, List.set_cons_succ] at hlf
      exact hlf
    ·intro K hK
     try simp only [List.getElem_toArray, List.getElem_cons_succ, List.getElem_cons_zero]
     go_simp
     obtain ⟨W7, eW7⟩ : ∃ W', W1.alloc (.cells #[.int .i64 0, .int .i64 0, .int .i64 0, .string ⟨#[]⟩, .slice none 0 0] 70) = W' := ⟨_, rfl⟩
     have hbW7 : Below W1.heap.size W1 W7 := by rw [<- eW7]; exact (Below.refl _ _).alloc (Nat.le_refl _) _
     have x6W7 : Blk W7 W1.heap.size 70 #[.int .i64 0, .int .i64 0, .int .i64 0, .string ⟨#[]⟩, .slice none 0 0] := by rw [<- eW7]; exact Blk.new _ _ _
     rw [eW7]
     have qW7 : Below w.heap.size w W7 := qW1.trans (hbW7.mono qW1.size)
     have sW7 : w.heap.size < W7.heap.size := Nat.lt_of_lt_of_le sW1 hbW7.size
     have hSW7 : W7.cell? ⟨w.heap.size, 4, none⟩ = some (.slice (some ⟨g, o, none⟩) 2 c) := by rw [hbW7.cell (p := ⟨w.heap.size, 4, none⟩) sW1]; exact hSW1
     have xbW7 := Blk.below xbW1 hbW7 sW1
     have t2W7 := t2W1.fr (hbW7.mono qW1.size)
     obtain ⟨G5, eG5⟩ : ∃ G, W1.heap.size = G := ⟨_, rfl⟩
     have lG5 : w.heap.size < G5 := by rw [<- eG5]; exact sW1
     rw [eG5] at x6W7
     try rw [eG5]
     refine hK _ _ hSW7 ?_
     clear hK
     try simp only [Act.put, List.getElem_toArray, List.getElem_cons_succ, List.getElem_cons_zero, List.setIfInBounds_toArray, List.set_cons_zero, List.set_cons_succ]
     refine anyX_2 (i := 5) (j := 7) (by kernel_rfl) (by decide) (by decide) rfl rfl rfl rfl ?_ ?_
     ·intro K hK
      try simp only [List.getElem_toArray, List.getElem_cons_succ, List.getElem_cons_zero]
      refine wp_enterE #[.slice (some ⟨g, o, none⟩) 2 c, .int .i64 1] Tryz.func118 (by kernel_rfl) (by kernel_rfl) ?_ (HCH1.out W7 qW7) ?_
      ·go_simp
      rintro e W8 ⟨v1, rfl, t5W8, hbW8⟩
      obtain ⟨k1, lo1, hi1, nm1, A1, n1, c1, rfl, -⟩ := t5W8.kindedC
      refine ⟨_, rfl, ?_⟩
      have qW8 : Below w.heap.size w W8 := qW7.trans (hbW8.mono qW7.size)
      have sW8 : w.heap.size < W8.heap.size := Nat.lt_of_lt_of_le sW7 hbW8.size
      have hSW8 : W8.cell? ⟨w.heap.size, 4, none⟩ = some (.slice (some ⟨g, o, none⟩) 2 c) := by rw [hbW8.cell (p := ⟨w.heap.size, 4, none⟩) sW7]; exact hSW7
      have xbW8 := Blk.below xbW7 hbW8 sW7
      have t2W8 := t2W7.fr (hbW8.mono qW7.size)
      have x6W8 := Blk.below x6W7 hbW8 (Blk.lt x6W7)
      refine hK _ _ hSW8 ?_
      clear hK
      try simp only [Act.put, List.getElem_toArray, List.getElem_cons_succ, List.getElem_cons_zero, List.setIfInBounds_toArray, List.set_cons_zero, List.set_cons_succ]
      refine anyX_g (i := 7) (by kernel_rfl) (by decide) rfl (by rfl) ?_
      intro K hK
      try simp only [List.getElem_toArray, List.getElem_cons_succ, List.getElem_cons_zero]
      go_simp
      obtain ⟨W9, eW9⟩ : ∃ W', W8.alloc (.cells #[.int .i64 0, .int .i64 0, .int .i64 0, .string ⟨#[]⟩, .slice none 0 0] 70) = W' := ⟨_, rfl⟩
      have hbW9 : Below W8.heap.size W8 W9 := by rw [<- eW9]; exact (Below.refl _ _).alloc (Nat.le_refl _) _
      have x7W9 : Blk W9 W8.heap.size 70 #[.int .i64 0, .int .i64 0, .int .i64 0, .string ⟨#[]⟩, .slice none 0 0] := by rw [<- eW9]; exact Blk.new _ _ _
      rw [eW9]
      have qW9 : Below w.heap.size w W9 := qW8.trans (hbW9.mono qW8.size)
      have sW9 : w.heap.size < W9.heap.size := Nat.lt_of_lt_of_le sW8 hbW9.size
      have hSW9 : W9.cell? ⟨w.heap.size, 4, none⟩ = some (.slice (some ⟨g, o, none⟩) 2 c) := by rw [hbW9.cell (p := ⟨w.heap.size, 4, none⟩) sW8]; exact hSW8
      have xbW9 := Blk.below xbW8 hbW9 sW8
      have t2W9 := t2W8.fr (hbW9.mono qW8.size)
      have x6W9 := Blk.below x6W8 hbW9 (Blk.lt x6W8)
      have t5W9 := t5W8.fr (hbW9.mono qW8.size)
      obtain ⟨G6, eG6⟩ : ∃ G, W8.heap.size = G := ⟨_, rfl⟩
      have lG6 : w.heap.size < G6 := by rw [<- eG6]; exact sW8
      have hne : G5 ≠ G6 := by have := Blk.lt x6W8; omega
      rw [eG6] at x7W9
      try rw [eG6]
      refine hK _ _ hSW9 ?_
      clear hK
      try simp only [Act.put, List.getElem_toArray, List.getElem_cons_succ, List.getElem_cons_zero, List.setIfInBounds_toArray, List.set_cons_zero, List.set_cons_succ]
      have hlf := HLF ⟨G5, G6, k0, lo0, hi0, nm0, A0, n0, c0, k1, lo1, hi1, nm1, A1, n1, c1⟩ W9 ⟨⟨qW9, lG5, lG6, hne, xbW9, x6W9, x7W9, t2W9, t5W9⟩, hSW9⟩
      dsimp only at hlf
      simp only [Act.put, List.getElem_toArray, List.getElem_cons_succ, List.getElem_cons_zero, List.setIfInBounds_toArray, List.set_cons_zero, List.set_cons_succ] at hlf
      exact hlf
     ·intro K hK
      try simp only [List.getElem_toArray, List.getElem_cons_succ, List.getElem_cons_zero]
      go_simp
      obtain ⟨W10, eW10⟩ : ∃ W', W7.alloc (.cells #[.int .i64 0, .int .i64 0, .int .i64 0, .string ⟨#[]⟩, .slice none 0 0] 70) = W' := ⟨_, rfl⟩
      have hbW10 : Below W7.heap.size W7 W10 := by rw [<- eW10]; exact (Below.refl _ _).alloc (Nat.le_refl _) _
      have x7W10 : Blk W10 W7.heap.size 70 #[.int .i64 0, .int .i64 0, .int .i64 0, .string ⟨#[]⟩, .slice none 0 0] := by rw [<- eW10]; exact Blk.new _ _ _
      rw [eW10]
      have qW10 : Below w.heap.size w W10 := qW7.trans (hbW10.mono qW7.size)
      have sW10 : w.heap.size < W10.heap.size := Nat.lt_of_lt_of_le sW7 hbW10.size
      have hSW10 : W10.cell? ⟨w.heap.size, 4, none⟩ = some (.slice (some ⟨g, o, none⟩) 2 c) := by rw [hbW10.cell (p := ⟨w.heap.size, 4, none⟩) sW7]; exact hSW7
      have xbW10 := Blk.below xbW7 hbW10 sW7
      have t2W10 := t2W7.fr (hbW10.mono qW7.size)
      have x6W10 := Blk.below x6W7 hbW10 (Blk.lt x6W7)
      obtain ⟨G6, eG6⟩ : ∃ G, W7.heap.size = G := ⟨_, rfl⟩
      have lG6 : w.heap.size < G6 := by rw [<- eG6]; exact sW7
      have hne : G5 ≠ G6 := by have := Blk.lt x6W7; omega
      rw [eG6] at x7W10
      try rw [eG6]
      refine hK _ _ hSW10 ?_
      clear hK
      try simp only [Act.put, List.getElem_toArray, List.getElem_cons_succ, List.getElem_cons_zero, List.setIfInBounds_toArray, List.set_cons_zero, List.set_cons_succ]
      refine anyX_g (i := 5) (by kernel_rfl) (by decide) rfl (by rfl) ?_
      intro K hK
      try simp only [List.getElem_toArray, List.getElem_cons_succ, List.getElem_cons_zero]
      refine wp_enterE #[.slice (some ⟨g, o, none⟩) 2 c, .int .i64 1] Tryz.func118 (by kernel_rfl) (by kernel_rfl) ?_ (HCH1.out W10 qW10) ?_
      ·go_simp
      rintro e W11 ⟨v1, rfl, t5W11, hbW11⟩
      obtain ⟨k1, lo1, hi1, nm1, A1, n1, c1, rfl, -⟩ := t5W11.kindedC
      refine ⟨_, rfl, ?_⟩
      have qW11 : Below w.heap.size w W11 := qW10.trans (hbW11.mono qW10.size)
      have sW11 : w.heap.size < W11.heap.size := Nat.lt_of_lt_of_le sW10 hbW11.size
      have hSW11 : W11.cell? ⟨w.heap.size, 4, none⟩ = some (.slice (some ⟨g, o, none⟩) 2 c) := by rw [hbW11.cell (p := ⟨w.heap.size, 4, none⟩) sW10]; exact hSW10
      have xbW11 := Blk.below xbW10 hbW11 sW10
      have t2W11 := t2W10.fr (hbW11.mono qW10.size)
      have x6W11 := Blk.below x6W10 hbW11 (Blk.lt x6W10)
      have x7W11 := Blk.below x7W10 hbW11 (Blk.lt x7W10)
      refine hK _ _ hSW11 ?_
      clear hK
      try simp only [Act.put, List.getElem_toArray, List.getElem_cons_succ, List.getElem_cons_zero, List.setIfInBounds_toArray, List.set_cons_zero, List.set_cons_succ]
      have hlf := HLF ⟨G5, G6, k0, lo0, hi0, nm0, A0, n0, c0, k1, lo1, hi1, nm1, A1, n1, c1⟩ W11 ⟨⟨qW11, lG5, lG6, hne, xbW11, x6W11, x7W11, t2W11, t5W11⟩, hSW11⟩
      dsimp only at hlf
      simp only [Act.put, List.getElem_toArray, List.getElem_cons_succ, List.getElem_cons_zero, List.setIfInBounds_toArray, List.set_cons_zero, List.set_cons_succ] at hlf
      exact hlf
    ·intro K hK
     try simp only [List.getElem_toArray, List.getElem_cons_succ, List.getElem_cons_zero]
     go_simp
     obtain ⟨W12, eW12⟩ : ∃ W', W1.alloc (.cells #[.int .i64 0, .int .i64 0, .int .i64 0, .string ⟨#[]⟩, .slice none 0 0] 70) = W' := ⟨_, rfl⟩
     have hbW12 : Below W1.heap.size W1 W12 := by rw [<- eW12]; exact (Below.refl _ _).alloc (Nat.le_refl _) _
     have x7W12 : Blk W12 W1.heap.size 70 #[.int .i64 0, .int .i64 0, .int .i64 0, .string ⟨#[]⟩, .slice none 0 0] := by rw [<- eW12]; exact Blk.new _ _ _
     rw [eW12]
     have qW12 : Below w.heap.size w W12 := qW1.trans (hbW12.mono qW1.size)
     have sW12 : w.heap.size < W12.heap.size := Nat.lt_of_lt_of_le sW1 hbW12.size
     have hSW12 : W12.cell? ⟨w.heap.size, 4, none⟩ = some (.slice (some ⟨g, o, none⟩) 2 c) := by rw [hbW12.cell (p := ⟨w.heap.size, 4, none⟩) sW1]; exact hSW1
     have xbW12 := Blk.below xbW1 hbW12 sW1
     have t2W12 := t2W1.fr (hbW12.mono qW1.size)
     obtain ⟨G6, eG6⟩ : ∃ G, W1.heap.size = G := ⟨_, rfl⟩
     have lG6 : w.heap.size < G6 := by rw [<- eG6]; exact sW1
     rw [eG6] at x7W12
     try rw [eG6]
     refine hK _ _ hSW12 ?_
     clear hK
     try simp only [Act.put, List.getElem_toArray, List.getElem_cons_succ, List.getElem_cons_zero, List.setIfInBounds_toArray, List.set_cons_zero, List.set_cons_succ]
     refine anyX_2 (i := 5) (j := 6) (by kernel_rfl) (by decide) (by decide) rfl rfl rfl rfl ?_ ?_
     ·intro K hK
      try simp only [List.getElem_toArray, List.getElem_cons_succ, List.getElem_cons_zero]
      refine wp_enterE #[.slice (some ⟨g, o, none⟩) 2 c, .int .i64 1] Tryz.func118 (by kernel_rfl) (by kernel_rfl) ?_ (HCH1.out W12 qW12) ?_
      ·go_simp
      rintro e W13 ⟨v1, rfl, t5W13, hbW13⟩
      obtain ⟨k1, lo1, hi1, nm1, A1, n1, c1, rfl, -⟩ := t5W13.kindedC
      refine ⟨_, rfl, ?_⟩
      have qW13 : Below w.heap.size w W13 := qW12.trans (hbW13.mono qW12.size)
      have sW13 : w.heap.size < W13.heap.size := Nat.lt_of_lt_of_le sW12 hbW13.size
      have hSW13 : W13.cell? ⟨w.heap.size, 4, none⟩ = some (.slice (some ⟨g, o, none⟩) 2 c) := by rw [hbW13.cell (p := ⟨w.heap.size, 4, none⟩) sW12]; exact hSW12
      have xbW13 := Blk.below xbW12 hbW13 sW12
      have t2W13 := t2W12.fr (hbW13.mono qW12.size)
      have x7W13 := Blk.below x7W12 hbW13 (Blk.lt x7W12)
      refine hK _ _ hSW13 ?_
      clear hK
      try simp only [Act.put, List.getElem_toArray, List.getElem_cons_succ, List.getElem_cons_zero, List.setIfInBounds_toArray, List.set_cons_zero, List.set_cons_succ]
      refine anyX_g (i := 6) (by kernel_rfl) (by decide) rfl (by rfl) ?_
      intro K hK
      try simp only [List.getElem_toArray, List.getElem_cons_succ, List.getElem_cons_zero]
      go_simp
      obtain ⟨W14, eW14⟩ : ∃ W', W13.alloc (.cells #[.int .i64 0, .int .i64 0, .int .i64 0, .string ⟨#[]⟩, .slice none 0 0] 70) = W' := ⟨_, rfl⟩
      have hbW14 : Below W13.heap.size W13 W14 := by rw [<- eW14]; exact (Below.refl _ _).alloc (Nat.le_refl _) _
      have x6W14 : Blk W14 W13.heap.size 70 #[.int .i64 0, .int .i64 0, .int .i64 0, .string ⟨#[]⟩, .slice none 0 0] := by rw [<- eW14]; exact Blk.new _ _ _
      rw [eW14]
      have qW14 : Below w.heap.size w W14 := qW13.trans (hbW14.mono qW13.size)
      have sW14 : w.heap.size < W14.heap.size := Nat.lt_of_lt_of_le sW13 hbW14.size
      have hSW14 : W14.cell? ⟨w.heap.size, 4, none⟩ = some (.slice (some ⟨g, o, none⟩) 2 c) := by rw [hbW14.cell (p := ⟨w.heap.size, 4, none⟩) sW13]; exact hSW13
      have xbW14 := Blk.below xbW13 hbW14 sW13
      have t2W14 := t2W13.fr (hbW14.mono qW13.size)
      have x7W14 := Blk.below x7W13 hbW14 (Blk.lt x7W13)
      have t5W14 := t5W13.fr (hbW14.mono qW13.size)
      obtain ⟨G5, eG5⟩ : ∃ G, W13.heap.size = G := ⟨_, rfl⟩
      have lG5 : w.heap.size < G5 := by rw [<- eG5]; exact sW13
      have hne : G5 ≠ G6 := by have := Blk.lt x7W13; omega
      rw [eG5] at x6W14
      try rw [eG5]
      refine hK _ _ hSW14 ?_
      clear hK
      try simp only [Act.put, List.getElem_toArray, List.getElem_cons_succ, List.getElem_cons_zero, List.setIfInBounds_toArray, List.set_cons_zero, List.set_cons_succ]
      have hlf := HLF ⟨G5, G6, k0, lo0, hi0, nm0, A0, n0, c0, k1, lo1, hi1, nm1, A1, n1, c1⟩ W14 ⟨⟨qW14, lG5, lG6, hne, xbW14, x6W14, x7W14, t2W14, t5W14⟩, hSW14⟩
      dsimp only at hlf
      simp only [Act.put, List.getElem_toArray, List.getElem_cons_succ, List.getElem_cons_zero, List.setIfInBounds_toArray, List.set_cons_zero, List.set_cons_succ] at hlf
      exact hlf
     ·intro K hK
      try simp only [List.getElem_toArray, List.getElem_cons_succ, List.getElem_cons_zero]
      go_simp
      obtain ⟨W15, eW15⟩ : ∃ W', W12.alloc (.cells #[.int .i64 0, .int .i64 0, .int .i64 0, .string ⟨#[]⟩, .slice none 0 0] 70) = W' := ⟨_, rfl⟩
      have hbW15 : Below W12.heap.size W12 W15 := by rw [<- eW15]; exact (Below.refl _ _).alloc (Nat.le_refl _) _
      have x6W15 : Blk W15 W12.heap.size 70 #[.int .i64 0, .int .i64 0, .int .i64 0, .string ⟨#[]⟩, .slice none 0 0] := by rw [<- eW15]; exact Blk.new _ _ _
      rw [eW15]
      have qW15 : Below w.heap.size w W15 := qW12.trans (hbW15.mono qW12.size)
      have sW15 : w.heap.size < W15.heap.size := Nat.lt_of_lt_of_le sW12 hbW15.size
      have hSW15 : W15.cell? ⟨w.heap.size, 4, none⟩ = some (.slice (some ⟨g, o, none⟩) 2 c) := by rw [hbW15.cell (p := ⟨w.heap.size, 4, none⟩) sW12]; exact hSW12
      have xbW15 := Blk.below xbW12 hbW15 sW12
      have t2W15 := t2W12.fr (hbW15.mono qW12.size)
      have x7W15 := Blk.below x7W12 hbW15 (Blk.lt x7W12)
      obtain ⟨G5, eG5⟩ : ∃ G, W12.heap.size = G := ⟨_, rfl⟩
      have lG5 : w.heap.size < G5 := by rw [<- eG5]; exact sW12
      have hne : G5 ≠ G6 := by have := Blk.lt x7W12; omega
      rw [eG5] at x6W15
      try rw [eG5]
      refine hK _ _ hSW15 ?_
      clear hK
      try simp only [Act.put, List.getElem_toArray, List.getElem_cons_succ, List.getElem_cons_zero, List.setIfInBounds_toArray, List.set_cons_zero, List.set_cons_succ]
      refine anyX_g (i := 5) (by kernel_rfl) (by decide) rfl (by rfl) ?_
      intro K hK
      try simp only [List.getElem_toArray, List.getElem_cons_succ, List.getElem_cons_zero]
      refine wp_enterE #[.slice (some ⟨g, o, none⟩) 2 c, .int .i64 1] Tryz.func118 (by kernel_rfl) (by kernel_rfl) ?_ (HCH1.out W15 qW15) ?_
      ·go_simp
      rintro e W16 ⟨v1, rfl, t5W16, hbW16⟩
      obtain ⟨k1, lo1, hi1, nm1, A1, n1, c1, rfl, -⟩ := t5W16.kindedC
      refine ⟨_, rfl, ?_⟩
      have qW16 : Below w.heap.size w W16 := qW15.trans (hbW16.mono qW15.size)
      have sW16 : w.heap.size < W16.heap.size := Nat.lt_of_lt_of_le sW15 hbW16.size
      have hSW16 : W16.cell? ⟨w.heap.size, 4, none⟩ = some (.slice (some ⟨g, o, none⟩) 2 c) := by rw [hbW16.cell (p := ⟨w.heap.size, 4, none⟩) sW15]; exact hSW15
      have xbW16 := Blk.below xbW15 hbW16 sW15
      have t2W16 := t2W15.fr (hbW16.mono qW15.size)
      have x7W16 := Blk.below x7W15 hbW16 (Blk.lt x7W15)
      have x6W16 := Blk.below x6W15 hbW16 (Blk.lt x6W15)
      refine hK _ _ hSW16 ?_
      clear hK
      try simp only [Act.put, List.getElem_toArray, List.getElem_cons_succ, List.getElem_cons_zero, List.setIfInBounds_toArray, List.set_cons_zero, List.set_cons_succ]
      have hlf := HLF ⟨G5, G6, k0, lo0, hi0, nm0, A0, n0, c0, k1, lo1, hi1, nm1, A1, n1, c1⟩ W16 ⟨⟨qW16, lG5, lG6, hne, xbW16, x6W16, x7W16, t2W16, t5W16⟩, hSW16⟩
      dsimp only at hlf
      simp only [Act.put, List.getElem_toArray, List.getElem_cons_succ, List.getElem_cons_zero, List.setIfInBounds_toArray, List.set_cons_zero, List.set_cons_succ] at hlf
      exact hlf
   ·intro K hK
    try simp only [List.getElem_toArray, List.getElem_cons_succ, List.getElem_cons_zero]
    go_simp
    obtain ⟨W17, eW17⟩ : ∃ W', W0.alloc (.cells #[.int .i64 0, .int .i64 0, .int .i64 0, .string ⟨#[]⟩, .slice none 0 0] 70) = W' := ⟨_, rfl⟩
    have hbW17 : Below W0.heap.size W0 W17 := by rw [<- eW17]; exact (Below.refl _ _).alloc (Nat.le_refl _) _
    have x6W17 : Blk W17 W0.heap.size 70 #[.int .i64 0, .int .i64 0, .int .i64 0, .string ⟨#[]⟩, .slice none 0 0] := by rw [<- eW17]; exact Blk.new _ _ _
    rw [eW17]
    have qW17 : Below w.heap.size w W17 := qW0.trans (hbW17.mono qW0.size)
    have sW17 : w.heap.size < W17.heap.size := Nat.lt_of_lt_of_le sW0 hbW17.size
    have hSW17 : W17.cell? ⟨w.heap.size, 4, none⟩ = some (.slice (some ⟨g, o, none⟩) 2 c) := by rw [hbW17.cell (p := ⟨w.heap.size, 4, none⟩) sW0]; exact hSW0
    have xbW17 := Blk.below xbW0 hbW17 sW0
    obtain ⟨G5, eG5⟩ : ∃ G, W0.heap.size = G := ⟨_, rfl⟩
    have lG5 : w.heap.size < G5 := by rw [<- eG5]; exact sW0
    rw [eG5] at x6W17
    try rw [eG5]
    refine hK _ _ hSW17 ?_
    clear hK
    try simp only [Act.put, List.getElem_toArray, List.getElem_cons_succ, List.getElem_cons_zero, List.setIfInBounds_toArray, List.set_cons_zero, List.set_cons_succ]
    refine anyX_2 (i := 2) (j := 7) (by kernel_rfl) (by decide) (by decide) rfl rfl rfl rfl ?_ ?_
    ·intro K hK
     try simp only [List.getElem_toArray, List.getElem_cons_succ, List.getElem_cons_zero]
     refine wp_enterE #[.slice (some ⟨g, o, none⟩) 2 c, .int .i64 0] Tryz.func118 (by kernel_rfl) (by kernel_rfl) ?_ (HCH0.out W17 qW17) ?_
     ·go_simp
     rintro e W18 ⟨v0, rfl, t2W18, hbW18⟩
     obtain ⟨k0, lo0, hi0, nm0, A0, n0, c0, rfl, -⟩ := t2W18.kindedC
     refine ⟨_, rfl, ?_⟩
     have qW18 : Below w.heap.size w W18 := qW17.trans (hbW18.mono qW17.size)
     have sW18 : w.heap.size < W18.heap.size := Nat.lt_of_lt_of_le sW17 hbW18.size
     have hSW18 : W18.cell? ⟨w.heap.size, 4, none⟩ = some (.slice (some ⟨g, o, none⟩) 2 c) := by rw [hbW18.cell (p := ⟨w.heap.size, 4, none⟩) sW17]; exact hSW17
     have xbW18 := Blk.below xbW17 hbW18 sW17
     have x6W18 := Blk.below x6W17 hbW18 (Blk.lt x6W17)
     refine hK _ _ hSW18 ?_
     clear hK
     try simp only [Act.put, List.getElem_toArray, List.getElem_cons_succ, List.getElem_cons_zero, List.setIfInBounds_toArray, List.set_cons_zero, List.set_cons_succ]
     refine anyX_2 (i := 5) (j := 7) (by kernel_rfl) (by decide) (by decide) rfl rfl rfl rfl ?_ ?_
     ·intro K hK
      try simp only [List.getElem_toArray, List.getElem_cons_succ, List.getElem_cons_zero]
      refine wp_enterE #[.slice (some ⟨g, o, none⟩) 2 c, .int .i64 1] Tryz.func118 (by kernel_rfl) (by kernel_rfl) ?_ (HCH1.out W18 qW18) ?_
      ·go_simp
      rintro e W19 ⟨v1, rfl, t5W19, hbW19⟩
      obtain ⟨k1, lo1, hi1, nm1, A1, n1, c1, rfl, -⟩ := t5W19.kindedC
      refine ⟨_, rfl, ?_⟩
      have qW19 : Below w.heap.size w W19 := qW18.trans (hbW19.mono qW18.size)
      have sW19 : w.heap.size < W19.heap.size := Nat.lt_of_lt_of_le sW18 hbW19.size
      have hSW19 : W19.cell? ⟨w.heap.size, 4, none⟩ = some (.slice (some ⟨g, o, none⟩) 2 c) := by rw [hbW19.cell (p := ⟨w.heap.size, 4, none⟩) sW18]; exact hSW18
      have xbW19 := Blk.below xbW18 hbW19 sW18
      have x6W19 := Blk.below x6W18 hbW19 (Blk.lt x6W18)
      have t2W19 := t2W18.fr (hbW19.mono qW18.size)
      refine hK _ _ hSW19 ?_
      clear hK
      try simp only [Act.put, List.getElem_toArray, List.getElem_cons_succ, List.getElem_cons_zero, List.setIfInBounds_toArray, List.set_cons_zero, List.set_cons_succ]
      refine anyX_g (i := 7) (by kernel_rfl) (by decide) rfl (by rfl) ?_
      intro K hK
      try simp only [List.getElem_toArray, List.getElem_cons_succ, List.getElem_cons_zero]
      go_simp
      obtain ⟨W20, eW20⟩ : ∃ W', W19.alloc (.cells #[.int .i64 0, .int .i64 0, .int .i64 0, .string ⟨#[]⟩, .slice none 0 0] 70) = W' := ⟨_, rfl⟩
      have hbW20 : Below W19.heap.size W19 W20 := by rw [<- eW20]; exact (Below.refl _ _).alloc (Nat.le_refl _) _
      have x7W20 : Blk W20 W19.heap.size 70 #[.int .i64 0, .int .i64 0, .int .i64 0, .string ⟨#[]⟩, .slice none 0 0] := by rw [<- eW20]; exact Blk.new _ _ _
      rw [eW20]
      have qW20 : Below w.heap.size w W20 := qW19.trans (hbW20.mono qW19.size)
      have sW20 : w.heap.size < W20.heap.size := Nat.lt_of_lt_of_le sW19 hbW20.size
      have hSW20 : W20.cell? ⟨w.heap.size, 4, none⟩ = some (.slice (some ⟨g, o, none⟩) 2 c) := by rw [hbW20.cell (p := ⟨w.heap.size, 4, none⟩) sW19]; exact hSW19
      have xbW20 := Blk.below xbW19 hbW20 sW19
      have x6W20 := Blk.below x6W19 hbW20 (Blk.lt x6W19)
      have t2W20 := t2W19.fr (hbW20.mono qW19.size)
      have t5W20 := t5W19.fr (hbW20.mono qW19.size)
      obtain ⟨G6, eG6⟩ : ∃ G, W19.heap.size = G := ⟨_, rfl⟩
      have lG6 : w.heap.size < G6 := by rw [<- eG6]; exact sW19
      have hne : G5 ≠ G6 := by have := Blk.lt x6W19; omega
      rw [eG6] at x7W20
      try rw [eG6]
      refine hK _ _ hSW20 ?_
      clear hK
      try simp only [Act.put, List.getElem_toArray, List.getElem_cons_succ, List.getElem_cons_zero, List.setIfInBounds_toArray, List.set_cons_zero, List.set_cons_succ]
      have hlf := HLF ⟨G5, G6, k0, lo0, hi0, nm0, A0, n0, c0, k1, lo1, hi1, nm1, A1, n1, c1⟩ W20 ⟨⟨qW20, lG5, lG6, hne, xbW20, x6W20, x7W20, t2W20, t5W20⟩, hSW20⟩
      dsimp only at hlf
      simp only [Act.put, List.getElem_toArray, List.getElem_cons_succ, List.getElem_cons_zero, List.setIfInBounds_toArray, List.set_cons_zero, List.set_cons_succ] at hlf
      exact hlf
     ·intro K hK
      try simp only [List.getElem_toArray, List.getElem_cons_succ, List.getElem_cons_zero]
      go_simp
      obtain ⟨W21, eW21⟩ : ∃ W', W18.alloc (.cells #[.int .i64 0, .int .i64 0, .int .i64 0, .string ⟨#[]⟩, .slice none 0 0] 70) = W' := ⟨_, rfl⟩
      have hbW21 : Below W18.heap.size W18 W21 := by rw [<- eW21]; exact (Below.refl _ _).alloc (Nat.le_refl _) _
      have x7W21 : Blk W21 W18.heap.size 70 #[.int .i64 0, .int .i64 0, .int .i64 0, .string ⟨#[]⟩, .slice none 0 0] := by rw [<- eW21]; exact Blk.new _ _ _
      rw [eW21]
      have qW21 : Below w.heap.size w W21 := qW18.trans (hbW21.mono qW18.size)
      have sW21 : w.heap.size < W21.heap.size := Nat.lt_of_lt_of_le sW18 hbW21.size
      have hSW21 : W21.cell? ⟨w.heap.size, 4, none⟩ = some (.slice (some ⟨g, o, none⟩) 2 c) := by rw [hbW21.cell (p := ⟨w.heap.size, 4, none⟩) sW18]; exact hSW18
      have xbW21 := Blk.below xbW18 hbW21 sW18
      have x6W21 := Blk.below x6W18 hbW21 (Blk.lt x6W18)
      have t2W21 := t2W18.fr (hbW21.mono qW18.size)
      obtain ⟨G6, eG6⟩ : ∃ G, W18.heap.size = G := ⟨_, rfl⟩
      have lG6 : w.heap.size < G6 := by rw [<- eG6]; exact sW18
      have hne : G5 ≠ G6 := by have := Blk.lt x6W18; omega
      rw [eG6] at x7W21
      try rw [eG6]
      refine hK _ _ hSW21 ?_
      clear hK
      try simp only [Act.put, List.getElem_toArray, List.getElem_cons_succ, List.getElem_cons_zero, List.setIfInBounds_toArray, List.set_cons_zero, List.set_cons_succ]
      refine anyX_g (i := 5) (by kernel_rfl) (by decide) rfl (by rfl) ?_
      intro K hK
      try simp only [List.getElem_toArray, List.getElem_cons_succ, List.getElem_cons_zero]
      refine wp_enterE #[.slice (some ⟨g, o, none⟩) 2 c, .int .i64 1] Tryz.func118 (by kernel_rfl) (by kernel_rfl) ?_ (HCH1.out W21 qW21) ?_
      ·go_simp
      rintro e W22 ⟨v1, rfl, t5W22, hbW22⟩
      obtain ⟨k1, lo1, hi1, nm1, A1, n1, c1, rfl, -⟩ := t5W22.kindedC
      refine ⟨_, rfl, ?_⟩
      have qW22 : Below w.heap.size w W22 := qW21.trans (hbW22.mono qW21.size)
      have sW22 : w.heap.size < W22.heap.size := Nat.lt_of_lt_of_le sW21 hbW22.size
      have hSW22 : W22.cell? ⟨w.heap.size, 4, none⟩ = some (.slice (some ⟨g, o, none⟩) 2 c) := by rw [hbW22.cell (p := ⟨w.heap.size, 4, none⟩) sW21]; exact hSW21
      have xbW22 := Blk.below xbW21 hbW22 sW21
      have x6W22 := Blk.below x6W21 hbW22 (Blk.lt x6W21)
      have t2W22 := t2W21.fr (hbW22.mono qW21.size)
      have x7W22 := Blk.below x7W21 hbW22 (Blk.lt x7W21)
      refine hK _ _ hSW22 ?_
      clear hK
      try simp only [Act.put, List.getElem_toArray, List.getElem_cons_succ, List.getElem_cons_zero, List.setIfInBounds_toArray, List.set_cons_zero, List.set_cons_succ]
      have hlf := HLF ⟨G5, G6, k0, lo0, hi0, nm0, A0, n0, c0, k1, lo1, hi1, nm1, A1, n1, c1⟩ W22 ⟨⟨qW22, lG5, lG6, hne, xbW22, x6W22, x7W22, t2W22, t5W22⟩, hSW22⟩
      dsimp only at hlf
      simp only [Act.put, List.getElem_toArray, List.getElem_cons_succ, List.getElem_cons_zero, List.setIfInBounds_toArray, List.set_cons_zero, List.set_cons_succ] at hlf
      exact hlf
    ·intro K hK
     try simp only [List.getElem_toArray, List.getElem_cons_succ, List.getElem_cons_zero]
     go_simp
     obtain ⟨W23, eW23⟩ : ∃ W', W17.alloc (.cells #[.int .i64 0, .int .i64 0, .int .i64 0, .string ⟨#[]⟩, .slice none 0 0] 70) = W' := ⟨_, rfl⟩
     have hbW23 : Below W17.heap.size W17 W23 := by rw [<- eW23]; exact (Below.refl _ _).alloc (Nat.le_refl _) _
     have x7W23 : Blk W23 W17.heap.size 70 #[.int .i64 0, .int .i64 0, .int .i64 0, .string ⟨#[]⟩, .slice none 0 0] := by rw [<- eW23]; exact Blk.new _ _ _
     rw [eW23]
     have qW23 : Below w.heap.size w W23 := qW17.trans (hbW23.mono qW17.size)
     have sW23 : w.heap.size < W23.heap.size := Nat.lt_of_lt_of_le sW17 hbW23.size
     have hSW23 : W23.cell? ⟨w.heap.size, 4, none⟩ = some (.slice (some ⟨g, o, none⟩) 2 c) := by rw [hbW23.cell (p := ⟨w.heap.size, 4, none⟩) sW17]; exact hSW17
     have xbW23 := Blk.below xbW17 hbW23 sW17
     have x6W23 := Blk.below x6W17 hbW23 (Blk.lt x6W17)
     obtain ⟨G6, eG6⟩ : ∃ G, W17.heap.size = G := ⟨_, rfl⟩
     have lG6 : w.heap.size < G6 := by rw [<- eG6]; exact sW17
     have hne : G5 ≠ G6 := by have := Blk.lt x6W17; omega
     rw [eG6] at x7W23
     try rw [eG6]
     refine hK _ _ hSW23 ?_
     clear hK
     try simp only [Act.put, List.getElem_toArray, List.getElem_cons_succ, List.getElem_cons_zero, List.setIfInBounds_toArray, List.set_cons_zero, List.set_cons_succ]
     refine anyX_g (i := 2) (by kernel_rfl) (by decide) rfl (by rfl) ?_
     intro K hK
     try simp only [List.getElem_toArray, List.getElem_cons_succ, List.getElem_cons_zero]
     refine wp_enterE #[.slice (some ⟨g, o, none⟩) 2 c, .int .i64 0] Tryz.func118 (by kernel_rfl) (by kernel_rfl) ?_ (HCH0.out W23 qW23) ?_
     ·go_simp
     rintro e W24 ⟨v0, rfl, t2W24, hbW24⟩
     obtain ⟨k0, lo0, hi0, nm0, A0, n0, c0, rfl, -⟩ := t2W24.kindedC
     refine ⟨_, rfl, ?_⟩
     have qW24 : Below w.heap.size w W24 := qW23.trans (hbW24.mono qW23.size)
     have sW24 : w.heap.size < W24.heap.size := Nat.lt_of_lt_of_le sW23 hbW24.size
     have hSW24 : W24.cell? ⟨w.heap.size, 4, none⟩ = some (.slice (some ⟨g, o, none⟩) 2 c) := by rw [hbW24.cell (p := ⟨w.heap.size, 4, none⟩) sW23]; exact hSW23
     have xbW24 := Blk.below xbW23 hbW24 sW23
     have x6W24 := Blk.below x6W23 hbW24 (Blk.lt x6W23)
     have x7W24 := Blk.below x7W23 hbW24 (Blk.lt x7W23)
     refine hK _ _ hSW24 ?_
     clear hK
     try simp only [Act.put, List.getElem_toArray, List.getElem_cons_succ, List.getElem_cons_zero, List.setIfInBounds_toArray, List.set_cons_zero, List.set_cons_succ]
     refine anyX_g (i := 5) (by kernel_rfl) (by decide) rfl (by rfl) ?_
     intro K hK
     try simp only [List.getElem_toArray, List.getElem_cons_succ, List.getElem_cons_zero]
     refine wp_enterE #[.slice (some ⟨g, o, none⟩) 2 c, .int .i64 1] Tryz.func118 (by kernel_rfl) (by kernel_rfl) ?_ (HCH1.out W24 qW24) ?_
     ·go_simp
     rintro e W25 ⟨v1, rfl, t5W25, hbW25⟩
     obtain ⟨k1, lo1, hi1, nm1, A1, n1, c1, rfl, -⟩ := t5W25.kindedC
     refine ⟨_, rfl, ?_⟩
     have qW25 : Below w.heap.size w W25 := qW24.trans (hbW25.mono qW24.size)
     have sW25 : w.heap.size < W25.heap.size := Nat.lt_of_lt_of_le sW24 hbW25.size
     have hSW25 : W25.cell? ⟨w.heap.size, 4, none⟩ = some (.slice (some ⟨g, o, none⟩) 2 c) := by rw [hbW25.cell (p := ⟨w.heap.size, 4, none⟩) sW24]; exact hSW24
     have xbW25 := Blk.below xbW24 hbW25 sW24
     have x6W25 := Blk.below x6W24 hbW25 (Blk.lt x6W24)
     have x7W25 := Blk.below x7W24 hbW25 (Blk.lt x7W24)
     have t2W25 := t2W24.fr (hbW25.mono qW24.size)
     refine hK _ _ hSW25 ?_
     clear hK
     try simp only [Act.put, List.getElem_toArray, List.getElem_cons_succ, List.getElem_cons_zero, List.setIfInBounds_toArray, List.set_cons_zero, List.set_cons_succ]
     have hlf := HLF ⟨G5, G6, k0, lo0, hi0, nm0, A0, n0, c0, k1, lo1, hi1, nm1, A1, n1, c1⟩ W25 ⟨⟨qW25, lG5, lG6, hne, xbW25, x6W25, x7W25, t2W25, t5W25⟩, hSW25⟩
     dsimp only at hlf
     simp only [Act.put, List.getElem_toArray, List.getElem_cons_succ, List.getElem_cons_zero, List.setIfInBounds_toArray, List.set_cons_zero, List.set_cons_succ] at hlf
     exact hlf
   ·intro K hK
    try simp only [List.getElem_toArray, List.getElem_cons_succ, List.getElem_cons_zero]
    go_simp
    obtain ⟨W26, eW26⟩ : ∃ W', W0.alloc (.cells #[.int .i64 0, .int .i64 0, .int .i64 0, .string ⟨#[]⟩, .slice none 0 0] 70) = W' := ⟨_, rfl⟩
    have hbW26 : Below W0.heap.size W0 W26 := by rw [<- eW26]; exact (Below.refl _ _).alloc (Nat.le_refl _) _
    have x7W26 : Blk W26 W0.heap.size 70 #[.int .i64 0, .int .i64 0, .int .i64 0, .string ⟨#[]⟩, .slice none 0 0] := by rw [<- eW26]; exact Blk.new _ _ _
    rw [eW26]
    have qW26 : Below w.heap.size w W26 := qW0.trans (hbW26.mono qW0.size)
    have sW26 : w.heap.size < W26.heap.size := Nat.lt_of_lt_of_le sW0 hbW26.size
    have hSW26 : W26.cell? ⟨w.heap.size, 4, none⟩ = some (.slice (some ⟨g, o, none⟩) 2 c) := by rw [hbW26.cell (p := ⟨w.heap.size, 4, none⟩) sW0]; exact hSW0
    have xbW26 := Blk.below xbW0 hbW26 sW0
    obtain ⟨G6, eG6⟩ : ∃ G, W0.heap.size = G := ⟨_, rfl⟩
    have lG6 : w.heap.size < G6 := by rw [<- eG6]; exact sW0
    rw [eG6] at x7W26
    try rw [eG6]
    refine hK _ _ hSW26 ?_
    clear hK
    try simp only [Act.put, List.getElem_toArray, List.getElem_cons_succ, List.getElem_cons_zero, List.setIfInBounds_toArray, List.set_cons_zero, List.set_cons_succ]
    refine anyX_2 (i := 2) (j := 6) (by kernel_rfl) (by decide) (by decide) rfl rfl rfl rfl ?_ ?_
    ·intro K hK
     try simp only [List.getElem_toArray, List.getElem_cons_succ, List.getElem_cons_zero]
     refine wp_enterE #[.slice (some ⟨g, o, none⟩) 2 c, .int .i64 0] Tryz.func118 (by kernel_rfl) (by kernel_rfl) ?_ (HCH0.out W26 qW26) ?_
     ·go_simp
     rintro e W27 ⟨v0, rfl, t2W27, hbW27⟩
     obtain ⟨k0, lo0, hi0, nm0, A0, n0, c0, rfl, -⟩ := t2W27.kindedC
     refine ⟨_, rfl, ?_⟩
     have qW27 : Below w.heap.size w W27 := qW26.trans (hbW27.mono qW26.size)
     have sW27 : w.heap.size < W27.heap.size := Nat.lt_of_lt_of_le sW26 hbW27.size
     have hSW27 : W27.cell? ⟨w.heap.size, 4, none⟩ = some (.slice (some ⟨g, o, none⟩) 2 c) := by rw [hbW27.cell (p := ⟨w.heap.size, 4, none⟩) sW26]; exact hSW26
     have xbW27 := Blk.below xbW26 hbW27 sW26
     have x7W27 := Blk.below x7W26 hbW27 (Blk.lt x7W26)
     refine hK _ _ hSW27 ?_
     clear hK
     try simp only [Act.put, List.getElem_toArray, List.getElem_cons_succ, List.getElem_cons_zero, List.setIfInBounds_toArray, List.set_cons_zero, List.set_cons_succ]
     refine anyX_2 (i := 5) (j := 6) (by kernel_rfl) (by decide) (by decide) rfl rfl rfl rfl ?_ ?_
     ·intro K hK
      try simp only [List.getElem_toArray, List.getElem_cons_succ, List.getElem_cons_zero]
      refine wp_enterE #[.slice (some ⟨g, o, none⟩) 2 c, .int .i64 1] Tryz.func118 (by kernel_rfl) (by kernel_rfl) ?_ (HCH1.out W27 qW27) ?_
      ·go_simp
      rintro e W28 ⟨v1, rfl, t5W28, hbW28⟩
      obtain ⟨k1, lo1, hi1, nm1, A1, n1, c1, rfl, -⟩ := t5W28.kindedC
      refine ⟨_, rfl, ?_⟩
      have qW28 : Below w.heap.size w W28 := qW27.trans (hbW28.mono qW27.size)
      have sW28 : w.heap.size < W28.heap.size := Nat.lt_of_lt_of_le sW27 hbW28.size
      have hSW28 : W28.cell? ⟨w.heap.size, 4, none⟩ = some (.slice (some ⟨g, o, none⟩) 2 c) := by rw [hbW28.cell (p := ⟨w.heap.size, 4, none⟩) sW27]; exact hSW27
      have xbW28 := Blk.below xbW27 hbW28 sW27
      have x7W28 := Blk.below x7W27 hbW28 (Blk.lt x7W27)
      have t2W28 := t2W27.fr (hbW28.mono qW27.size)
      refine hK _ _ hSW28 ?_
      clear hK
      try simp only [Act.put, List.getElem_toArray, List.getElem_cons_succ, List.getElem_cons_zero, List.setIfInBounds_toArray, List.set_cons_zero, List.set_cons_succ]
      refine anyX_g (i := 6) (by kernel_rfl) (by decide) rfl (by rfl) ?_
      intro K hK
      try simp only [List.getElem_toArray, List.getElem_cons_succ, List.getElem_cons_zero]
      go_simp
      obtain ⟨W29, eW29⟩ : ∃ W', W28.alloc (.cells #[.int .i64 0, .int .i64 0, .int .i64 0, .string ⟨#[]⟩, .slice none 0 0] 70) = W' := ⟨_, rfl⟩
      have hbW29 : Below W28.heap.size W28 W29 := by rw [<- eW29]; exact (Below.refl _ _).alloc (Nat.le_refl _) _
      have x6W29 : Blk W29 W28.heap.size 70 #[.int .i64 0, .int .i64 0, .int .i64 0, .string ⟨#[]⟩, .slice none 0 0] := by rw [<- eW29]; exact Blk.new _ _ _
      rw [eW29]
      have qW29 : Below w.heap.size w W29 := qW28.trans (hbW29.mono qW28.size)
      have sW29 : w.heap.size < W29.heap.size := Nat.lt_of_lt_of_le sW28 hbW29.size
      have hSW29 : W29.cell? ⟨w.heap.size, 4, none⟩ = some (.slice (some ⟨g, o, none⟩) 2 c) := by rw [hbW29.cell (p := ⟨w.heap.size, 4, none⟩) sW28]; exact hSW28
      have xbW29 := Blk.below xbW28 hbW29 sW28
      have x7W29 := Blk.below x7W28 hbW29 (Blk.lt x7W28)
      have t2W29 := t2W28.fr (hbW29.mono qW28.size)
      have t5W29 := t5W28.fr (hbW29.mono qW28.size)
      obtain ⟨G5, eG5⟩ : ∃ G, W28.heap.size = G := ⟨_, rfl⟩
      have lG5 : w.heap.size < G5 := by rw [<- eG5]; exact sW28
      have hne : G5 ≠ G6 := by have := Blk.lt x7W28; omega
      rw [eG5] at x6W29
      try rw [eG5]
      refine hK _ _ hSW29 ?_
      clear hK
      try simp only [Act.put, List.getElem_toArray, List.getElem_cons_succ, List.getElem_cons_zero, List.setIfInBounds_toArray, List.set_cons_zero, List.set_cons_succ]
      have hlf := HLF ⟨G5, G6, k0, lo0, hi0, nm0, A0, n0, c0, k1, lo1, hi1, nm1, A1, n1, c1⟩ W29 ⟨⟨qW29, lG5, lG6, hne, xbW29, x6W29, x7W29, t2W29, t5W29⟩, hSW29⟩
      dsimp only at hlf
      simp only [Act.put, List.getElem_toArray, List.getElem_cons_succ, List.getElem_cons_zero, List.setIfInBounds_toArray, List.set_cons_zero, List.set_cons_succ] at hlf
      exact hlf
     ·intro K hK
      try simp only [List.getElem_toArray, List.getElem_cons_succ, List.getElem_cons_zero]
      go_simp
      obtain ⟨W30, eW30⟩ : ∃ W', W27.alloc (.cells #[.int .i64 0, .int .i64 0, .int .i64 0, .string ⟨#[]⟩, .slice none 0 0] 70) = W' := ⟨_, rfl⟩
      have hbW30 : Below W27.heap.size W27 W30 := by rw [<- eW30]; exact (Below.refl _ _).alloc (Nat.le_refl _) _
      have x6W30 : Blk W30 W27.heap.size 70 #[.int .i64 0, .int .i64 0, .int .i64 0, .string ⟨#[]⟩, .slice none 0 0] := by rw [<- eW30]; exact Blk.new _ _ _
      rw [eW30]
      have qW30 : Below w.heap.size w W30 := qW27.trans (hbW30.mono qW27.size)
      have sW30 : w.heap.size < W30.heap.size := Nat.lt_of_lt_of_le sW27 hbW30.size
      have hSW30 : W30.cell? ⟨w.heap.size, 4, none⟩ = some (.slice (some ⟨g, o, none⟩) 2 c) := by rw [hbW30.cell (p := ⟨w.heap.size, 4, none⟩) sW27]; exact hSW27
      have xbW30 := Blk.below xbW27 hbW30 sW27
      have x7W30 := Blk.below x7W27 hbW30 (Blk.lt x7W27)
      have t2W30 := t2W27.fr (hbW30.mono qW27.size)
      obtain ⟨G5, eG5⟩ : ∃ G, W27.heap.size = G := ⟨_, rfl⟩
      have lG5 : w.heap.size < G5 := by rw [<- eG5]; exact sW27
      have hne : G5 ≠ G6 := by have := Blk.lt x7W27; omega
      rw [eG5] at x6W30
      try rw [eG5]
      refine hK _ _ hSW30 ?_
      clear hK
      try simp only [Act.put, List.getElem_toArray, List.getElem_cons_succ, List.getElem_cons_zero, List.setIfInBounds_toArray, List.set_cons_zero, List.set_cons_succ]
      refine anyX_g (i := 5) (by kernel_rfl) (by decide) rfl (by rfl) ?_
      intro K hK
      try simp only [List.getElem_toArray, List.getElem_cons_succ, List.getElem_cons_zero]
      refine wp_enterE #[.slice (some ⟨g, o, none⟩) 2 c, .int .i64 1] Tryz.func118 (by kernel_rfl) (by kernel_rfl) ?_ (HCH1.out W30 qW30) ?_
      ·go_simp
      rintro e W31 ⟨v1, rfl, t5W31, hbW31⟩
      obtain ⟨k1, lo1, hi1, nm1, A1, n1, c1, rfl, -⟩ := t5W31.kindedC
      refine ⟨_, rfl, ?_⟩
      have qW31 : Below w.heap.size w W31 := qW30.trans (hbW31.mono qW30.size)
      have sW31 : w.heap.size < W31.heap.size := Nat.lt_of_lt_of_le sW30 hbW31.size
      have hSW31 : W31.cell? ⟨w.heap.size, 4, none⟩ = some (.slice (some ⟨g, o, none⟩) 2 c) := by rw [hbW31.cell (p := ⟨w.heap.size, 4, none⟩) sW30]; exact hSW30
      have xbW31 := Blk.below xbW30 hbW31 sW30
      have x7W31 := Blk.below x7W30 hbW31 (Blk.lt x7W30)
      have t2W31 := t2W30.fr (hbW31.mono qW30.size)
      have x6W31 := Blk.below x6W30 hbW31 (Blk.lt x6W30)
      refine hK _ _ hSW31 ?_
      clear hK
      try simp only [Act.put, List.getElem_toArray, List.getElem_cons_succ, List.getElem_cons_zero, List.setIfInBounds_toArray, List.set_cons_zero, List.set_cons_succ]
      have hlf := HLF ⟨G5, G6, k0, lo0, hi0, nm0, A0, n0, c0, k1, lo1, hi1, nm1, A1, n1, c1⟩ W31 ⟨⟨qW31, lG5, lG6, hne, xbW31, x6W31, x7W31, t2W31, t5W31⟩, hSW31⟩
      dsimp only at hlf
      simp only [Act.put, List.getElem_toArray, List.getElem_cons_succ, List.getElem_cons_zero, List.setIfInBounds_toArray, List.set_cons_zero, List.set_cons_succ] at hlf
      exact hlf
    ·intro K hK
     try simp only [List.getElem_toArray, List.getElem_cons_succ, List.getElem_cons_zero]
     go_simp
     obtain ⟨W32, eW32⟩ : ∃ W', W26.alloc (.cells #[.int .i64 0, .int .i64 0, .int .i64 0, .string ⟨#[]⟩, .slice none 0 0] 70) = W' := ⟨_, rfl⟩
     have hbW32 : Below W26.heap.size W26 W32 := by rw [<- eW32]; exact (Below.refl _ _).alloc (Nat.le_refl _) _
     have x6W32 : Blk W32 W26.heap.size 70 #[.int .i64 0, .int .i64 0, .int .i64 0, .string ⟨#[]⟩, .slice none 0 0] := by rw [<- eW32]; exact Blk.new _ _ _
     rw [eW32]
     have qW32 : Below w.heap.size w W32 := qW26.trans (hbW32.mono qW26.size)
     have sW32 : w.heap.size < W32.heap.size := Nat.lt_of_lt_of_le sW26 hbW32.size
     have hSW32 : W32.cell? ⟨w.heap.size, 4, none⟩ = some (.slice (some ⟨g, o, none⟩) 2 c) := by rw [hbW32.cell (p := ⟨w.heap.size, 4, none⟩) sW26]; exact hSW26
     have xbW32 := Blk.below xbW26 hbW32 sW26
     have x7W32 := Blk.below x7W26 hbW32 (Blk.lt x7W26)
     obtain ⟨G5, eG5⟩ : ∃ G, W26.heap.size = G := ⟨_, rfl⟩
     have lG5 : w.heap.size < G5 := by rw [<- eG5]; exact sW26
     have hne : G5 ≠ G6 := by have := Blk.lt x7W26; omega
     rw [eG5] at x6W32
     try rw [eG5]
     refine hK _ _ hSW32 ?_
     clear hK
     try simp only [Act.put, List.getElem_toArray, List.getElem_cons_succ, List.getElem_cons_zero, List.setIfInBounds_toArray, List.set_cons_zero, List.set_cons_succ]
     refine anyX_g (i := 2) (by kernel_rfl) (by decide) rfl (by rfl) ?_
     intro K hK
     try simp only [List.getElem_toArray, List.getElem_cons_succ, List.getElem_cons_zero]
     refine wp_enterE #[.slice (some ⟨g, o, none⟩) 2 c, .int .i64 0] Tryz.func118 (by kernel_rfl) (by kernel_rfl) ?_ (HCH0.out W32 qW32) ?_
     ·go_simp
     rintro e W33 ⟨v0, rfl, t2W33, hbW33⟩
     obtain ⟨k0, lo0, hi0, nm0, A0, n0, c0, rfl, -⟩ := t2W33.kindedC
     refine ⟨_, rfl, ?_⟩
     have qW33 : Below w.heap.size w W33 := qW32.trans (hbW33.mono qW32.size)
     have sW33 : w.heap.size < W33.heap.size := Nat.lt_of_lt_of_le sW32 hbW33.size
     have hSW33 : W33.cell? ⟨w.heap.size, 4, none⟩ = some (.slice (some ⟨g, o, none⟩) 2 c) := by rw [hbW33.cell (p := ⟨w.heap.size, 4, none⟩) sW32]; exact hSW32
     have xbW33 := Blk.below xbW32 hbW33 sW32
     have x7W33 := Blk.below x7W32 hbW33 (Blk.lt x7W32)
     have x6W33 := Blk.below x6W32 hbW33 (Blk.lt x6W32)
     refine hK _ _ hSW33 ?_
     clear hK
     try simp only [Act.put, List.getElem_toArray, List.getElem_cons_succ, List.getElem_cons_zero, List.setIfInBounds_toArray, List.set_cons_zero, List.set_cons_succ]
     refine anyX_g (i := 5) (by kernel_rfl) (by decide) rfl (by rfl) ?_
     intro K hK
     try simp only [List.getElem_toArray, List.getElem_cons_succ, List.getElem_cons_zero]
     refine wp_enterE #[.slice (some ⟨g, o, none⟩) 2 c, .int .i64 1] Tryz.func118 (by kernel_rfl) (by kernel_rfl) ?_ (HCH1.out W33 qW33) ?_
     ·go_simp
     rintro e W34 ⟨v1, rfl, t5W34, hbW34⟩
     obtain ⟨k1, lo1, hi1, nm1, A1, n1, c1, rfl, -⟩ := t5W34.kindedC
     refine ⟨_, rfl, ?_⟩
     have qW34 : Below w.heap.size w W34 := qW33.trans (hbW34.mono qW33.size)
     have sW34 : w.heap.size < W34.heap.size := Nat.lt_of_lt_of_le sW33 hbW34.size
     have hSW34 : W34.cell? ⟨w.heap.size, 4, none⟩ = some (.slice (some ⟨g, o, none⟩) 2 c) := by rw [hbW34.cell (p := ⟨w.heap.size, 4, none⟩) sW33]; exact hSW33
     have xbW34 := Blk.below xbW33 hbW34 sW33
     have x7W34 := Blk.below x7W33 hbW34 (Blk.lt x7W33)
     have x6W34 := Blk.below x6W33 hbW34 (Blk.lt x6W33)
     have t2W34 := t2W33.fr (hbW34.mono qW33.size)
     refine hK _ _ hSW34 ?_
     clear hK
     try simp only [Act.put, List.getElem_toArray, List.getElem_cons_succ, List.getElem_cons_zero, List.setIfInBounds_toArray, List.set_cons_zero, List.set_cons_succ]
     have hlf := HLF ⟨G5, G6, k0, lo0, hi0, nm0, A0, n0, c0, k1, lo1, hi1, nm1, A1, n1, c1⟩ W34 ⟨⟨qW34, lG5, lG6, hne, xbW34, x6W34, x7W34, t2W34, t5W34⟩, hSW34⟩
     dsimp only at hlf
     simp only [Act.put, List.getElem_toArray, List.getElem_cons_succ, List.getElem_cons_zero, List.setIfInBounds_toArray, List.set_cons_zero, List.set_cons_succ] at hlf
     exact hlf
  ·rintro ⟨g5, g6, k0, lo0, hi0, nm0, A0, n0, c0, k1, lo1, hi1, nm1, A1, n1, c1⟩ W hf
   clear HCH0 HCH1 HB HBX hz
   dsimp only at hf ⊢
   try simp only [Act.put, List.getElem_toArray, List.getElem_cons_succ, List.getElem_cons_zero, List.setIfInBounds_toArray, List.set_cons_zero, List.set_cons_succ]
   rcases HKK.out with rfl | rfl | rfl
   ·have b0 := Blk.cell hf.xb 0
    simp only [List.getElem?_toArray, List.getElem?_cons_zero, List.getElem?_cons_succ] at b0
    try apply_assumption
    go_wp2_with fail
    clear b0
    obtain ⟨U, eU⟩ : ∃ U, W.drew = U := ⟨_, rfl⟩
    have hf : Two w a.tree b'.tree #[.int .i64 5, .int .i64 0, .int .i64 0, .string nm, .slice (some ⟨g, o, none⟩) 2 c] g5 g6 #[.int .i64 k0, .int .i64 lo0, .int .i64 hi0, .string nm0, .slice A0 n0 c0] #[.int .i64 k1, .int .i64 lo1, .int .i64 hi1, .string nm1, .slice A1 n1 c1] U := by rw [<- eU]; exact ⟨hf.below.drew, hf.l5, hf.l6, hf.ne, hf.xb.drew, hf.x5.drew, hf.x6.drew, hf.t0.fr (Below.refl _ _).drew, hf.t1.fr (Below.refl _ _).drew⟩
    refine region_x 8 (fun w' : World => w'.cell? ⟨g5, 0, none⟩ = some (.int .i64 k0) /\ w'.cell? ⟨g5, 1, none⟩ = some (.int .i64 lo0) /\ w'.cell? ⟨g5, 2, none⟩ = some (.int .i64 hi0) /\ w'.cell? ⟨g5, 3, none⟩ = some (.string nm0) /\ w'.cell? ⟨g5, 4, none⟩ = some (.slice A0 n0 c0) /\ w'.cell? ⟨g6, 0, none⟩ = some (.int .i64 k1) /\ w'.cell? ⟨g6, 1, none⟩ = some (.int .i64 lo1) /\ w'.cell? ⟨g6, 2, none⟩ = some (.int .i64 hi1) /\ w'.cell? ⟨g6, 3, none⟩ = some (.string nm1) /\ w'.cell? ⟨g6, 4, none⟩ = some (.slice A1 n1 c1)) (by kernel_rfl) ?_
    rw [eU]
    have hSU : (fun w' : World => w'.cell? ⟨g5, 0, none⟩ = some (.int .i64 k0) /\ w'.cell? ⟨g5, 1, none⟩ = some (.int .i64 lo0) /\ w'.cell? ⟨g5, 2, none⟩ = some (.int .i64 hi0) /\ w'.cell? ⟨g5, 3, none⟩ = some (.string nm0) /\ w'.cell? ⟨g5, 4, none⟩ = some (.slice A0 n0 c0) /\ w'.cell? ⟨g6, 0, none⟩ = some (.int .i64 k1) /\ w'.cell? ⟨g6, 1, none⟩ = some (.int .i64 lo1) /\ w'.cell? ⟨g6, 2, none⟩ = some (.int .i64 hi1) /\ w'.cell? ⟨g6, 3, none⟩ = some (.string nm1) /\ w'.cell? ⟨g6, 4, none⟩ = some (.slice A1 n1 c1)) U := by
     have u0 := Blk.cell hf.x5 0; have u1 := Blk.cell hf.x5 1; have u2 := Blk.cell hf.x5 2; have u3 := Blk.cell hf.x5 3; have u4 := Blk.cell hf.x5 4; have z0 := Blk.cell hf.x6 0; have z1 := Blk.cell hf.x6 1; have z2 := Blk.cell hf.x6 2; have z3 := Blk.cell hf.x6 3; have z4 := Blk.cell hf.x6 4
     simp only [List.getElem?_toArray, List.getElem?_cons_zero, List.getElem?_cons_succ] at u0 u1 u2 u3 u4 z0 z1 z2 z3 z4
     exact ⟨u0, u1, u2, u3, u4, z0, z1, z2, z3, z4⟩
    have hca := HA.out U b (.agg #[.int .i64 k0, .int .i64 lo0, .int .i64 hi0, .string nm0, .slice A0 n0 c0]) (hf.t0.keep (fun g hg => Nat.lt_of_lt_of_le hg hf.below.size) (fun _ _ _ _ h => h)) (HM.out.below hf.below)
    refine anyX_take (i := 0) (v := ?_) rfl (by kernel_rfl) (by kernel_rfl) (by kernel_rfl) (by kernel_rfl) (fun _ _ _ h => h) (Or.inl ⟨by rfl, ?_⟩) hSU ?_
    rotate_left
    ·rintro w' ⟨u0, u1, u2, u3, u4, z0, z1, z2, z3, z4⟩
     go_simp
     try with_reducible rfl
    try simp only [Act.put, List.getElem_toArray, List.getElem_cons_succ, List.getElem_cons_zero, List.setIfInBounds_toArray, List.set_cons_zero, List.set_cons_succ]
    refine anyX_take (i := 1) (v := ?_) rfl (by kernel_rfl) (by kernel_rfl) (by kernel_rfl) (by kernel_rfl) (fun _ _ _ h => h) (Or.inl ⟨by rfl, ?_⟩) hSU ?_
    rotate_left
    ·rintro w' ⟨u0, u1, u2, u3, u4, z0, z1, z2, z3, z4⟩
     go_simp
     try with_reducible rfl
    try simp only [Act.put, List.getElem_toArray, List.getElem_cons_succ, List.getElem_cons_zero, List.setIfInBounds_toArray, List.set_cons_zero, List.set_cons_succ]
    refine anyX_take (i := 3) (v := ?_) rfl (by kernel_rfl) (by kernel_rfl) (by kernel_rfl) (by kernel_rfl) (fun _ _ _ h => h) (Or.inl ⟨by rfl, ?_⟩) hSU ?_
    rotate_left
    ·rintro w' ⟨u0, u1, u2, u3, u4, z0, z1, z2, z3, z4⟩
     go_simp
     try with_reducible rfl
    try simp only [Act.put, List.getElem_toArray, List.getElem_cons_succ, List.getElem_cons_zero, List.setIfInBounds_toArray, List.set_cons_zero, List.set_cons_succ]
    refine anyX_take (i := 4) (v := ?_) rfl (by kernel_rfl) (by kernel_rfl) (by kernel_rfl) (by kernel_rfl) (fun _ _ _ h => h) (Or.inl ⟨by rfl, ?_⟩) hSU ?_
    rotate_left
    ·rintro w' ⟨u0, u1, u2, u3, u4, z0, z1, z2, z3, z4⟩
     go_simp
     try with_reducible rfl
    try simp only [Act.put, List.getElem_toArray, List.getElem_cons_succ, List.getElem_cons_zero, List.setIfInBounds_toArray, List.set_cons_zero, List.set_cons_succ]
    refine anyX_g (i := 2) (by kernel_rfl) (by decide) rfl (by rfl) ?_
    intro K9 hK9
    try simp only [List.getElem_toArray, List.getElem_cons_succ, List.getElem_cons_zero]
    refine wp_enterE #[.pointer (some ⟨b, 0, none⟩), .agg #[.int .i64 k0, .int .i64 lo0, .int .i64 hi0, .string nm0, .slice A0 n0 c0]] Tryz.func92 (by kernel_rfl) (by kernel_rfl) ?_ hca ?_
    ·go_simp
    rintro e U1 ⟨v0, rfl, o0, hb1⟩
    refine ⟨_, rfl, ?_⟩
    have x51 := Blk.below hf.x5 hb1 (Blk.lt hf.x5)
    have x61 := Blk.below hf.x6 hb1 (Blk.lt hf.x6)
    have q1 := hf.below.trans (hb1.mono hf.below.size)
    have hSU1 : (fun w' : World => w'.cell? ⟨g5, 0, none⟩ = some (.int .i64 k0) /\ w'.cell? ⟨g5, 1, none⟩ = some (.int .i64 lo0) /\ w'.cell? ⟨g5, 2, none⟩ = some (.int .i64 hi0) /\ w'.cell? ⟨g5, 3, none⟩ = some (.string nm0) /\ w'.cell? ⟨g5, 4, none⟩ = some (.slice A0 n0 c0) /\ w'.cell? ⟨g6, 0, none⟩ = some (.int .i64 k1) /\ w'.cell? ⟨g6, 1, none⟩ = some (.int .i64 lo1) /\ w'.cell? ⟨g6, 2, none⟩ = some (.int .i64 hi1) /\ w'.cell? ⟨g6, 3, none⟩ = some (.string nm1) /\ w'.cell? ⟨g6, 4, none⟩ = some (.slice A1 n1 c1)) U1 := by
     have u0 := Blk.cell x51 0; have u1 := Blk.cell x51 1; have u2 := Blk.cell x51 2; have u3 := Blk.cell x51 3; have u4 := Blk.cell x51 4; have z0 := Blk.cell x61 0; have z1 := Blk.cell x61 1; have z2 := Blk.cell x61 2; have z3 := Blk.cell x61 3; have z4 := Blk.cell x61 4
     simp only [List.getElem?_toArray, List.getElem?_cons_zero, List.getElem?_cons_succ] at u0 u1 u2 u3 u4 z0 z1 z2 z3 z4
     exact ⟨u0, u1, u2, u3, u4, z0, z1, z2, z3, z4⟩
    refine hK9 _ _ hSU1 ?_
    clear hK9 hca
    try simp only [Act.put, List.getElem_toArray, List.getElem_cons_succ, List.getElem_cons_zero, List.setIfInBounds_toArray, List.set_cons_zero, List.set_cons_succ]
    have hcb := HBB.out U1 b (.agg #[.int .i64 k1, .int .i64 lo1, .int .i64 hi1, .string nm1, .slice A1 n1 c1]) ((hf.t1.fr (hb1.mono hf.below.size)).keep (fun g hg => Nat.lt_of_lt_of_le hg q1.size) (fun _ _ _ _ h => h)) (HM.out.below q1)
    refine anyX_g (i := 5) (by kernel_rfl) (by decide) rfl (by rfl) ?_
    intro K9 hK9
    try simp only [List.getElem_toArray, List.getElem_cons_succ, List.getElem_cons_zero]
    refine wp_enterE #[.pointer (some ⟨b, 0, none⟩), .agg #[.int .i64 k1, .int .i64 lo1, .int .i64 hi1, .string nm1, .slice A1 n1 c1]] Tryz.func92 (by kernel_rfl) (by kernel_rfl) ?_ hcb ?_
    ·go_simp
    rintro e U2 ⟨v1, rfl, o1, hb2⟩
    refine ⟨_, rfl, ?_⟩
    have x52 := Blk.below x51 hb2 (Blk.lt x51)
    have x62 := Blk.below x61 hb2 (Blk.lt x61)
    have q2 := q1.trans (hb2.mono q1.size)
    have hSU2 : (fun w' : World => w'.cell? ⟨g5, 0, none⟩ = some (.int .i64 k0) /\ w'.cell? ⟨g5, 1, none⟩ = some (.int .i64 lo0) /\ w'.cell? ⟨g5, 2, none⟩ = some (.int .i64 hi0) /\ w'.cell? ⟨g5, 3, none⟩ = some (.string nm0) /\ w'.cell? ⟨g5, 4, none⟩ = some (.slice A0 n0 c0) /\ w'.cell? ⟨g6, 0, none⟩ = some (.int .i64 k1) /\ w'.cell? ⟨g6, 1, none⟩ = some (.int .i64 lo1) /\ w'.cell? ⟨g6, 2, none⟩ = some (.int .i64 hi1) /\ w'.cell? ⟨g6, 3, none⟩ = some (.string nm1) /\ w'.cell? ⟨g6, 4, none⟩ = some (.slice A1 n1 c1)) U2 := by
     have u0 := Blk.cell x52 0; have u1 := Blk.cell x52 1; have u2 := Blk.cell x52 2; have u3 := Blk.cell x52 3; have u4 := Blk.cell x52 4; have z0 := Blk.cell x62 0; have z1 := Blk.cell x62 1; have z2 := Blk.cell x62 2; have z3 := Blk.cell x62 3; have z4 := Blk.cell x62 4
     simp only [List.getElem?_toArray, List.getElem?_cons_zero, List.getElem?_cons_succ] at u0 u1 u2 u3 u4 z0 z1 z2 z3 z4
     exact ⟨u0, u1, u2, u3, u4, z0, z1, z2, z3, z4⟩
    refine hK9 _ _ hSU2 ?_
    clear hK9 hcb
    try simp only [Act.put, List.getElem_toArray, List.getElem_cons_succ, List.getElem_cons_zero, List.setIfInBounds_toArray, List.set_cons_zero, List.set_cons_succ]
    have r0 := (o0.below_top hb2).reads
    have r1 := o1.reads
    obtain ⟨va0, vc0, rfl, -⟩ := r0.form
    obtain ⟨va1, vc1, rfl, -⟩ := r1.form
    have hLL : ReadsL (U2.alloc (.cells #[.slice va0 (meanC D ss a).length vc0, .slice va1 (meanC D ss b').length vc1] 94)) (.slice (some ⟨U2.heap.size, 0, none⟩) 2 2) 2 [meanC D ss a, meanC D ss b'] := by
     have hblk := Blk.new U2 94 #[.slice va0 (meanC D ss a).length vc0, .slice va1 (meanC D ss b').length vc1]
     refine ⟨rfl, _, 2, rfl, Nat.le_refl _, by unfold maxLen; omega, (fun e => by cases e), fun i hi => ?_⟩
     rcases i with _ | _ | i
     ·exact ⟨_, 0, _, rfl, Blk.cell hblk 0, r0.alloc _⟩
     ·exact ⟨_, 0, _, rfl, Blk.cell hblk 1, r1.alloc _⟩
     ·omega
    have hor := or_any hLL (by
     have h1 := (meanC_rt (D := D) HSS.out a).short
     have h2 := (meanC_rt (D := D) HSS.out b').short
     simp; omega)
    have q3 : Below w.heap.size w (U2.alloc (.cells #[.slice va0 (meanC D ss a).length vc0, .slice va1 (meanC D ss b').length vc1] 94)) := q2.alloc q2.size _
    have hres : normL [meanC D ss a, meanC D ss b'].flatten = RES := HRES.out
    rw [hres] at hor
    obtain ⟨na, hna⟩ : ∃ na, (meanC D ss a).length = na := ⟨_, rfl⟩
    obtain ⟨nb, hnb⟩ : ∃ nb, (meanC D ss b').length = nb := ⟨_, rfl⟩
    rw [hna, hnb] at hor q3
    try rw [hna]
    try rw [hnb]
    have HOR := Lib.hid hor; have HQ3 := Lib.hid q3
    refine anyX_g (i := 6) (by kernel_rfl) (by decide) rfl (by rfl) ?_
    intro K9 hK9
    try simp only [List.getElem_toArray, List.getElem_cons_succ, List.getElem_cons_zero]
    go_simp
    have x53 := Blk.alloc x52 (.cells #[.slice va0 na vc0, .slice va1 nb vc1] 94)
    have x63 := Blk.alloc x62 (.cells #[.slice va0 na vc0, .slice va1 nb vc1] 94)
    have hS3 : (fun w' : World => w'.cell? ⟨g5, 0, none⟩ = some (.int .i64 k0) /\ w'.cell? ⟨g5, 1, none⟩ = some (.int .i64 lo0) /\ w'.cell? ⟨g5, 2, none⟩ = some (.int .i64 hi0) /\ w'.cell? ⟨g5, 3, none⟩ = some (.string nm0) /\ w'.cell? ⟨g5, 4, none⟩ = some (.slice A0 n0 c0) /\ w'.cell? ⟨g6, 0, none⟩ = some (.int .i64 k1) /\ w'.cell? ⟨g6, 1, none⟩ = some (.int .i64 lo1) /\ w'.cell? ⟨g6, 2, none⟩ = some (.int .i64 hi1) /\ w'.cell? ⟨g6, 3, none⟩ = some (.string nm1) /\ w'.cell? ⟨g6, 4, none⟩ = some (.slice A1 n1 c1)) (U2.alloc (.cells #[.slice va0 na vc0, .slice va1 nb vc1] 94)) := by
     have u0 := Blk.cell x53 0; have u1 := Blk.cell x53 1; have u2 := Blk.cell x53 2; have u3 := Blk.cell x53 3; have u4 := Blk.cell x53 4; have z0 := Blk.cell x63 0; have z1 := Blk.cell x63 1; have z2 := Blk.cell x63 2; have z3 := Blk.cell x63 3; have z4 := Blk.cell x63 4
     simp only [List.getElem?_toArray, List.getElem?_cons_zero, List.getElem?_cons_succ] at u0 u1 u2 u3 u4 z0 z1 z2 z3 z4
     exact ⟨u0, u1, u2, u3, u4, z0, z1, z2, z3, z4⟩
    refine hK9 _ _ hS3 ?_
    clear hK9
    try simp only [Act.put, List.getElem_toArray, List.getElem_cons_succ, List.getElem_cons_zero, List.setIfInBounds_toArray, List.set_cons_zero, List.set_cons_succ]
    refine anyX_g (i := 7) (by kernel_rfl) (by decide) rfl (by rfl) ?_
    intro K9 hK9
    try simp only [List.getElem_toArray, List.getElem_cons_succ, List.getElem_cons_zero]
    refine wp_enterE #[.slice (some ⟨U2.heap.size, 0, none⟩) 2 2] Tryz.func119 (by kernel_rfl) (by kernel_rfl) ?_ HOR.out ?_
    ·go_simp
    rintro e U4 h4
    obtain ⟨v4, rfl, o4, hb4⟩ := h4
    refine ⟨_, rfl, ?_⟩
    have x54 := Blk.below x53 hb4 (Blk.lt x53)
    have x64 := Blk.below x63 hb4 (Blk.lt x63)
    have hSU4 : (fun w' : World => w'.cell? ⟨g5, 0, none⟩ = some (.int .i64 k0) /\ w'.cell? ⟨g5, 1, none⟩ = some (.int .i64 lo0) /\ w'.cell? ⟨g5, 2, none⟩ = some (.int .i64 hi0) /\ w'.cell? ⟨g5, 3, none⟩ = some (.string nm0) /\ w'.cell? ⟨g5, 4, none⟩ = some (.slice A0 n0 c0) /\ w'.cell? ⟨g6, 0, none⟩ = some (.int .i64 k1) /\ w'.cell? ⟨g6, 1, none⟩ = some (.int .i64 lo1) /\ w'.cell? ⟨g6, 2, none⟩ = some (.int .i64 hi1) /\ w'.cell? ⟨g6, 3, none⟩ = some (.string nm1) /\ w'.cell? ⟨g6, 4, none⟩ = some (.slice A1 n1 c1)) U4 := by
     have u0 := Blk.cell x54 0; have u1 := Blk.cell x54 1; have u2 := Blk.cell x54 2; have u3 := Blk.cell x54 3; have u4 := Blk.cell x54 4; have z0 := Blk.cell x64 0; have z1 := Blk.cell x64 1; have z2 := Blk.cell x64 2; have z3 := Blk.cell x64 3; have z4 := Blk.cell x64 4
     simp only [List.getElem?_toArray, List.getElem?_cons_zero, List.getElem?_cons_succ] at u0 u1 u2 u3 u4 z0 z1 z2 z3 z4
     exact ⟨u0, u1, u2, u3, u4, z0, z1, z2, z3, z4⟩
    refine hK9 _ _ hSU4 ?_
    clear hK9
    try simp only [Act.put, List.getElem_toArray, List.getElem_cons_succ, List.getElem_cons_zero, List.setIfInBounds_toArray, List.set_cons_zero, List.set_cons_succ]
    refine anyX_last (by kernel_rfl) (by kernel_rfl) rfl rfl ?_
    try simp only [List.getElem_toArray, List.getElem_cons_succ, List.getElem_cons_zero]
    have Q := Lib.hid (Tells.from_ HQ3.out ⟨v4, rfl, o4, hb4⟩)
    clear hSU hSU1 hSU2 hS3 hSU4 o0 o1 o4 hb1 hb2 hb4 r0 r1 hLL hor q1 q2 q3 x51 x52 x53 x54 x61 x62 x63 x64 hf hres
    go_simp
    try apply_assumption
    go_wp2_with fail
    go_ret
    exact Q.out
   ·have b0 := Blk.cell hf.xb 0
    simp only [List.getElem?_toArray, List.getElem?_cons_zero, List.getElem?_cons_succ] at b0
    try apply_assumption
    go_wp2_with fail
    clear b0
    obtain ⟨U, eU⟩ : ∃ U, W.drew = U := ⟨_, rfl⟩
    have hf : Two w a.tree b'.tree #[.int .i64 6, .int .i64 0, .int .i64 0, .string nm, .slice (some ⟨g, o, none⟩) 2 c] g5 g6 #[.int .i64 k0, .int .i64 lo0, .int .i64 hi0, .string nm0, .slice A0 n0 c0] #[.int .i64 k1, .int .i64 lo1, .int .i64 hi1, .string nm1, .slice A1 n1 c1] U := by rw [<- eU]; exact ⟨hf.below.drew, hf.l5, hf.l6, hf.ne, hf.xb.drew, hf.x5.drew, hf.x6.drew, hf.t0.fr (Below.refl _ _).drew, hf.t1.fr (Below.refl _ _).drew⟩
    refine region_x 7 (fun w' : World => w'.cell? ⟨g5, 0, none⟩ = some (.int .i64 k0) /\ w'.cell? ⟨g5, 1, none⟩ = some (.int .i64 lo0) /\ w'.cell? ⟨g5, 2, none⟩ = some (.int .i64 hi0) /\ w'.cell? ⟨g5, 3, none⟩ = some (.string nm0) /\ w'.cell? ⟨g5, 4, none⟩ = some (.slice A0 n0 c0) /\ w'.cell? ⟨g6, 0, none⟩ = some (.int .i64 k1) /\ w'.cell? ⟨g6, 1, none⟩ = some (.int .i64 lo1) /\ w'.cell? ⟨g6, 2, none⟩ = some (.int .i64 hi1) /\ w'.cell? ⟨g6, 3, none⟩ = some (.string nm1) /\ w'.cell? ⟨g6, 4, none⟩ = some (.slice A1 n1 c1)) (by kernel_rfl) ?_
    rw [eU]
    have hSU : (fun w' : World => w'.cell? ⟨g5, 0, none⟩ = some (.int .i64 k0) /\ w'.cell? ⟨g5, 1, none⟩ = some (.int .i64 lo0) /\ w'.cell? ⟨g5, 2, none⟩ = some (.int .i64 hi0) /\ w'.cell? ⟨g5, 3, none⟩ = some (.string nm0) /\ w'.cell? ⟨g5, 4, none⟩ = some (.slice A0 n0 c0) /\ w'.cell? ⟨g6, 0, none⟩ = some (.int .i64 k1) /\ w'.cell? ⟨g6, 1, none⟩ = some (.int .i64 lo1) /\ w'.cell? ⟨g6, 2, none⟩ = some (.int .i64 hi1) /\ w'.cell? ⟨g6, 3, none⟩ = some (.string nm1) /\ w'.cell? ⟨g6, 4, none⟩ = some (.slice A1 n1 c1)) U := by
     have u0 := Blk.cell hf.x5 0; have u1 := Blk.cell hf.x5 1; have u2 := Blk.cell hf.x5 2; have u3 := Blk.cell hf.x5 3; have u4 := Blk.cell hf.x5 4; have z0 := Blk.cell hf.x6 0; have z1 := Blk.cell hf.x6 1; have z2 := Blk.cell hf.x6 2; have z3 := Blk.cell hf.x6 3; have z4 := Blk.cell hf.x6 4
     simp only [List.getElem?_toArray, List.getElem?_cons_zero, List.getElem?_cons_succ] at u0 u1 u2 u3 u4 z0 z1 z2 z3 z4
     exact ⟨u0, u1, u2, u3, u4, z0, z1, z2, z3, z4⟩
    have hca := HA.out U b (.agg #[.int .i64 k0, .int .i64 lo0, .int .i64 hi0, .string nm0, .slice A0 n0 c0]) (hf.t0.keep (fun g hg => Nat.lt_of_lt_of_le hg hf.below.size) (fun _ _ _ _ h => h)) (HM.out.below hf.below)
    refine anyX_take (i := 0) (v := ?_) rfl (by kernel_rfl) (by kernel_rfl) (by kernel_rfl) (by kernel_rfl) (fun _ _ _ h => h) (Or.inl ⟨by rfl, ?_⟩) hSU ?_
    rotate_left
    ·rintro w' ⟨u0, u1, u2, u3, u4, z0, z1, z2, z3, z4⟩
     go_simp
     try with_reducible rfl
    try simp only [Act.put, List.getElem_toArray, List.getElem_cons_succ, List.getElem_cons_zero, List.setIfInBounds_toArray, List.set_cons_zero, List.set_cons_succ]
    refine anyX_take (i := 1) (v := ?_) rfl (by kernel_rfl) (by kernel_rfl) (by kernel_rfl) (by kernel_rfl) (fun _ _ _ h => h) (Or.inl ⟨by rfl, ?_⟩) hSU ?_
    rotate_left
    ·rintro w' ⟨u0, u1, u2, u3, u4, z0, z1, z2, z3, z4⟩
     go_simp
     try with_reducible rfl
    try simp only [Act.put, List.getElem_toArray, List.getElem_cons_succ, List.getElem_cons_zero, List.setIfInBounds_toArray, List.set_cons_zero, List.set_cons_succ]
    refine anyX_take (i := 3) (v := ?_) rfl (by kernel_rfl) (by kernel_rfl) (by kernel_rfl) (by kernel_rfl) (fun _ _ _ h => h) (Or.inl ⟨by rfl, ?_⟩) hSU ?_
    rotate_left
    ·rintro w' ⟨u0, u1, u2, u3, u4, z0, z1, z2, z3, z4⟩
     go_simp
     try with_reducible rfl
    try simp only [Act.put, List.getElem_toArray, List.getElem_cons_succ, List.getElem_cons_zero, List.setIfInBounds_toArray, List.set_cons_zero, List.set_cons_succ]
    refine anyX_take (i := 4) (v := ?_) rfl (by kernel_rfl) (by kernel_rfl) (by kernel_rfl) (by kernel_rfl) (fun _ _ _ h => h) (Or.inl ⟨by rfl, ?_⟩) hSU ?_
    rotate_left
    ·rintro w' ⟨u0, u1, u2, u3, u4, z0, z1, z2, z3, z4⟩
     go_simp
     try with_reducible rfl
    try simp only [Act.put, List.getElem_toArray, List.getElem_cons_succ, List.getElem_cons_zero, List.setIfInBounds_toArray, List.set_cons_zero, List.set_cons_succ]
    refine anyX_g (i := 2) (by kernel_rfl) (by decide) rfl (by rfl) ?_
    intro K9 hK9
    try simp only [List.getElem_toArray, List.getElem_cons_succ, List.getElem_cons_zero]
    refine wp_enterE #[.pointer (some ⟨b, 0, none⟩), .agg #[.int .i64 k0, .int .i64 lo0, .int .i64 hi0, .string nm0, .slice A0 n0 c0]] Tryz.func92 (by kernel_rfl) (by kernel_rfl) ?_ hca ?_
    ·go_simp
    rintro e U1 ⟨v0, rfl, o0, hb1⟩
    refine ⟨_, rfl, ?_⟩
    have x51 := Blk.below hf.x5 hb1 (Blk.lt hf.x5)
    have x61 := Blk.below hf.x6 hb1 (Blk.lt hf.x6)
    have q1 := hf.below.trans (hb1.mono hf.below.size)
    have hSU1 : (fun w' : World => w'.cell? ⟨g5, 0, none⟩ = some (.int .i64 k0) /\ w'.cell? ⟨g5, 1, none⟩ = some (.int .i64 lo0) /\ w'.cell? ⟨g5, 2, none⟩ = some (.int .i64 hi0) /\ w'.cell? ⟨g5, 3, none⟩ = some (.string nm0) /\ w'.cell? ⟨g5, 4, none⟩ = some (.slice A0 n0 c0) /\ w'.cell? ⟨g6, 0, none⟩ = some (.int .i64 k1) /\ w'.cell? ⟨g6, 1, none⟩ = some (.int .i64 lo1) /\ w'.cell? ⟨g6, 2, none⟩ = some (.int .i64 hi1) /\ w'.cell? ⟨g6, 3, none⟩ = some (.string nm1) /\ w'.cell? ⟨g6, 4, none⟩ = some (.slice A1 n1 c1)) U1 := by
     have u0 := Blk.cell x51 0; have u1 := Blk.cell x51 1; have u2 := Blk.cell x51 2; have u3 := Blk.cell x51 3; have u4 := Blk.cell x51 4; have z0 := Blk.cell x61 0; have z1 := Blk.cell x61 1; have z2 := Blk.cell x61 2; have z3 := Blk.cell x61 3; have z4 := Blk.cell x61 4
     simp only [List.getElem?_toArray, List.getElem?_cons_zero, List.getElem?_cons_succ] at u0 u1 u2 u3 u4 z0 z1 z2 z3 z4
     exact ⟨u0, u1, u2, u3, u4, z0, z1, z2, z3, z4⟩
    refine hK9 _ _ hSU1 ?_
    clear hK9 hca
    try simp only [Act.put, List.getElem_toArray, List.getElem_cons_succ, List.getElem_cons_zero, List.setIfInBounds_toArray, List.set_cons_zero, List.set_cons_succ]
    have hcb := HBB.out U1 b (.agg #[.int .i64 k1, .int .i64 lo1, .int .i64 hi1, .string nm1, .slice A1 n1 c1]) ((hf.t1.fr (hb1.mono hf.below.size)).keep (fun g hg => Nat.lt_of_lt_of_le hg q1.size) (fun _ _ _ _ h => h)) (HM.out.below q1)
    refine anyX_g (i := 5) (by kernel_rfl) (by decide) rfl (by rfl) ?_
    intro K9 hK9
    try simp only [List.getElem_toArray, List.getElem_cons_succ, List.getElem_cons_zero]
    refine wp_enterE #[.pointer (some ⟨b, 0, none⟩), .agg #[.int .i64 k1, .int .i64 lo1, .int .i64 hi1, .string nm1, .slice A1 n1 c1]] Tryz.func92 (by kernel_rfl) (by kernel_rfl) ?_ hcb ?_
    ·go_simp
    rintro e U2 ⟨v1, rfl, o1, hb2⟩
    refine ⟨_, rfl, ?_⟩
    have x52 := Blk.below x51 hb2 (Blk.lt x51)
    have x62 := Blk.below x61 hb2 (Blk.lt x61)
    have q2 := q1.trans (hb2.mono q1.size)
    have hSU2 : (fun w' : World => w'.cell? ⟨g5, 0, none⟩ = some (.int .i64 k0) /\ w'.cell? ⟨g5, 1, none⟩ = some (.int .i64 lo0) /\ w'.cell? ⟨g5, 2, none⟩ = some (.int .i64 hi0) /\ w'.cell? ⟨g5, 3, none⟩ = some (.string nm0) /\ w'.cell? ⟨g5, 4, none⟩ = some (.slice A0 n0 c0) /\ w'.cell? ⟨g6, 0, none⟩ = some (.int .i64 k1) /\ w'.cell? ⟨g6, 1, none⟩ = some (.int .i64 lo1) /\ w'.cell? ⟨g6, 2, none⟩ = some (.int .i64 hi1) /\ w'.cell? ⟨g6, 3, none⟩ = some (.string nm1) /\ w'.cell? ⟨g6, 4, none⟩ = some (.slice A1 n1 c1)) U2 := by
     have u0 := Blk.cell x52 0; have u1 := Blk.cell x52 1; have u2 := Blk.cell x52 2; have u3 := Blk.cell x52 3; have u4 := Blk.cell x52 4; have z0 := Blk.cell x62 0; have z1 := Blk.cell x62 1; have z2 := Blk.cell x62 2; have z3 := Blk.cell x62 3; have z4 := Blk.cell x62 4
     simp only [List.getElem?_toArray, List.getElem?_cons_zero, List.getElem?_cons_succ] at u0 u1 u2 u3 u4 z0 z1 z2 z3 z4
     exact ⟨u0, u1, u2, u3, u4, z0, z1, z2, z3, z4⟩
    refine hK9 _ _ hSU2 ?_
    clear hK9 hcb
    try simp only [Act.put, List.getElem_toArray, List.getElem_cons_succ, List.getElem_cons_zero, List.setIfInBounds_toArray, List.set_cons_zero, List.set_cons_succ]
    have r0 := (o0.below_top hb2).reads
    have r1 := o1.reads
    have hop0 := and_any r0 r1 (meanC_rt HSS.out a) (meanC_rt HSS.out b')
    have hop : Calls Tryz.prog 120 #[v0, v1] U2 (Tells U2 RES) := by rw [<- HRES.out]; exact hop0
    have HOP := Lib.hid hop; have HQ2 := Lib.hid q2
    clear hop0 hop
    refine anyX_g (i := 6) (by kernel_rfl) (by decide) rfl (by rfl) ?_
    intro K9 hK9
    try simp only [List.getElem_toArray, List.getElem_cons_succ, List.getElem_cons_zero]
    refine wp_enterE #[v0, v1] Tryz.func120 (by kernel_rfl) (by kernel_rfl) ?_ HOP.out ?_
    ·go_simp
    rintro e U4 h4
    obtain ⟨v4, rfl, o4, hb4⟩ := h4
    refine ⟨_, rfl, ?_⟩
    have x54 := Blk.below x52 hb4 (Blk.lt x52)
    have x64 := Blk.below x62 hb4 (Blk.lt x62)
    have hSU4 : (fun w' : World => w'.cell? ⟨g5, 0, none⟩ = some (.int .i64 k0) /\ w'.cell? ⟨g5, 1, none⟩ = some (.int .i64 lo0) /\ w'.cell? ⟨g5, 2, none⟩ = some (.int .i64 hi0) /\ w'.cell? ⟨g5, 3, none⟩ = some (.string nm0) /\ w'.cell? ⟨g5, 4, none⟩ = some (.slice A0 n0 c0) /\ w'.cell? ⟨g6, 0, none⟩ = some (.int .i64 k1) /\ w'.cell? ⟨g6, 1, none⟩ = some (.int .i64 lo1) /\ w'.cell? ⟨g6, 2, none⟩ = some (.int .i64 hi1) /\ w'.cell? ⟨g6, 3, none⟩ = some (.string nm1) /\ w'.cell? ⟨g6, 4, none⟩ = some (.slice A1 n1 c1)) U4 := by
     have u0 := Blk.cell x54 0; have u1 := Blk.cell x54 1; have u2 := Blk.cell x54 2; have u3 := Blk.cell x54 3; have u4 := Blk.cell x54 4; have z0 := Blk.cell x64 0; have z1 := Blk.cell x64 1; have z2 := Blk.cell x64 2; have z3 := Blk.cell x64 3; have z4 := Blk.cell x64 4
     simp only [List.getElem?_toArray, List.getElem?_cons_zero, List.getElem?_cons_succ] at u0 u1 u2 u3 u4 z0 z1 z2 z3 z4
     exact ⟨u0, u1, u2, u3, u4, z0, z1, z2, z3, z4⟩
    refine hK9 _ _ hSU4 ?_
    clear hK9
    try simp only [Act.put, List.getElem_toArray, List.getElem_cons_succ, List.getElem_cons_zero, List.setIfInBounds_toArray, List.set_cons_zero, List.set_cons_succ]
    refine anyX_last (by kernel_rfl) (by kernel_rfl) rfl rfl ?_
    try simp only [List.getElem_toArray, List.getElem_cons_succ, List.getElem_cons_zero]
    have Q := Lib.hid (Tells.from_ HQ2.out ⟨v4, rfl, o4, hb4⟩)
    clear hSU hSU1 hSU2 hSU4 o0 o1 o4 hb1 hb2 hb4 r0 r1 q1 q2 x51 x52 x54 x61 x62 x64 hf
    go_simp
    try apply_assumption
    go_wp2_with fail
    go_ret
    exact Q.out
   ·have b0 := Blk.cell hf.xb 0
    simp only [List.getElem?_toArray, List.getElem?_cons_zero, List.getElem?_cons_succ] at b0
    try apply_assumption
    go_wp2_with fail
    clear b0
    obtain ⟨U, eU⟩ : ∃ U, W.drew = U := ⟨_, rfl⟩
    have hf : Two w a.tree b'.tree #[.int .i64 7, .int .i64 0, .int .i64 0, .string nm, .slice (some ⟨g, o, none⟩) 2 c] g5 g6 #[.int .i64 k0, .int .i64 lo0, .int .i64 hi0, .string nm0, .slice A0 n0 c0] #[.int .i64 k1, .int .i64 lo1, .int .i64 hi1, .string nm1, .slice A1 n1 c1] U := by rw [<- eU]; exact ⟨hf.below.drew, hf.l5, hf.l6, hf.ne, hf.xb.drew, hf.x5.drew, hf.x6.drew, hf.t0.fr (Below.refl _ _).drew, hf.t1.fr (Below.refl _ _).drew⟩
    refine region_x 7 (fun w' : World => w'.cell? ⟨g5, 0, none⟩ = some (.int .i64 k0) /\ w'.cell? ⟨g5, 1, none⟩ = some (.int .i64 lo0) /\ w'.cell? ⟨g5, 2, none⟩ = some (.int .i64 hi0) /\ w'.cell? ⟨g5, 3, none⟩ = some (.string nm0) /\ w'.cell? ⟨g5, 4, none⟩ = some (.slice A0 n0 c0) /\ w'.cell? ⟨g6, 0, none⟩ = some (.int .i64 k1) /\ w'.cell? ⟨g6, 1, none⟩ = some (.int .i64 lo1) /\ w'.cell? ⟨g6, 2, none⟩ = some (.int .i64 hi1) /\ w'.cell? ⟨g6, 3, none⟩ = some (.string nm1) /\ w'.cell? ⟨g6, 4, none⟩ = some (.slice A1 n1 c1)) (by kernel_rfl) ?_
    rw [eU]
    have hSU : (fun w' : World => w'.cell? ⟨g5, 0, none⟩ = some (.int .i64 k0) /\ w'.cell? ⟨g5, 1, none⟩ = some (.int .i64 lo0) /\ w'.cell? ⟨g5, 2, none⟩ = some (.int .i64 hi0) /\ w'.cell? ⟨g5, 3, none⟩ = some (.string nm0) /\ w'.cell? ⟨g5, 4, none⟩ = some (.slice A0 n0 c0) /\ w'.cell? ⟨g6, 0, none⟩ = some (.int .i64 k1) /\ w'.cell? ⟨g6, 1, none⟩ = some (.int .i64 lo1) /\ w'.cell? ⟨g6, 2, none⟩ = some (.int .i64 hi1) /\ w'.cell? ⟨g6, 3, none⟩ = some (.string nm1) /\ w'.cell? ⟨g6, 4, none⟩ = some (.slice A1 n1 c1)) U := by
     have u0 := Blk.cell hf.x5 0; have u1 := Blk.cell hf.x5 1; have u2 := Blk.cell hf.x5 2; have u3 := Blk.cell hf.x5 3; have u4 := Blk.cell hf.x5 4; have z0 := Blk.cell hf.x6 0; have z1 := Blk.cell hf.x6 1; have z2 := Blk.cell hf.x6 2; have z3 := Blk.cell hf.x6 3; have z4 := Blk.cell hf.x6 4
     simp only [List.getElem?_toArray, List.getElem?_cons_zero, List.getElem?_cons_succ] at u0 u1 u2 u3 u4 z0 z1 z2 z3 z4
     exact ⟨u0, u1, u2, u3, u4, z0, z1, z2, z3, z4⟩
    have hca := HA.out U b (.agg #[.int .i64 k0, .int .i64 lo0, .int .i64 hi0, .string nm0, .slice A0 n0 c0]) (hf.t0.keep (fun g hg => Nat.lt_of_lt_of_le hg hf.below.size) (fun _ _ _ _ h => h)) (HM.out.below hf.below)
    refine anyX_take (i := 0) (v := ?_) rfl (by kernel_rfl) (by kernel_rfl) (by kernel_rfl) (by kernel_rfl) (fun _ _ _ h => h) (Or.inl ⟨by rfl, ?_⟩) hSU ?_
    rotate_left
    ·rintro w' ⟨u0, u1, u2, u3, u4, z0, z1, z2, z3, z4⟩
     go_simp
     try with_reducible rfl
    try simp only [Act.put, List.getElem_toArray, List.getElem_cons_succ, List.getElem_cons_zero, List.setIfInBounds_toArray, List.set_cons_zero, List.set_cons_succ]
    refine anyX_take (i := 1) (v := ?_) rfl (by kernel_rfl) (by kernel_rfl) (by kernel_rfl) (by kernel_rfl) (fun _ _ _ h => h) (Or.inl ⟨by rfl, ?_⟩) hSU ?_
    rotate_left
    ·rintro w' ⟨u0, u1, u2, u3, u4, z0, z1, z2, z3, z4⟩
     go_simp
     try with_reducible rfl
    try simp only [Act.put, List.getElem_toArray, List.getElem_cons_succ, List.getElem_cons_zero, List.setIfInBounds_toArray, List.set_cons_zero, List.set_cons_succ]
    refine anyX_take (i := 3) (v := ?_) rfl (by kernel_rfl) (by kernel_rfl) (by kernel_rfl) (by kernel_rfl) (fun _ _ _ h => h) (Or.inl ⟨by rfl, ?_⟩) hSU ?_
    rotate_left
    ·rintro w' ⟨u0, u1, u2, u3, u4, z0, z1, z2, z3, z4⟩
     go_simp
     try with_reducible rfl
    try simp only [Act.put, List.getElem_toArray, List.getElem_cons_succ, List.getElem_cons_zero, List.setIfInBounds_toArray, List.set_cons_zero, List.set_cons_succ]
    refine anyX_take (i := 4) (v := ?_) rfl (by kernel_rfl) (by kernel_rfl) (by kernel_rfl) (by kernel_rfl) (fun _ _ _ h => h) (Or.inl ⟨by rfl, ?_⟩) hSU ?_
    rotate_left
    ·rintro w' ⟨u0, u1, u2, u3, u4, z0, z1, z2, z3, z4⟩
     go_simp
     try with_reducible rfl
    try simp only [Act.put, List.getElem_toArray, List.getElem_cons_succ, List.getElem_cons_zero, List.setIfInBounds_toArray, List.set_cons_zero, List.set_cons_succ]
    refine anyX_g (i := 2) (by kernel_rfl) (by decide) rfl (by rfl) ?_
    intro K9 hK9
    try simp only [List.getElem_toArray, List.getElem_cons_succ, List.getElem_cons_zero]
    refine wp_enterE #[.pointer (some ⟨b, 0, none⟩), .agg #[.int .i64 k0, .int .i64 lo0, .int .i64 hi0, .string nm0, .slice A0 n0 c0]] Tryz.func92 (by kernel_rfl) (by kernel_rfl) ?_ hca ?_
    ·go_simp
    rintro e U1 ⟨v0, rfl, o0, hb1⟩
    refine ⟨_, rfl, ?_⟩
    have x51 := Blk.below hf.x5 hb1 (Blk.lt hf.x5)
    have x61 := Blk.below hf.x6 hb1 (Blk.lt hf.x6)
    have q1 := hf.below.trans (hb1.mono hf.below.size)
    have hSU1 : (fun w' : World => w'.cell? ⟨g5, 0, none⟩ = some (.int .i64 k0) /\ w'.cell? ⟨g5, 1, none⟩ = some (.int .i64 lo0) /\ w'.cell? ⟨g5, 2, none⟩ = some (.int .i64 hi0) /\ w'.cell? ⟨g5, 3, none⟩ = some (.string nm0) /\ w'.cell? ⟨g5, 4, none⟩ = some (.slice A0 n0 c0) /\ w'.cell? ⟨g6, 0, none⟩ = some (.int .i64 k1) /\ w'.cell? ⟨g6, 1, none⟩ = some (.int .i64 lo1) /\ w'.cell? ⟨g6, 2, none⟩ = some (.int .i64 hi1) /\ w'.cell? ⟨g6, 3, none⟩ = some (.string nm1) /\ w'.cell? ⟨g6, 4, none⟩ = some (.slice A1 n1 c1)) U1 := by
     have u0 := Blk.cell x51 0; have u1 := Blk.cell x51 1; have u2 := Blk.cell x51 2; have u3 := Blk.cell x51 3; have u4 := Blk.cell x51 4; have z0 := Blk.cell x61 0; have z1 := Blk.cell x61 1; have z2 := Blk.cell x61 2; have z3 := Blk.cell x61 3; have z4 := Blk.cell x61 4
     simp only [List.getElem?_toArray, List.getElem?_cons_zero, List.getElem?_cons_succ] at u0 u1 u2 u3 u4 z0 z1 z2 z3 z4
     exact ⟨u0, u1, u2, u3, u4, z0, z1, z2, z3, z4⟩
    refine hK9 _ _ hSU1 ?_
    clear hK9 hca
    try simp only [Act.put, List.getElem_toArray, List.getElem_cons_succ, List.getElem_cons_zero, List.setIfInBounds_toArray, List.set_cons_zero, List.set_cons_succ]
    have hcb := HBB.out U1 b (.agg #[.int .i64 k1, .int .i64 lo1, .int .i64 hi1, .string nm1, .slice A1 n1 c1]) ((hf.t1.fr (hb1.mono hf.below.size)).keep (fun g hg => Nat.lt_of_lt_of_le hg q1.size) (fun _ _ _ _ h => h)) (HM.out.below q1)
    refine anyX_g (i := 5) (by kernel_rfl) (by decide) rfl (by rfl) ?_
    intro K9 hK9
    try simp only [List.getElem_toArray, List.getElem_cons_succ, List.getElem_cons_zero]
    refine wp_enterE #[.pointer (some ⟨b, 0, none⟩), .agg #[.int .i64 k1, .int .i64 lo1, .int .i64 hi1, .string nm1, .slice A1 n1 c1]] Tryz.func92 (by kernel_rfl) (by kernel_rfl) ?_ hcb ?_
    ·go_simp
    rintro e U2 ⟨v1, rfl, o1, hb2⟩
    refine ⟨_, rfl, ?_⟩
    have x52 := Blk.below x51 hb2 (Blk.lt x51)
    have x62 := Blk.below x61 hb2 (Blk.lt x61)
    have q2 := q1.trans (hb2.mono q1.size)
    have hSU2 : (fun w' : World => w'.cell? ⟨g5, 0, none⟩ = some (.int .i64 k0) /\ w'.cell? ⟨g5, 1, none⟩ = some (.int .i64 lo0) /\ w'.cell? ⟨g5, 2, none⟩ = some (.int .i64 hi0) /\ w'.cell? ⟨g5, 3, none⟩ = some (.string nm0) /\ w'.cell? ⟨g5, 4, none⟩ = some (.slice A0 n0 c0) /\ w'.cell? ⟨g6, 0, none⟩ = some (.int .i64 k1) /\ w'.cell? ⟨g6, 1, none⟩ = some (.int .i64 lo1) /\ w'.cell? ⟨g6, 2, none⟩ = some (.int .i64 hi1) /\ w'.cell? ⟨g6, 3, none⟩ = some (.string nm1) /\ w'.cell? ⟨g6, 4, none⟩ = some (.slice A1 n1 c1)) U2 := by
     have u0 := Blk.cell x52 0; have u1 := Blk.cell x52 1; have u2 := Blk.cell x52 2; have u3 := Blk.cell x52 3; have u4 := Blk.cell x52 4; have z0 := Blk.cell x62 0; have z1 := Blk.cell x62 1; have z2 := Blk.cell x62 2; have z3 := Blk.cell x62 3; have z4 := Blk.cell x62 4
     simp only [List.getElem?_toArray, List.getElem?_cons_zero, List.getElem?_cons_succ] at u0 u1 u2 u3 u4 z0 z1 z2 z3 z4
     exact ⟨u0, u1, u2, u3, u4, z0, z1, z2, z3, z4⟩
    refine hK9 _ _ hSU2 ?_
    clear hK9 hcb
    try simp only [Act.put, List.getElem_toArray, List.getElem_cons_succ, List.getElem_cons_zero, List.setIfInBounds_toArray, List.set_cons_zero, List.set_cons_succ]
    have r0 := (o0.below_top hb2).reads
    have r1 := o1.reads
    have hop0 := less_any r0 r1 (meanC_rt HSS.out a) (meanC_rt HSS.out b')
    have hop : Calls Tryz.prog 121 #[v0, v1] U2 (Tells U2 RES) := by rw [<- HRES.out]; exact hop0
    have HOP := Lib.hid hop; have HQ2 := Lib.hid q2
    clear hop0 hop
    refine anyX_g (i := 6) (by kernel_rfl) (by decide) rfl (by rfl) ?_
    intro K9 hK9
    try simp only [List.getElem_toArray, List.getElem_cons_succ, List.getElem_cons_zero]
    refine wp_enterE #[v0, v1] Tryz.func121 (by kernel_rfl) (by kernel_rfl) ?_ HOP.out ?_
    ·go_simp
    rintro e U4 h4
    obtain ⟨v4, rfl, o4, hb4⟩ := h4
    refine ⟨_, rfl, ?_⟩
    have x54 := Blk.below x52 hb4 (Blk.lt x52)
    have x64 := Blk.below x62 hb4 (Blk.lt x62)
    have hSU4 : (fun w' : World => w'.cell? ⟨g5, 0, none⟩ = some (.int .i64 k0) /\ w'.cell? ⟨g5, 1, none⟩ = some (.int .i64 lo0) /\ w'.cell? ⟨g5, 2, none⟩ = some (.int .i64 hi0) /\ w'.cell? ⟨g5, 3, none⟩ = some (.string nm0) /\ w'.cell? ⟨g5, 4, none⟩ = some (.slice A0 n0 c0) /\ w'.cell? ⟨g6, 0, none⟩ = some (.int .i64 k1) /\ w'.cell? ⟨g6, 1, none⟩ = some (.int .i64 lo1) /\ w'.cell? ⟨g6, 2, none⟩ = some (.int .i64 hi1) /\ w'.cell? ⟨g6, 3, none⟩ = some (.string nm1) /\ w'.cell? ⟨g6, 4, none⟩ = some (.slice A1 n1 c1)) U4 := by
     have u0 := Blk.cell x54 0; have u1 := Blk.cell x54 1; have u2 := Blk.cell x54 2; have u3 := Blk.cell x54 3; have u4 := Blk.cell x54 4; have z0 := Blk.cell x64 0; have z1 := Blk.cell x64 1; have z2 := Blk.cell x64 2; have z3 := Blk.cell x64 3; have z4 := Blk.cell x64 4
     simp only [List.getElem?_toArray, List.getElem?_cons_zero, List.getElem?_cons_succ] at u0 u1 u2 u3 u4 z0 z1 z2 z3 z4
     exact ⟨u0, u1, u2, u3, u4, z0, z1, z2, z3, z4⟩
    refine hK9 _ _ hSU4 ?_
    clear hK9
    try simp only [Act.put, List.getElem_toArray, List.getElem_cons_succ, List.getElem_cons_zero, List.setIfInBounds_toArray, List.set_cons_zero, List.set_cons_succ]
    refine anyX_last (by kernel_rfl) (by kernel_rfl) rfl rfl ?_
    try simp only [List.getElem_toArray, List.getElem_cons_succ, List.getElem_cons_zero]
    have Q := Lib.hid (Tells.from_ HQ2.out ⟨v4, rfl, o4, hb4⟩)
    clear hSU hSU1 hSU2 hSU4 o0 o1 o4 hb1 hb2 hb4 r0 r1 q1 q2 x51 x52 x54 x61 x62 x64 hf
    go_simp
    try apply_assumption
    go_wp2_with fail
    go_ret
    exact Q.out
end Go.Proofs.YtfccnadbiglagaaGreat
