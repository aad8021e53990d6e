/- Contracts of side.child, side.product, side.Size. -/
import Derived.Test.YtfccnadbiglagaaGreatVTk
import Derived.Test.YtfccnadbiglagaaGreatVSynWb
import Derived.Test.YtfccnadbiglagaaGreatVSynLc
import Derived.Test.YtfccnadbiglagaaGreatVPlB
import Derived.IntWalk
set_option linter.unusedVariables false
set_option linter.unusedSimpArgs false
set_option maxRecDepth 100000
set_option maxHeartbeats 8000000
namespace Go.Proofs.YtfccnadbiglagaaGreat
open Go Go.RowKit Go.Proofs
theorem schild_ok (w : World) (S : Nat -> Prop) (k lo hi wt : Int) (nm : ByteArray) (A : Option Addr) (n c : Nat) (l : List Tree) (i : Nat) (hi' : i < l.length) (h : KidsV true w S A n c l) (I : Int) (hI : (i : Int) = I) (hn9 : n <= 1000) :
  Calls Tryz.prog 45 #[.agg #[.int .i64 k, .int .i64 lo, .int .i64 hi, .int .i64 wt, .string nm, .slice A n c], .int .i64 I] w fun e w' => ∃ v, e = .returned v /\ TreeV true w' S v l[i] /\ Below w.heap.size w w' := by
  subst hI
  obtain ⟨h1, h2, h3, h4, h5⟩ := h
  obtain ⟨b, o, rfl⟩ := h4.some (by omega)
  obtain ⟨hSb, hts⟩ := h5 b o rfl (by omega)
  obtain ⟨k0, lo0, hi0, wt0, nm0, A0, n0, c0, hc, ht⟩ := (hts.at_ i hi').value
  have cc : ∀ j v, [Value.int .i64 k0, .int .i64 lo0, .int .i64 hi0, .int .i64 wt0, .string nm0, .slice A0 n0 c0][j]? = some v -> w.cell? ⟨b, o + i * 6 + j, none⟩ = some v := fun j v hv => hc j v hv
  have v0 := cc 0 _ rfl; have v1 := cc 1 _ rfl; have v2 := cc 2 _ rfl; have v3 := cc 3 _ rfl; have v4 := cc 4 _ rfl; have v5 := cc 5 _ rfl
  rw [Nat.add_zero] at v0
  have hlt := World.block_lt_of_cell? w _ v0
  have ht' : ∀ w', Below w.heap.size w w' -> TreeV true w' S (.agg #[.int .i64 k0, .int .i64 lo0, .int .i64 hi0, .int .i64 wt0, .string nm0, .slice A0 n0 c0]) l[i] := fun w' hb => ht.bel (fun _ h => h) hb
  have HT := Lib.hid ht'
  have i0 : (0 : Int) <= (i : Int) := Int.natCast_nonneg _
  have i1 : (i : Int) < (n : Int) := by omega
  unfold maxLen at h3
  clear hc ht ht' cc hts h5 h4
  go_enter Tryz.func45, Tryz.ntmps45
  go_wp2_with fail
  refine bodyPost_ret (v := .agg #[.int .i64 k0, .int .i64 lo0, .int .i64 hi0, .int .i64 wt0, .string nm0, .slice A0 n0 c0]) (by simp [results, Tryz.results45, go_sem]) rfl ?_
  have hb : Below w.heap.size w ((w.alloc (.cells #[.int .i64 k, .int .i64 lo, .int .i64 hi, .int .i64 wt, .string nm, .slice (some ⟨b, o, none⟩) n c] 33)).alloc (.cells #[.int .i64 k0, .int .i64 lo0, .int .i64 hi0, .int .i64 wt0, .string nm0, .slice A0 n0 c0] 33)) := ((Below.refl _ _).alloc (Nat.le_refl _) _).alloc (by simp) _
  exact ⟨_, rfl, HT.out _ hb, hb⟩
theorem sprod_any (n k most : Nat) (hn : n <= 1152921504606846976) (hm : most <= 1152921504606846976) (hk : k <= 1000000) (w : World) :
  Calls Tryz.prog 46 #[.int .i64 n, .int .i64 k, .int .i64 most] w fun e w' => e = .returned (.int .i64 (prodC n k most : Nat)) /\ w = w' := by
  have hd := @prod_div n k most
  obtain ⟨q, hq⟩ : ∃ q, most / n = q := ⟨_, rfl⟩
  obtain ⟨r, hr⟩ : ∃ r, n * k = r := ⟨_, rfl⟩
  rw [hq, hr] at hd
  have hqi : (most : Int) / (n : Int) = (q : Int) := by rw [<- hq]; omega
  have hri : (n : Int) * (k : Int) = (r : Int) := by rw [<- hr]; simp
  have hqm : q <= most := by rw [<- hq]; exact Nat.div_le_self _ _
  have q0 : (0 : Int) <= (q : Int) := Int.natCast_nonneg _
  have q1 : (q : Int) <= 1152921504606846976 := by omega
  have hP : (prodC n k most : Nat) = min r most := by unfold prodC; rw [hr]
  rw [hP]
  have n0 : (0 : Int) <= (n : Int) := Int.natCast_nonneg _
  have k0 : (0 : Int) <= (k : Int) := Int.natCast_nonneg _
  have m0 : (0 : Int) <= (most : Int) := Int.natCast_nonneg _
  have hn' : (n : Int) <= 1152921504606846976 := by omega
  have hm' : (most : Int) <= 1152921504606846976 := by omega
  have hk' : (k : Int) <= 1000000 := by omega
  have hmax : (max (k : Int) 0) = (k : Int) := by omega
  have HQ := Lib.hid hq; have HR := Lib.hid hr; have HD := Lib.hid @hd; have HQI := Lib.hid hqi; have HRI := Lib.hid hri; have HMAX := Lib.hid hmax
  clear hq hr hd hqi hri hP hmax
  go_enter Tryz.func46, Tryz.ntmps46
  by_cases h0 : 0 < n
  ·have h0' : (0 : Int) < (n : Int) := by omega
   have hne : ¬ (n : Int) = 0 := by omega
   by_cases hb : q < k
   ·have hgt := (HD.out h0).1 hb
    have hb' : (q : Int) < (k : Int) := by omega
    have hqi := HQI.out
    have hmax := HMAX.out
    go_wp2_with fail
    go_ret
    exact ⟨congrArg (fun x : Int => Ending.returned (.int .i64 x)) (show ((most : Nat) : Int) = ((min r most : Nat) : Int) by omega), rfl⟩
   ·have hgt : ¬ most < r := fun h => hb ((HD.out h0).2 h)
    have hb' : ¬ (q : Int) < (k : Int) := by omega
    have hqi := HQI.out
    have hmax := HMAX.out
    have hmul : IntKind.i64.wrap ((n : Int) * (k : Int)) = (r : Int) := by rw [HRI.out]; exact IntWalk.i64_in _ (by omega)
    go_wp2_with fail
    go_ret
    exact ⟨congrArg (fun x : Int => Ending.returned (.int .i64 x)) (show ((r : Nat) : Int) = ((min r most : Nat) : Int) by omega), rfl⟩
  ·have h0' : ¬ (0 : Int) < (n : Int) := by omega
   have hz : n = 0 := by omega
   have hr0 : r = 0 := by rw [<- HR.out, hz]; simp
   have hmax := HMAX.out
   have hmul : IntKind.i64.wrap ((n : Int) * (k : Int)) = (r : Int) := by rw [HRI.out]; exact IntWalk.i64_in _ (by omega)
   clear hz
   go_wp2_with fail
   go_ret
   exact ⟨congrArg (fun x : Int => Ending.returned (.int .i64 x)) (by first | rfl | omega), rfl⟩
def TellsN (w : World) (x : Int) (e : Ending) (w' : World) : Prop := e = .returned (.int .i64 x) /\ Below w.heap.size w w'
def SizeSpec (p : Pat) : Prop := ∀ (w : World) (S : Nat -> Prop) (v : Value), TreeV true w S v p.tree -> Calls Tryz.prog 20 #[v] w (TellsN w (sizeC p : Nat))
theorem KidsV.bel {r : Bool} {w w' : World} {S : Nat -> Prop} {A : Option Addr} {n c : Nat} {l : List Tree} (h : KidsV r w S A n c l) (hb : Below w.heap.size w w') : KidsV r w' S A n c l :=
 h.keep fun g _ i x hx => by rw [hb.cell (p := ⟨g, i, none⟩) (World.block_lt_of_cell? w _ hx)]; exact hx
theorem ssize_1 (lo hi wt : Int) (nm : ByteArray) (A : Option Addr) (n c : Nat) (w : World) : Calls Tryz.prog 20 #[.agg #[.int .i64 1, .int .i64 lo, .int .i64 hi, .int .i64 wt, .string nm, .slice A n c]] w (TellsN w 0) := by
 go_enter Tryz.func20, Tryz.ntmps20
 go_wp2_with fail
 go_ret
 exact ⟨rfl, (Below.refl _ _).alloc (Nat.le_refl _) _⟩
theorem ssize_2 (lo hi wt : Int) (nm : ByteArray) (A : Option Addr) (n c : Nat) (w : World) : Calls Tryz.prog 20 #[.agg #[.int .i64 2, .int .i64 lo, .int .i64 hi, .int .i64 wt, .string nm, .slice A n c]] w (TellsN w 1) := by
 go_enter Tryz.func20, Tryz.ntmps20
 go_wp2_with fail
 go_ret
 exact ⟨rfl, (Below.refl _ _).alloc (Nat.le_refl _) _⟩
theorem ssize_3 (lo hi wt : Int) (nm : ByteArray) (A : Option Addr) (n c : Nat) (w : World) : Calls Tryz.prog 20 #[.agg #[.int .i64 3, .int .i64 lo, .int .i64 hi, .int .i64 wt, .string nm, .slice A n c]] w (TellsN w 1) := by
 go_enter Tryz.func20, Tryz.ntmps20
 go_wp2_with fail
 go_ret
 exact ⟨rfl, (Below.refl _ _).alloc (Nat.le_refl _) _⟩
theorem ssize_4 (a b : Pat) (lo hi wt : Int) (ha : SizeSpec a) (hb : SizeSpec b) (w : World) (S : Nat -> Prop) (v : Value) (hT : TreeV true w S v (.mk 4 lo hi wt [] [a.tree, b.tree])) : Calls Tryz.prog 20 #[v] w (TellsN w (min (sizeC a + sizeC b) 1000000000 : Nat)) := by
 obtain ⟨nm, A, n, c, rfl, hnm, hk⟩ := hT.six_
 have hn1 : n <= 1000 := by have := hk.1; simp at this; omega
 have hkk := fun W (hb : Below w.heap.size w W) => hk.bel hb
 have HK := Lib.hid hkk
 have hB0 := BoxQ.mk' w 33 #[.int .i64 4, .int .i64 lo, .int .i64 hi, .int .i64 wt, .string nm, .slice A n c]
 have hRf : ∀ W : World, BoxQ w 33 #[.int .i64 4, .int .i64 lo, .int .i64 hi, .int .i64 wt, .string nm, .slice A n c] W -> (fun w' : World => w'.cell? ⟨w.heap.size, 0, none⟩ = some (.int .i64 4) /\ w'.cell? ⟨w.heap.size, 1, none⟩ = some (.int .i64 lo) /\ w'.cell? ⟨w.heap.size, 2, none⟩ = some (.int .i64 hi) /\ w'.cell? ⟨w.heap.size, 3, none⟩ = some (.int .i64 wt) /\ w'.cell? ⟨w.heap.size, 4, none⟩ = some (.string nm) /\ w'.cell? ⟨w.heap.size, 5, none⟩ = some (.slice A n c)) W := fun W hW => ⟨Blk.cell hW.a 0, Blk.cell hW.a 1, Blk.cell hW.a 2, Blk.cell hW.a 3, Blk.cell hW.a 4, Blk.cell hW.a 5⟩
 have HB0 := Lib.hid hB0; have HRF := Lib.hid hRf; have HN1 := Lib.hid hn1
 clear hB0 hRf hk hkk hT hnm
 have HA := Lib.hid ha; have HB := Lib.hid hb; have la := sizeC_le a; have lb := sizeC_le b
 clear ha hb
 go_enter Tryz.func20, Tryz.ntmps20
 go_wp2_with fail
 have hB0d := HB0.out.drew
 refine region_x 8 (fun w' : World => w'.cell? ⟨w.heap.size, 0, none⟩ = some (.int .i64 4) /\ w'.cell? ⟨w.heap.size, 1, none⟩ = some (.int .i64 lo) /\ w'.cell? ⟨w.heap.size, 2, none⟩ = some (.int .i64 hi) /\ w'.cell? ⟨w.heap.size, 3, none⟩ = some (.int .i64 wt) /\ w'.cell? ⟨w.heap.size, 4, none⟩ = some (.string nm) /\ w'.cell? ⟨w.heap.size, 5, none⟩ = some (.slice A n c)) (by kernel_rfl) ?_
 have hS := HRF.out _ hB0d
 refine tkx (i := 0) (v := ?_) hS ?_ ?_
 rotate_left
 ·rintro w' ⟨b0, b1, b2, b3, b4, b5⟩
  go_simp
  try with_reducible rfl
 try simp only [Act.put, zq1, zq2, zq3, zq4, zq5, zq6]
 refine tkx (i := 3) (v := ?_) hS ?_ ?_
 rotate_left
 ·rintro w' ⟨b0, b1, b2, b3, b4, b5⟩
  go_simp
  try with_reducible rfl
 try simp only [Act.put, zq1, zq2, zq3, zq4, zq5, zq6]
 refine anyX_g (i := 1) (by kernel_rfl) (by decide) rfl (by rfl) ?_
 intro K hK
 try simp only [zq1, zq2, zq3]
 refine wp_enterE #[.agg #[.int .i64 4, .int .i64 lo, .int .i64 hi, .int .i64 wt, .string nm, .slice A n c], .int .i64 0] Tryz.func45 (by kernel_rfl) (by kernel_rfl) ?_ (schild_ok _ S 4 lo hi wt nm A n c [a.tree, b.tree] 0 (by simp) (HK.out _ hB0d.below) 0 rfl HN1.out) ?_
 ·go_simp
 rintro e w1 ⟨va, rfl, hva, hb1⟩
 refine ⟨_, rfl, ?_⟩
 have hR1 := hB0d.bel hb1
 have hS1 := HRF.out _ hR1
 have hca := HA.out _ _ _ hva
 clear hb1 hva
 refine hK _ _ hS1 ?_
 clear hK
 try simp only [Act.put, zq1, zq2, zq3, zq4, zq5, zq6]
 refine anyX_g (i := 2) (by kernel_rfl) (by decide) rfl (by rfl) ?_
 intro K hK
 try simp only [zq1, zq2, zq3]
 refine wp_enterE #[va] Tryz.func20 (by kernel_rfl) (by kernel_rfl) ?_ (hca) ?_
 ·go_simp
 rintro e w2 ⟨rfl, hb2⟩
 refine ⟨_, rfl, ?_⟩
 have hR2 := hR1.bel hb2
 have hS2 := HRF.out _ hR2
 clear hb2 hca
 refine hK _ _ hS2 ?_
 clear hK
 try simp only [Act.put, zq1, zq2, zq3, zq4, zq5, zq6]
 refine anyX_g (i := 4) (by kernel_rfl) (by decide) rfl (by rfl) ?_
 intro K hK
 try simp only [zq1, zq2, zq3]
 refine wp_enterE #[.agg #[.int .i64 4, .int .i64 lo, .int .i64 hi, .int .i64 wt, .string nm, .slice A n c], .int .i64 1] Tryz.func45 (by kernel_rfl) (by kernel_rfl) ?_ (schild_ok _ S 4 lo hi wt nm A n c [a.tree, b.tree] 1 (by simp) (HK.out _ hR2.below) 1 rfl HN1.out) ?_
 ·go_simp
 rintro e w3 ⟨vb, rfl, hvb, hb3⟩
 refine ⟨_, rfl, ?_⟩
 have hR3 := hR2.bel hb3
 have hS3 := HRF.out _ hR3
 have hcb := HB.out _ _ _ hvb
 clear hb3 hvb
 refine hK _ _ hS3 ?_
 clear hK
 try simp only [Act.put, zq1, zq2, zq3, zq4, zq5, zq6]
 refine anyX_g (i := 5) (by kernel_rfl) (by decide) rfl (by rfl) ?_
 intro K hK
 try simp only [zq1, zq2, zq3]
 refine wp_enterE #[vb] Tryz.func20 (by kernel_rfl) (by kernel_rfl) ?_ (hcb) ?_
 ·go_simp
 rintro e w4 ⟨rfl, hb4⟩
 refine ⟨_, rfl, ?_⟩
 have hR4 := hR3.bel hb4
 have hS4 := HRF.out _ hR4
 clear hb4 hcb
 refine hK _ _ hS4 ?_
 clear hK
 try simp only [Act.put, zq1, zq2, zq3, zq4, zq5, zq6]
 obtain ⟨x, hx⟩ : ∃ x, sizeC a = x := ⟨_, rfl⟩
 obtain ⟨y, hy⟩ : ∃ x, sizeC b = x := ⟨_, rfl⟩
 rw [hx] at la ⊢
 rw [hy] at lb ⊢
 have HX := Lib.hid hx; have HY := Lib.hid hy
 clear hx hy
 have e1 : IntKind.i64.wrap ((x : Int) + (y : Int)) = ((x + y : Nat) : Int) := by rw [IntWalk.i64_in _ (by omega)]; omega
 refine tkx (i := 6) (v := .int .i64 (IntKind.i64.wrap ((x : Int) + (y : Int)))) hS4 ?_ ?_
 ·rintro w' ⟨b0, b1, b2, b3, b4, b5⟩
  go_simp
  try with_reducible rfl
 try simp only [Act.put, zq1, zq2, zq3, zq4, zq5, zq6]
 rw [e1]
 clear e1
 have e2 : min ((x + y : Nat) : Int) 1000000000 = ((min (x + y) 1000000000 : Nat) : Int) := by omega
 refine tkx (i := 7) (v := .int .i64 (min ((x + y : Nat) : Int) 1000000000)) hS4 ?_ ?_
 ·rintro w' ⟨b0, b1, b2, b3, b4, b5⟩
  go_simp
  try with_reducible rfl
 try simp only [Act.put, zq1, zq2, zq3, zq4, zq5, zq6]
 rw [e2]
 clear e2
 have HE := Lib.hid hR4.below
 clear hS hS1 hS2 hS3 hS4 hR1 hR2 hR3 hR4 hB0d
 refine anyX_last (by kernel_rfl) (by kernel_rfl) rfl rfl ?_
 try simp only [zq1, zq2, zq3]
 go_simp
 try apply_assumption
 go_wp2_with fail
 go_ret
 exact ⟨congrArg (fun x : Nat => Ending.returned (.int .i64 (x : Int))) (show min (x + y) 1000000000 = min (sizeC a + sizeC b) 1000000000 by rw [HX.out, HY.out]), HE.out⟩
theorem ssize_5 (a b : Pat) (lo hi wt : Int) (ha : SizeSpec a) (hb : SizeSpec b) (w : World) (S : Nat -> Prop) (v : Value) (hT : TreeV true w S v (.mk 5 lo hi wt [] [a.tree, b.tree])) : Calls Tryz.prog 20 #[v] w (TellsN w (min (sizeC a + sizeC b) 1000000000 : Nat)) := by
 obtain ⟨nm, A, n, c, rfl, hnm, hk⟩ := hT.six_
 have hn1 : n <= 1000 := by have := hk.1; simp at this; omega
 have hkk := fun W (hb : Below w.heap.size w W) => hk.bel hb
 have HK := Lib.hid hkk
 have hB0 := BoxQ.mk' w 33 #[.int .i64 5, .int .i64 lo, .int .i64 hi, .int .i64 wt, .string nm, .slice A n c]
 have hRf : ∀ W : World, BoxQ w 33 #[.int .i64 5, .int .i64 lo, .int .i64 hi, .int .i64 wt, .string nm, .slice A n c] W -> (fun w' : World => w'.cell? ⟨w.heap.size, 0, none⟩ = some (.int .i64 5) /\ w'.cell? ⟨w.heap.size, 1, none⟩ = some (.int .i64 lo) /\ w'.cell? ⟨w.heap.size, 2, none⟩ = some (.int .i64 hi) /\ w'.cell? ⟨w.heap.size, 3, none⟩ = some (.int .i64 wt) /\ w'.cell? ⟨w.heap.size, 4, none⟩ = some (.string nm) /\ w'.cell? ⟨w.heap.size, 5, none⟩ = some (.slice A n c)) W := fun W hW => ⟨Blk.cell hW.a 0, Blk.cell hW.a 1, Blk.cell hW.a 2, Blk.cell hW.a 3, Blk.cell hW.a 4, Blk.cell hW.a 5⟩
 have HB0 := Lib.hid hB0; have HRF := Lib.hid hRf; have HN1 := Lib.hid hn1
 clear hB0 hRf hk hkk hT hnm
 have HA := Lib.hid ha; have HB := Lib.hid hb; have la := sizeC_le a; have lb := sizeC_le b
 clear ha hb
 go_enter Tryz.func20, Tryz.ntmps20
 go_wp2_with fail
 have hB0d := HB0.out.drew
 refine region_x 8 (fun w' : World => w'.cell? ⟨w.heap.size, 0, none⟩ = some (.int .i64 5) /\ w'.cell? ⟨w.heap.size, 1, none⟩ = some (.int .i64 lo) /\ w'.cell? ⟨w.heap.size, 2, none⟩ = some (.int .i64 hi) /\ w'.cell? ⟨w.heap.size, 3, none⟩ = some (.int .i64 wt) /\ w'.cell? ⟨w.heap.size, 4, none⟩ = some (.string nm) /\ w'.cell? ⟨w.heap.size, 5, none⟩ = some (.slice A n c)) (by kernel_rfl) ?_
 have hS := HRF.out _ hB0d
 refine tkx (i := 0) (v := ?_) hS ?_ ?_
 rotate_left
 ·rintro w' ⟨b0, b1, b2, b3, b4, b5⟩
  go_simp
  try with_reducible rfl
 try simp only [Act.put, zq1, zq2, zq3, zq4, zq5, zq6]
 refine tkx (i := 3) (v := ?_) hS ?_ ?_
 rotate_left
 ·rintro w' ⟨b0, b1, b2, b3, b4, b5⟩
  go_simp
  try with_reducible rfl
 try simp only [Act.put, zq1, zq2, zq3, zq4, zq5, zq6]
 refine anyX_g (i := 1) (by kernel_rfl) (by decide) rfl (by rfl) ?_
 intro K hK
 try simp only [zq1, zq2, zq3]
 refine wp_enterE #[.agg #[.int .i64 5, .int .i64 lo, .int .i64 hi, .int .i64 wt, .string nm, .slice A n c], .int .i64 0] Tryz.func45 (by kernel_rfl) (by kernel_rfl) ?_ (schild_ok _ S 5 lo hi wt nm A n c [a.tree, b.tree] 0 (by simp) (HK.out _ hB0d.below) 0 rfl HN1.out) ?_
 ·go_simp
 rintro e w1 ⟨va, rfl, hva, hb1⟩
 refine ⟨_, rfl, ?_⟩
 have hR1 := hB0d.bel hb1
 have hS1 := HRF.out _ hR1
 have hca := HA.out _ _ _ hva
 clear hb1 hva
 refine hK _ _ hS1 ?_
 clear hK
 try simp only [Act.put, zq1, zq2, zq3, zq4, zq5, zq6]
 refine anyX_g (i := 2) (by kernel_rfl) (by decide) rfl (by rfl) ?_
 intro K hK
 try simp only [zq1, zq2, zq3]
 refine wp_enterE #[va] Tryz.func20 (by kernel_rfl) (by kernel_rfl) ?_ (hca) ?_
 ·go_simp
 rintro e w2 ⟨rfl, hb2⟩
 refine ⟨_, rfl, ?_⟩
 have hR2 := hR1.bel hb2
 have hS2 := HRF.out _ hR2
 clear hb2 hca
 refine hK _ _ hS2 ?_
 clear hK
 try simp only [Act.put, zq1, zq2, zq3, zq4, zq5, zq6]
 refine anyX_g (i := 4) (by kernel_rfl) (by decide) rfl (by rfl) ?_
 intro K hK
 try simp only [zq1, zq2, zq3]
 refine wp_enterE #[.agg #[.int .i64 5, .int .i64 lo, .int .i64 hi, .int .i64 wt, .string nm, .slice A n c], .int .i64 1] Tryz.func45 (by kernel_rfl) (by kernel_rfl) ?_ (schild_ok _ S 5 lo hi wt nm A n c [a.tree, b.tree] 1 (by simp) (HK.out _ hR2.below) 1 rfl HN1.out) ?_
 ·go_simp
 rintro e w3 ⟨vb, rfl, hvb, hb3⟩
 refine ⟨_, rfl, ?_⟩
 have hR3 := hR2.bel hb3
 have hS3 := HRF.out _ hR3
 have hcb := HB.out _ _ _ hvb
 clear hb3 hvb
 refine hK _ _ hS3 ?_
 clear hK
 try simp only [Act.put, zq1, zq2, zq3, zq4, zq5, zq6]
 refine anyX_g (i := 5) (by kernel_rfl) (by decide) rfl (by rfl) ?_
 intro K hK
 try simp only [zq1, zq2, zq3]
 refine wp_enterE #[vb] Tryz.func20 (by kernel_rfl) (by kernel_rfl) ?_ (hcb) ?_
 ·go_simp
 rintro e w4 ⟨rfl, hb4⟩
 refine ⟨_, rfl, ?_⟩
 have hR4 := hR3.bel hb4
 have hS4 := HRF.out _ hR4
 clear hb4 hcb
 refine hK _ _ hS4 ?_
 clear hK
 try simp only [Act.put, zq1, zq2, zq3, zq4, zq5, zq6]
 obtain ⟨x, hx⟩ : ∃ x, sizeC a = x := ⟨_, rfl⟩
 obtain ⟨y, hy⟩ : ∃ x, sizeC b = x := ⟨_, rfl⟩
 rw [hx] at la ⊢
 rw [hy] at lb ⊢
 have HX := Lib.hid hx; have HY := Lib.hid hy
 clear hx hy
 have e1 : IntKind.i64.wrap ((x : Int) + (y : Int)) = ((x + y : Nat) : Int) := by rw [IntWalk.i64_in _ (by omega)]; omega
 refine tkx (i := 6) (v := .int .i64 (IntKind.i64.wrap ((x : Int) + (y : Int)))) hS4 ?_ ?_
 ·rintro w' ⟨b0, b1, b2, b3, b4, b5⟩
  go_simp
  try with_reducible rfl
 try simp only [Act.put, zq1, zq2, zq3, zq4, zq5, zq6]
 rw [e1]
 clear e1
 have e2 : min ((x + y : Nat) : Int) 1000000000 = ((min (x + y) 1000000000 : Nat) : Int) := by omega
 refine tkx (i := 7) (v := .int .i64 (min ((x + y : Nat) : Int) 1000000000)) hS4 ?_ ?_
 ·rintro w' ⟨b0, b1, b2, b3, b4, b5⟩
  go_simp
  try with_reducible rfl
 try simp only [Act.put, zq1, zq2, zq3, zq4, zq5, zq6]
 rw [e2]
 clear e2
 have HE := Lib.hid hR4.below
 clear hS hS1 hS2 hS3 hS4 hR1 hR2 hR3 hR4 hB0d
 refine anyX_last (by kernel_rfl) (by kernel_rfl) rfl rfl ?_
 try simp only [zq1, zq2, zq3]
 go_simp
 try apply_assumption
 go_wp2_with fail
 go_ret
 exact ⟨congrArg (fun x : Nat => Ending.returned (.int .i64 (x : Int))) (show min (x + y) 1000000000 = min (sizeC a + sizeC b) 1000000000 by rw [HX.out, HY.out]), HE.out⟩
theorem ssize_6 (a : Pat) (lo hi wt : Int) (ha : SizeSpec a) (w : World) (S : Nat -> Prop) (v : Value) (hT : TreeV true w S v (.mk 6 lo hi wt [] [a.tree])) : Calls Tryz.prog 20 #[v] w (TellsN w (sizeC a : Nat)) := by
 obtain ⟨nm, A, n, c, rfl, hnm, hk⟩ := hT.six_
 have hn1 : n <= 1000 := by have := hk.1; simp at this; omega
 have hkk := fun W (hb : Below w.heap.size w W) => hk.bel hb
 have HK := Lib.hid hkk
 have hB0 := BoxQ.mk' w 33 #[.int .i64 6, .int .i64 lo, .int .i64 hi, .int .i64 wt, .string nm, .slice A n c]
 have hRf : ∀ W : World, BoxQ w 33 #[.int .i64 6, .int .i64 lo, .int .i64 hi, .int .i64 wt, .string nm, .slice A n c] W -> (fun w' : World => w'.cell? ⟨w.heap.size, 0, none⟩ = some (.int .i64 6) /\ w'.cell? ⟨w.heap.size, 1, none⟩ = some (.int .i64 lo) /\ w'.cell? ⟨w.heap.size, 2, none⟩ = some (.int .i64 hi) /\ w'.cell? ⟨w.heap.size, 3, none⟩ = some (.int .i64 wt) /\ w'.cell? ⟨w.heap.size, 4, none⟩ = some (.string nm) /\ w'.cell? ⟨w.heap.size, 5, none⟩ = some (.slice A n c)) W := fun W hW => ⟨Blk.cell hW.a 0, Blk.cell hW.a 1, Blk.cell hW.a 2, Blk.cell hW.a 3, Blk.cell hW.a 4, Blk.cell hW.a 5⟩
 have HB0 := Lib.hid hB0; have HRF := Lib.hid hRf; have HN1 := Lib.hid hn1
 clear hB0 hRf hk hkk hT hnm
 have HA := Lib.hid ha
 clear ha
 go_enter Tryz.func20, Tryz.ntmps20
 have hS := HRF.out _ HB0.out
 obtain ⟨b0, b1, b2, b3, b4, b5⟩ := hS
 go_wp2_with fail
 refine (schild_ok _ S 6 lo hi wt nm A n c [a.tree] 0 (by simp) (HK.out _ HB0.out.below) 0 rfl HN1.out).mono ?_
 rintro e w1 ⟨va, rfl, hva, hb1⟩
 have hca := HA.out _ _ _ hva
 have HCA := Lib.hid hca; have HR1 := Lib.hid (HB0.out.bel hb1).below; have hz := hb1
 clear hca hva b0 b1 b2 b3 b4 b5 hz hb1
 go_wp2_with fail
 refine HCA.out.mono ?_
 rintro e w2 ⟨rfl, hb2⟩
 have HE := Lib.hid (HR1.out.trans (hb2.mono HR1.out.size))
 clear hb2
 go_wp2_with fail
 go_ret
 exact ⟨rfl, HE.out⟩
theorem ssize_8 (a : Pat) (lo hi wt : Int) (ha : SizeSpec a) (w : World) (S : Nat -> Prop) (v : Value) (hT : TreeV true w S v (.mk 8 lo hi wt [] [a.tree])) : Calls Tryz.prog 20 #[v] w (TellsN w (sizeC a : Nat)) := by
 obtain ⟨nm, A, n, c, rfl, hnm, hk⟩ := hT.six_
 have hn1 : n <= 1000 := by have := hk.1; simp at this; omega
 have hkk := fun W (hb : Below w.heap.size w W) => hk.bel hb
 have HK := Lib.hid hkk
 have hB0 := BoxQ.mk' w 33 #[.int .i64 8, .int .i64 lo, .int .i64 hi, .int .i64 wt, .string nm, .slice A n c]
 have hRf : ∀ W : World, BoxQ w 33 #[.int .i64 8, .int .i64 lo, .int .i64 hi, .int .i64 wt, .string nm, .slice A n c] W -> (fun w' : World => w'.cell? ⟨w.heap.size, 0, none⟩ = some (.int .i64 8) /\ w'.cell? ⟨w.heap.size, 1, none⟩ = some (.int .i64 lo) /\ w'.cell? ⟨w.heap.size, 2, none⟩ = some (.int .i64 hi) /\ w'.cell? ⟨w.heap.size, 3, none⟩ = some (.int .i64 wt) /\ w'.cell? ⟨w.heap.size, 4, none⟩ = some (.string nm) /\ w'.cell? ⟨w.heap.size, 5, none⟩ = some (.slice A n c)) W := fun W hW => ⟨Blk.cell hW.a 0, Blk.cell hW.a 1, Blk.cell hW.a 2, Blk.cell hW.a 3, Blk.cell hW.a 4, Blk.cell hW.a 5⟩
 have HB0 := Lib.hid hB0; have HRF := Lib.hid hRf; have HN1 := Lib.hid hn1
 clear hB0 hRf hk hkk hT hnm
 have HA := Lib.hid ha
 clear ha
 go_enter Tryz.func20, Tryz.ntmps20
 have hS := HRF.out _ HB0.out
 obtain ⟨b0, b1, b2, b3, b4, b5⟩ := hS
 go_wp2_with fail
 refine (schild_ok _ S 8 lo hi wt nm A n c [a.tree] 0 (by simp) (HK.out _ HB0.out.below) 0 rfl HN1.out).mono ?_
 rintro e w1 ⟨va, rfl, hva, hb1⟩
 have hca := HA.out _ _ _ hva
 have HCA := Lib.hid hca; have HR1 := Lib.hid (HB0.out.bel hb1).below; have hz := hb1
 clear hca hva b0 b1 b2 b3 b4 b5 hz hb1
 go_wp2_with fail
 refine HCA.out.mono ?_
 rintro e w2 ⟨rfl, hb2⟩
 have HE := Lib.hid (HR1.out.trans (hb2.mono HR1.out.size))
 clear hb2
 go_wp2_with fail
 go_ret
 exact ⟨rfl, HE.out⟩
theorem ssize_7 (a : Pat) (lo wt : Int) (hi : Nat) (hhi : hi <= 1000000) (ha : SizeSpec a) (w : World) (S : Nat -> Prop) (v : Value) (hT : TreeV true w S v (.mk 7 lo hi wt [] [a.tree])) : Calls Tryz.prog 20 #[v] w (TellsN w (prodC (sizeC a) hi 1000000000 : Nat)) := by
 obtain ⟨nm, A, n, c, rfl, hnm, hk⟩ := hT.six_
 have hn1 : n <= 1000 := by have := hk.1; simp at this; omega
 have hkk := fun W (hb : Below w.heap.size w W) => hk.bel hb
 have HK := Lib.hid hkk
 have hB0 := BoxQ.mk' w 33 #[.int .i64 7, .int .i64 lo, .int .i64 (hi : Nat), .int .i64 wt, .string nm, .slice A n c]
 have hRf : ∀ W : World, BoxQ w 33 #[.int .i64 7, .int .i64 lo, .int .i64 (hi : Nat), .int .i64 wt, .string nm, .slice A n c] W -> (fun w' : World => w'.cell? ⟨w.heap.size, 0, none⟩ = some (.int .i64 7) /\ w'.cell? ⟨w.heap.size, 1, none⟩ = some (.int .i64 lo) /\ w'.cell? ⟨w.heap.size, 2, none⟩ = some (.int .i64 (hi : Nat)) /\ w'.cell? ⟨w.heap.size, 3, none⟩ = some (.int .i64 wt) /\ w'.cell? ⟨w.heap.size, 4, none⟩ = some (.string nm) /\ w'.cell? ⟨w.heap.size, 5, none⟩ = some (.slice A n c)) W := fun W hW => ⟨Blk.cell hW.a 0, Blk.cell hW.a 1, Blk.cell hW.a 2, Blk.cell hW.a 3, Blk.cell hW.a 4, Blk.cell hW.a 5⟩
 have HB0 := Lib.hid hB0; have HRF := Lib.hid hRf; have HN1 := Lib.hid hn1
 clear hB0 hRf hk hkk hT hnm
 have HA := Lib.hid ha; have la := sizeC_le a
 clear ha
 go_enter Tryz.func20, Tryz.ntmps20
 go_wp2_with fail
 have hB0d := HB0.out.drew
 refine region_x 6 (fun w' : World => w'.cell? ⟨w.heap.size, 0, none⟩ = some (.int .i64 7) /\ w'.cell? ⟨w.heap.size, 1, none⟩ = some (.int .i64 lo) /\ w'.cell? ⟨w.heap.size, 2, none⟩ = some (.int .i64 (hi : Nat)) /\ w'.cell? ⟨w.heap.size, 3, none⟩ = some (.int .i64 wt) /\ w'.cell? ⟨w.heap.size, 4, none⟩ = some (.string nm) /\ w'.cell? ⟨w.heap.size, 5, none⟩ = some (.slice A n c)) (by kernel_rfl) ?_
 have hS := HRF.out _ hB0d
 refine tkx (i := 0) (v := ?_) hS ?_ ?_
 rotate_left
 ·rintro w' ⟨b0, b1, b2, b3, b4, b5⟩
  go_simp
  try with_reducible rfl
 try simp only [Act.put, zq1, zq2, zq3, zq4, zq5, zq6]
 refine tkx (i := 3) (v := ?_) hS ?_ ?_
 rotate_left
 ·rintro w' ⟨b0, b1, b2, b3, b4, b5⟩
  go_simp
  try with_reducible rfl
 try simp only [Act.put, zq1, zq2, zq3, zq4, zq5, zq6]
 refine tkx (i := 4) (v := ?_) hS ?_ ?_
 rotate_left
 ·rintro w' ⟨b0, b1, b2, b3, b4, b5⟩
  go_simp
  try with_reducible rfl
 try simp only [Act.put, zq1, zq2, zq3, zq4, zq5, zq6]
 refine anyX_g (i := 1) (by kernel_rfl) (by decide) rfl (by rfl) ?_
 intro K hK
 try simp only [zq1, zq2, zq3]
 refine wp_enterE #[.agg #[.int .i64 7, .int .i64 lo, .int .i64 (hi : Nat), .int .i64 wt, .string nm, .slice A n c], .int .i64 0] Tryz.func45 (by kernel_rfl) (by kernel_rfl) ?_ (schild_ok _ S 7 lo hi wt nm A n c [a.tree] 0 (by simp) (HK.out _ hB0d.below) 0 rfl HN1.out) ?_
 ·go_simp
 rintro e w1 ⟨va, rfl, hva, hb1⟩
 refine ⟨_, rfl, ?_⟩
 have hR1 := hB0d.bel hb1
 have hS1 := HRF.out _ hR1
 have hca := HA.out _ _ _ hva
 clear hb1 hva
 refine hK _ _ hS1 ?_
 clear hK
 try simp only [Act.put, zq1, zq2, zq3, zq4, zq5, zq6]
 refine anyX_g (i := 2) (by kernel_rfl) (by decide) rfl (by rfl) ?_
 intro K hK
 try simp only [zq1, zq2, zq3]
 refine wp_enterE #[va] Tryz.func20 (by kernel_rfl) (by kernel_rfl) ?_ (hca) ?_
 ·go_simp
 rintro e w2 ⟨rfl, hb2⟩
 refine ⟨_, rfl, ?_⟩
 have hR2 := hR1.bel hb2
 have hS2 := HRF.out _ hR2
 clear hb2 hca
 refine hK _ _ hS2 ?_
 clear hK
 try simp only [Act.put, zq1, zq2, zq3, zq4, zq5, zq6]
 have hpr := sprod_any (sizeC a) hi 1000000000 (by omega) (by omega) (by omega) w2
 refine anyX_g (i := 5) (by kernel_rfl) (by decide) rfl (by rfl) ?_
 intro K hK
 try simp only [zq1, zq2, zq3]
 refine wp_enterE #[.int .i64 (sizeC a : Nat), .int .i64 (hi : Nat), .int .i64 (1000000000 : Nat)] Tryz.func46 (by kernel_rfl) (by kernel_rfl) ?_ (hpr) ?_
 ·go_simp
 rintro e w3 ⟨rfl, rfl⟩
 refine ⟨_, rfl, ?_⟩
 refine hK _ _ hS2 ?_
 clear hK
 try simp only [Act.put, zq1, zq2, zq3, zq4, zq5, zq6]
 have HE := Lib.hid hR2.below
 clear hS hS1 hS2 hR1 hR2 hB0d hpr
 refine anyX_last (by kernel_rfl) (by kernel_rfl) rfl rfl ?_
 try simp only [zq1, zq2, zq3]
 go_simp
 try apply_assumption
 go_wp2_with fail
 go_ret
 exact ⟨rfl, HE.out⟩
def Pat.Hb : Pat -> Prop
 | .cat a b => a.Hb /\ b.Hb
 | .alt a b => a.Hb /\ b.Hb
 | .star a => a.Hb
 | .times a lo hi => a.Hb /\ lo <= hi /\ hi <= 100
 | .weight a w => a.Hb
 | _ => True
theorem Pat.Ok.hb {D : List Bs} {wg : Bool} : ∀ {p : Pat}, p.Ok D wg -> p.Hb
 | .none_, _ => trivial
 | .set s, _ => trivial
 | .any_, _ => trivial
 | .cat a b, h => ⟨Pat.Ok.hb h.1, Pat.Ok.hb h.2⟩
 | .alt a b, h => ⟨Pat.Ok.hb h.1, Pat.Ok.hb h.2⟩
 | .star a, h => Pat.Ok.hb (p := a) h
 | .times a lo hi, h => ⟨Pat.Ok.hb (p := a) h.1, h.2.1, Nat.le_trans h.2.2 (by decide)⟩
 | .weight a w, h => Pat.Ok.hb (p := a) h.1
theorem ssize_ok (p : Pat) (h : p.Hb) : SizeSpec p := by
 induction p with
 | none_ =>
   intro w S v hT
   obtain ⟨nm, A, n, c, rfl, -, -⟩ := TreeV.six_ (show TreeV true w S v (.mk 1 0 0 0 [] []) from hT)
   exact ssize_1 _ _ _ _ _ _ _ w
 | set s =>
   intro w S v hT
   obtain ⟨nm, A, n, c, rfl, -, -⟩ := TreeV.six_ (show TreeV true w S v (.mk 2 0 0 0 s []) from hT)
   exact ssize_2 _ _ _ _ _ _ _ w
 | any_ =>
   intro w S v hT
   obtain ⟨nm, A, n, c, rfl, -, -⟩ := TreeV.six_ (show TreeV true w S v (.mk 3 0 0 0 [] []) from hT)
   exact ssize_3 _ _ _ _ _ _ _ w
 | cat a b iha ihb => exact fun w S v hT => ssize_4 a b _ _ _ (iha h.1) (ihb h.2) w S v hT
 | alt a b iha ihb => exact fun w S v hT => ssize_5 a b _ _ _ (iha h.1) (ihb h.2) w S v hT
 | star a iha => exact fun w S v hT => ssize_6 a _ _ _ (iha h) w S v hT
 | times a lo hi iha => exact fun w S v hT => ssize_7 a _ _ hi (Nat.le_trans h.2.2 (by decide)) (iha h.1) w S v hT
 | weight a wt iha => exact fun w S v hT => ssize_8 a _ _ _ (iha h) w S v hT
end Go.Proofs.YtfccnadbiglagaaGreat
