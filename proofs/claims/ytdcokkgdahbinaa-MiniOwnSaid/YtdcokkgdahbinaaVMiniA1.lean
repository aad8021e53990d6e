/- parts.swap, of a place with itself. parts.swap, of two places. -/
import Derived.Test.YtdcokkgdahbinaaVMiniA
set_option linter.unusedVariables false
set_option linter.unusedSimpArgs false
set_option maxRecDepth 100000
set_option maxHeartbeats 8000000
namespace Go.Proofs.Ytdcokkgdahbinaa
open Go Go.RowKit Go.Proofs
theorem swap_same {w : World} {b B N ga ca gp cp : Nat} {x2 x3 x4 : Value} {A P : Nat -> Nat} {i j : Nat}
  (hb : Blk w b 87 #[sl ga N ca, sl gp N cp, x2, x3, x4])
  (hA : Own w B (sl ga N ca) N (rowN N A)) (hP : Own w B (sl gp N cp) N (rowN N P)) (h1 : b ≠ ga) (h2 : b ≠ gp) (h3 : ga ≠ gp)
  (hij : i = j) (hi : i < N) (hai : A i < N) (hN : N <= 1000000) :
  Calls Try.prog 66 #[.pointer (some ⟨b, 0, none⟩), .int .i64 (i : Int), .int .i64 (j : Int)] w fun e w' => e = .returned (.tuple #[]) /\
   Own w' B (sl ga N ca) N (rowN N (updN (updN A i (A j)) j (A i))) /\ Own w' B (sl gp N cp) N (rowN N (updN (updN P (A j) i) (A i) j)) /\ Fr (fun k => k = ga \/ k = gp) w w' := by
  subst hij
  have hj := hi
  have haj := hai
  have b0 := hb.cell 0
  have b1 := hb.cell 1
  simp only [List.getElem?_toArray, List.getElem?_cons_zero, List.getElem?_cons_succ] at b0 b1
  have a1 := hA.cellAt hi
  have f1 := hA.frozen i
  obtain ⟨cA1, cA2, -, gA⟩ := hA.capN
  obtain ⟨cP1, cP2, -, gP⟩ := hP.capN
  unfold maxLen at cA2 cP2
  have i0 : (0 : Int) <= (i : Int) := Int.natCast_nonneg _
  have i1 : (i : Int) < (N : Int) := by omega
  have ti : decide (i < N) = true := by simpa using hi
  have HB := Lib.hid hb; have HA := Lib.hid hA; have HP := Lib.hid hP; have HAI := Lib.hid hai; have HAJ := Lib.hid haj
  clear hb hA hP hai haj
  generalize hx : A i = x at *
  have HX := Lib.hid hx; clear hx
  go_enter Try.func66, Try.ntmps66
  go_wp2_with fail
  obtain ⟨W, hW⟩ : ∃ W, ((w.setCell ⟨ga, i, none⟩ (.int .i64 (x : Int))).setCell ⟨ga, i, none⟩ (.int .i64 (x : Int))).drew = W := ⟨_, rfl⟩
  have HA1 : Hid (Own W B (sl ga N ca) N (rowN N (updN (updN A i x) i x))) := Lib.hid (by rw [<- hW]; exact Own.drew ((HA.out.storeN i x).storeN i x))
  have HP1 : Hid (Own W B (sl gp N cp) N (rowN N P)) := Lib.hid (by rw [<- hW]; exact Own.drew ((HP.out.farN (m := 0) (p := ⟨ga, i, none⟩) (fun e => h3 e.symm) _).farN (m := 0) (p := ⟨ga, i, none⟩) (fun e => h3 e.symm) _))
  have HB1 : Hid (Blk W b 87 #[sl ga N ca, sl gp N cp, x2, x3, x4]) := Lib.hid (by rw [<- hW]; exact Blk.drew ((HB.out.far (p := ⟨ga, i, none⟩) h1 _).far (p := ⟨ga, i, none⟩) h1 _))
  have HF1 : Hid (Fr (fun k => k = ga \/ k = gp) w W) := Lib.hid (by rw [<- hW]; exact (((Fr.refl _ w).set_ (p := ⟨ga, i, none⟩) (.inl (.inl rfl)) _).set_ (p := ⟨ga, i, none⟩) (.inl (.inl rfl)) _).drew)
  have tx : decide (x < N) = true := by simpa using HAI.out
  have x0 : (0 : Int) <= (x : Int) := Int.natCast_nonneg _
  have x1 : (x : Int) < (N : Int) := by have := HAI.out; omega
  have d0 : W.cell? ⟨b, 0, none⟩ = some (sl ga N ca) := by have := HB1.out.cell 0; simpa using this
  have d1 : W.cell? ⟨b, 1, none⟩ = some (sl gp N cp) := by have := HB1.out.cell 1; simpa using this
  have d4 := HP1.out.cellAt HAI.out
  have f3 := HP1.out.frozen x
  have d3 : W.cell? ⟨ga, i, none⟩ = some (.int .i64 (x : Int)) := by have := HA1.out.cellAt hj; rw [updN_at] at this; exact this
  have HR : Hid (Own ((W.setCell ⟨gp, x, none⟩ (.int .i64 (i : Int))).setCell ⟨gp, x, none⟩ (.int .i64 (i : Int))).drew B (sl gp N cp) N (rowN N (updN (updN P x i) x i)) /\ Own ((W.setCell ⟨gp, x, none⟩ (.int .i64 (i : Int))).setCell ⟨gp, x, none⟩ (.int .i64 (i : Int))).drew B (sl ga N ca) N (rowN N (updN (updN A i x) i x)) /\ Fr (fun k => k = ga \/ k = gp) w ((W.setCell ⟨gp, x, none⟩ (.int .i64 (i : Int))).setCell ⟨gp, x, none⟩ (.int .i64 (i : Int))).drew) :=
   Lib.hid ⟨Own.drew ((HP1.out.storeN x i).storeN x i), Own.drew ((HA1.out.farN (m := 0) (p := ⟨gp, x, none⟩) h3 _).farN (m := 0) (p := ⟨gp, x, none⟩) h3 _), ((HF1.out.set_ (p := ⟨gp, x, none⟩) (.inl (.inr rfl)) _).set_ (p := ⟨gp, x, none⟩) (.inl (.inr rfl)) _).drew⟩
  have HW := Lib.hid hW
  clear hW HA1 HP1 HB1 HF1 HA HP HB HAI HAJ
  go_region
  rw [HW.out]
  clear a1 b0 b1 f1
  go_wp2_with fail
  go_region
  go_wp2_with fail
  go_end0
  exact ⟨rfl, HR.out.2.1, HR.out.1, HR.out.2.2⟩
end Go.Proofs.Ytdcokkgdahbinaa
namespace Go.Proofs.Ytdcokkgdahbinaa
open Go Go.RowKit Go.Proofs
theorem swap_diff {w : World} {b B N ga ca gp cp : Nat} {x2 x3 x4 : Value} {A P : Nat -> Nat} {i j : Nat}
  (hb : Blk w b 87 #[sl ga N ca, sl gp N cp, x2, x3, x4])
  (hA : Own w B (sl ga N ca) N (rowN N A)) (hP : Own w B (sl gp N cp) N (rowN N P)) (h1 : b ≠ ga) (h2 : b ≠ gp) (h3 : ga ≠ gp)
  (e : ¬ i = j) (hxy : ¬ A i = A j) (hi : i < N) (hj : j < N) (hai : A i < N) (haj : A j < N) (hN : N <= 1000000) :
  Calls Try.prog 66 #[.pointer (some ⟨b, 0, none⟩), .int .i64 (i : Int), .int .i64 (j : Int)] w fun e w' => e = .returned (.tuple #[]) /\
   Own w' B (sl ga N ca) N (rowN N (updN (updN A i (A j)) j (A i))) /\ Own w' B (sl gp N cp) N (rowN N (updN (updN P (A j) i) (A i) j)) /\ Fr (fun k => k = ga \/ k = gp) w w' := by
  have b0 := hb.cell 0
  have b1 := hb.cell 1
  simp only [List.getElem?_toArray, List.getElem?_cons_zero, List.getElem?_cons_succ] at b0 b1
  have a1 := hA.cellAt hi
  have a2 := hA.cellAt hj
  have f1 := hA.frozen i
  have f2 := hA.frozen j
  obtain ⟨cA1, cA2, -, gA⟩ := hA.capN
  obtain ⟨cP1, cP2, -, gP⟩ := hP.capN
  unfold maxLen at cA2 cP2
  have i0 : (0 : Int) <= (i : Int) := Int.natCast_nonneg _
  have i1 : (i : Int) < (N : Int) := by omega
  have j0 : (0 : Int) <= (j : Int) := Int.natCast_nonneg _
  have j1 : (j : Int) < (N : Int) := by omega
  have ti : decide (i < N) = true := by simpa using hi
  have tj : decide (j < N) = true := by simpa using hj
  have HB := Lib.hid hb; have HA := Lib.hid hA; have HP := Lib.hid hP; have HAI := Lib.hid hai; have HAJ := Lib.hid haj
  clear hb hA hP hai haj
  generalize hx : A i = x at *
  generalize hy : A j = y at *
  have HX := Lib.hid hx; have HY := Lib.hid hy; clear hx hy
  go_enter Try.func66, Try.ntmps66
  go_wp2_with fail
  obtain ⟨W, hW⟩ : ∃ W, ((w.setCell ⟨ga, i, none⟩ (.int .i64 (y : Int))).setCell ⟨ga, j, none⟩ (.int .i64 (x : Int))).drew = W := ⟨_, rfl⟩
  have HA1 : Hid (Own W B (sl ga N ca) N (rowN N (updN (updN A i y) j x))) := Lib.hid (by rw [<- hW]; exact Own.drew ((HA.out.storeN i y).storeN j x))
  have HP1 : Hid (Own W B (sl gp N cp) N (rowN N P)) := Lib.hid (by rw [<- hW]; exact Own.drew ((HP.out.farN (m := 0) (p := ⟨ga, i, none⟩) (fun e => h3 e.symm) _).farN (m := 0) (p := ⟨ga, j, none⟩) (fun e => h3 e.symm) _))
  have HB1 : Hid (Blk W b 87 #[sl ga N ca, sl gp N cp, x2, x3, x4]) := Lib.hid (by rw [<- hW]; exact Blk.drew ((HB.out.far (p := ⟨ga, i, none⟩) h1 _).far (p := ⟨ga, j, none⟩) h1 _))
  have HF1 : Hid (Fr (fun k => k = ga \/ k = gp) w W) := Lib.hid (by rw [<- hW]; exact (((Fr.refl _ w).set_ (p := ⟨ga, i, none⟩) (.inl (.inl rfl)) _).set_ (p := ⟨ga, j, none⟩) (.inl (.inl rfl)) _).drew)
  have tx : decide (x < N) = true := by simpa using HAI.out
  have ty : decide (y < N) = true := by simpa using HAJ.out
  have x0 : (0 : Int) <= (x : Int) := Int.natCast_nonneg _
  have x1 : (x : Int) < (N : Int) := by have := HAI.out; omega
  have y0 : (0 : Int) <= (y : Int) := Int.natCast_nonneg _
  have y1 : (y : Int) < (N : Int) := by have := HAJ.out; omega
  have d0 : W.cell? ⟨b, 0, none⟩ = some (sl ga N ca) := by have := HB1.out.cell 0; simpa using this
  have d1 : W.cell? ⟨b, 1, none⟩ = some (sl gp N cp) := by have := HB1.out.cell 1; simpa using this
  have d4 := HP1.out.cellAt HAI.out
  have d5 := HP1.out.cellAt HAJ.out
  have f3 := HP1.out.frozen x
  have f4 := HP1.out.frozen y
  have d3 : W.cell? ⟨ga, j, none⟩ = some (.int .i64 (x : Int)) := by have := HA1.out.cellAt hj; rw [updN_at] at this; exact this
  have d2 : W.cell? ⟨ga, i, none⟩ = some (.int .i64 (y : Int)) := by
   have := HA1.out.cellAt hi
   rw [updN_ne _ _ e, updN_at] at this; exact this
  have HR : Hid (Own ((W.setCell ⟨gp, y, none⟩ (.int .i64 (i : Int))).setCell ⟨gp, x, none⟩ (.int .i64 (j : Int))).drew B (sl gp N cp) N (rowN N (updN (updN P y i) x j)) /\ Own ((W.setCell ⟨gp, y, none⟩ (.int .i64 (i : Int))).setCell ⟨gp, x, none⟩ (.int .i64 (j : Int))).drew B (sl ga N ca) N (rowN N (updN (updN A i y) j x)) /\ Fr (fun k => k = ga \/ k = gp) w ((W.setCell ⟨gp, y, none⟩ (.int .i64 (i : Int))).setCell ⟨gp, x, none⟩ (.int .i64 (j : Int))).drew) :=
   Lib.hid ⟨Own.drew ((HP1.out.storeN y i).storeN x j), Own.drew ((HA1.out.farN (m := 0) (p := ⟨gp, y, none⟩) h3 _).farN (m := 0) (p := ⟨gp, x, none⟩) h3 _), ((HF1.out.set_ (p := ⟨gp, y, none⟩) (.inl (.inr rfl)) _).set_ (p := ⟨gp, x, none⟩) (.inl (.inr rfl)) _).drew⟩
  have HW := Lib.hid hW
  clear hW HA1 HP1 HB1 HF1 HA HP HB HAI HAJ
  have e' : ¬ j = i := fun q => e q.symm
  have q' : ¬ y = x := fun r => hxy r.symm
  go_region
  rw [HW.out]
  clear a1 a2 b0 b1 f1 f2
  go_wp2_with fail
  go_region
  go_wp2_with fail
  go_end0
  exact ⟨rfl, HR.out.2.1, HR.out.1, HR.out.2.2⟩
end Go.Proofs.Ytdcokkgdahbinaa
