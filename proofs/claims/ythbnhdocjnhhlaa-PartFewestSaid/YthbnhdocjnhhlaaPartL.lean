/- Contract of the law texts' known: the chapter's example. -/
import Derived.Test.YthbnhdocjnhhlaaPartK
import Derived.Test.YthbnhdocjnhhlaaPartH
import Derived.Test.YthbnhdocjnhhlaaPartJ
namespace Go.Proofs.Ythbnhdocjnhhlaa
open Go Go.RowKit
set_option linter.unusedVariables false

theorem cuts0 : cutsL [] = [0] := (cutsL_eq (c := [0]) (by simp) (fun n => by simp [edgesL])).symm
theorem lets0 : letsL [] = [0] := by unfold letsL keysL; rw [cuts0]; decide
theorem cuts1 : cutsL [[(5, 9)]] = [0, 5, 10] := (cutsL_eq (c := [0, 5, 10]) (by decide) (fun n => by simp [edgesL, edge1])).symm
theorem keys1 : keysL [[(5, 9)]] = [[false], [true], [false]] := by unfold keysL; rw [cuts1]; decide
theorem kinds1 : kindsL [[(5, 9)]] = [[false], [true]] := by unfold kindsL; rw [keys1]; decide
theorem lets1 : letsL [[(5, 9)]] = [0, 1, 0] := by unfold letsL; rw [keys1]; decide
theorem in1 : inRows [[(5, 9)]] 1 = [[false, true]] := by unfold inRows inRow; rw [kinds1]; decide
theorem rt1 : RtAll [[(5, 9)]] := fun l hl => by
  obtain rfl : l = [(5, 9)] := by simpa using hl
  decide
theorem rt0 : RtAll [] := fun l hl => by cases hl
theorem readsL_nil (w : World) : ReadsL w (.slice none 0 0) 0 [] := (show OwnSS w 0 (.slice none 0 0) 0 [] from OwnLL.nil _ _ _ _ _).readsL
/-- A row of one set of one range. -/
theorem readsL_one {W : World} {g h : Nat} {x y : Int} (h1 : W.cell? ⟨g, 0, none⟩ = some (.int .i64 x)) (h2 : W.cell? ⟨g, 1, none⟩ = some (.int .i64 y)) (h3 : W.cell? ⟨h, 0, none⟩ = some (.slice (some ⟨g, 0, none⟩) 1 1)) :
    ReadsL W (.slice (some ⟨h, 0, none⟩) 1 1) 1 [[(x, y)]] := by
  refine ⟨rfl, _, 1, rfl, Nat.le_refl _, by unfold maxLen; omega, fun e => (by cases e), fun i hi => ⟨h, 0, .slice (some ⟨g, 0, none⟩) 1 1, rfl, ?_, ?_⟩⟩
  · obtain rfl : i = 0 := by omega
    exact h3
  · obtain rfl : i = 0 := by omega
    exact reads_new h1 h2

theorem one_set (w : World) (x y : Int) (W : World) (hW : W = ((w.alloc (.cells #[.int .i64 x, .int .i64 y] 44)).alloc (.cells #[.slice (some ⟨w.heap.size, 0, none⟩) 1 1] 37))) :
    ReadsL W (.slice (some ⟨w.heap.size + 1, 0, none⟩) 1 1) 1 [[(x, y)]] ∧ Below w.heap.size w W := by
  subst hW
  refine ⟨readsL_one (keep_alloc (new2 w _ _ _).1 _) (keep_alloc (new2 w _ _ _).2 _) ?_, ((Below.refl _ w).alloc (Nat.le_refl _) _).alloc (by simp) _⟩
  have := new1 (w.alloc (.cells #[.int .i64 x, .int .i64 y] 44)) (.slice (some ⟨w.heap.size, 0, none⟩) 1 1) 37
  rw [World.size_alloc] at this
  exact this

set_option maxRecDepth 1000000 in
set_option maxHeartbeats 8000000 in
theorem known4_any (w : World) : Calls Try.prog 11 #[] w (Says w true) := by
  go_enter Try.func11, Try.ntmps11
  go_wp2_with fail
  have hq := cuts_any (readsL_nil w) rt0 (by omega)
  rw [cuts0, lets0] at hq
  refine hq.mono ?_
  rintro e w1 ⟨v1, u1, rfl, h1, h2, h3⟩
  have OC := Lib.hid h1; have OL := Lib.hid h2; have B1 := Lib.hid h3
  clear h1 h2 h3 hq
  rcases OC.out.form with ⟨_, h0, _⟩ | ⟨gc, cc, rfl, -, hgc, -, hcc⟩
  · cases h0
  rcases OL.out.form with ⟨_, h0, _⟩ | ⟨gl, cl, rfl, -, hgl, -, hcl⟩
  · cases h0
  have C0 := Lib.hid (hcc 0 (by decide)); have L0 := Lib.hid (hcl 0 (by decide))
  clear hcc hcl OC OL
  go_wp2_with fail
  obtain ⟨R1, B2⟩ := one_set w1 5 9 _ rfl
  have hq := cuts_any R1 rt1 (by omega)
  rw [cuts1, lets1] at hq
  refine hq.mono ?_
  rintro e w2 ⟨v2, u2, rfl, h1, h2, h3⟩
  have OA := Lib.hid h1; have OB := Lib.hid h2
  have B3 := Lib.hid (B2.trans (h3.mono B2.size))
  clear h1 h2 h3 hq R1 B2
  have RA := Lib.hid OA.out.readsI; have RB := Lib.hid OB.out.readsI
  rcases OA.out.form with ⟨_, h0, _⟩ | ⟨ga, ca, rfl, -, hga, -, hca⟩
  · cases h0
  rcases OB.out.form with ⟨_, h0, _⟩ | ⟨gb, cb, rfl, -, hgb, -, hcb⟩
  · cases h0
  have A1 := Lib.hid (hca 1 (by decide)); have A2 := Lib.hid (hca 2 (by decide))
  have E0 := Lib.hid (hcb 0 (by decide)); have E1 := Lib.hid (hcb 1 (by decide)); have E2 := Lib.hid (hcb 2 (by decide))
  clear hca hcb OA OB
  go_wp2_with fail
  obtain ⟨R3, B4⟩ := one_set w2 5 9 _ rfl
  have hq := in_any R3 rt1 (v := .slice (some ⟨ga, 0, none⟩) 3 ca) (u := .slice (some ⟨gb, 0, none⟩) 3 cb) (m := 3) (by rw [cuts1]; exact (RA.out.alloc _).alloc _) (by rw [lets1]; exact (RB.out.alloc _).alloc _) (by omega) (by omega)
  rw [in1] at hq
  refine hq.mono ?_
  rintro e w3 ⟨v3, rfl, h1, h2⟩
  have OI := Lib.hid h1
  have B5 := Lib.hid (B4.trans (h2.mono B4.size))
  clear h1 h2 hq R3 B4
  rcases OI.out.form with ⟨_, h0, _⟩ | ⟨gi, ci, rfl, -, -, -, -, hci⟩
  · cases h0
  obtain ⟨u, I0, hu⟩ := hci 0 (by decide)
  clear hci OI
  have hu' : OwnB w3 (((w2.alloc (.cells #[.int .i64 5, .int .i64 9] 44)).alloc (.cells #[.slice (some ⟨w2.heap.size, 0, none⟩) 1 1] 37)).heap.size) u 2 [false, true] := hu
  have hul := hu'.len
  rcases hu'.2 with ⟨_, h0⟩ | ⟨gu, cu, cur, rfl, _⟩
  · cases h0
  have U0 := hu'.cellAt 0 (by decide)
  have U1 := hu'.cellAt 1 (by decide)
  clear hu hu' hul
  have RA3 := Lib.hid (RA.out.below B5.out); have RB3 := Lib.hid (RB.out.below B5.out)
  have BW : Hid (Below w.heap.size w w3) := Lib.hid (B1.out.trans ((B3.out.trans (B5.out.mono B3.out.size)).mono B1.out.size))
  have c0 := (B5.out.cell (p := ⟨gc, 0, none⟩) (show gc < w2.heap.size by have := B3.out.size; omega)).trans ((B3.out.cell (p := ⟨gc, 0, none⟩) hgc).trans C0.out)
  have l0 := (B5.out.cell (p := ⟨gl, 0, none⟩) (show gl < w2.heap.size by have := B3.out.size; omega)).trans ((B3.out.cell (p := ⟨gl, 0, none⟩) hgl).trans L0.out)
  have a1 := (B5.out.cell (p := ⟨ga, 1, none⟩) hga).trans A1.out
  have a2 := (B5.out.cell (p := ⟨ga, 2, none⟩) hga).trans A2.out
  have e0 := (B5.out.cell (p := ⟨gb, 0, none⟩) hgb).trans E0.out
  have e1 := (B5.out.cell (p := ⟨gb, 1, none⟩) hgb).trans E1.out
  have e2 := (B5.out.cell (p := ⟨gb, 2, none⟩) hgb).trans E2.out
  clear C0 L0 A1 A2 E0 E1 E2
  have HLet := Lib.hid (plet_any (m := 3) (x := 7) (k := 1) RA3.out RB3.out (by omega) (by omega) (by omega) (fun t ht => by
    rcases (show t = 0 ∨ t = 1 by omega) with rfl | rfl <;> decide) (fun t h1 h2 => by
    obtain rfl : t = 2 := by omega
    decide))
  have HCnt := Lib.hid (fun (W : World) (hh : ReadsI W (.slice (some ⟨gb, 0, none⟩) 3 cb) 3 [0, 1, 0]) => pcount_any (ks := keysL [[(5, 9)]]) (m := 3) (v := .slice (some ⟨gb, 0, none⟩) 3 cb) (w := W) (by
    have := lets1; unfold letsL at this; rw [this]; exact hh) (by omega))
  go_wp2_with fail
  refine HLet.out.mono ?_
  rintro e w4 ⟨rfl, h2⟩
  have c0' := (h2.cell (p := ⟨gc, 0, none⟩) (World.block_lt_of_cell? _ _ c0)).trans c0
  have l0' := (h2.cell (p := ⟨gl, 0, none⟩) (World.block_lt_of_cell? _ _ l0)).trans l0
  have I0' := (h2.cell (p := ⟨gi, 0, none⟩) (World.block_lt_of_cell? _ _ I0)).trans I0
  have U0' := (h2.cell (p := ⟨gu, 0, none⟩) (World.block_lt_of_cell? _ _ U0)).trans U0
  have U1' := (h2.cell (p := ⟨gu, 1, none⟩) (World.block_lt_of_cell? _ _ U1)).trans U1
  have HCn := HCnt.out w4 (RB3.out.below h2)
  have BW2 := Lib.hid (BW.out.trans (h2.mono BW.out.size))
  have hk2 : (firsts (keysL [[(5, 9)]])).length = 2 := by rw [keys1]; decide
  rw [hk2] at HCn
  have HC2 := Lib.hid HCn
  clear c0 l0 I0 U0 U1 a1 a2 e0 e1 e2 hk2 HCn HCnt HLet h2
  go_wp2_with fail
  refine HC2.out.mono ?_
  rintro e w5 ⟨rfl, h2⟩
  have I0 := (h2.cell (p := ⟨gi, 0, none⟩) (World.block_lt_of_cell? _ _ I0')).trans I0'
  have U0 := (h2.cell (p := ⟨gu, 0, none⟩) (World.block_lt_of_cell? _ _ U0')).trans U0'
  have U1 := (h2.cell (p := ⟨gu, 1, none⟩) (World.block_lt_of_cell? _ _ U1')).trans U1'
  have BW3 := Lib.hid (BW2.out.trans (h2.mono BW2.out.size))
  clear h2 I0' U0' U1'
  go_wp2_with fail
  go_ret
  exact ⟨rfl, BW3.out⟩

end Go.Proofs.Ythbnhdocjnhhlaa
