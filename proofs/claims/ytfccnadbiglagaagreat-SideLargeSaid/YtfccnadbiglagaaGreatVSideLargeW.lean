/- The law SideLarge, walked. -/
import Derived.Test.YtfccnadbiglagaaGreatVSideKp
set_option linter.unusedVariables false
set_option linter.unusedSimpArgs false
set_option maxRecDepth 100000
set_option maxHeartbeats 8000000
namespace Go.Proofs.YtfccnadbiglagaaGreat
open Go Go.RowKit Go.Proofs
def zPat (a b : Nat) : Nat -> Pat
 | 0 => .times (.times .any_ 0 a) 1 b
 | i + 1 => .times (zPat a b i) 0 12
theorem zPat_hb {a b : Nat} (ha : a <= 12) (hb : b <= 12) (h1 : 1 <= b) : ∀ i, (zPat a b i).Hb
 | 0 => ⟨⟨trivial, Nat.zero_le _, by omega⟩, h1, by omega⟩
 | i + 1 => ⟨zPat_hb ha hb h1 i, Nat.zero_le _, by omega⟩
theorem zPat_size {a b : Nat} (ha : a <= 12) (hb : b <= 12) : sizeC (zPat a b 0) = a * b := by
 have h : a * b <= 12 * 12 := Nat.mul_le_mul ha hb
 show min (min (1 * a) 1000000000 * b) 1000000000 = a * b
 have e : min (1 * a) 1000000000 = a := by rw [Nat.one_mul]; exact Nat.min_eq_left (by omega)
 rw [e, Nat.min_eq_left (by omega)]
theorem zPat_next (a b i : Nat) : sizeC (zPat a b (i + 1)) = min (12 * sizeC (zPat a b i)) 1000000000 := by
 show min (sizeC (zPat a b i) * 12) 1000000000 = _
 rw [Nat.mul_comm]
theorem sideLarge_walk (a0 a1 a2 : Int) (w : World) (w0 : (Lit.int .i64 a0).wf = true) (w1 : (Lit.int .i64 a1).wf = true) (w2 : (Lit.int .i64 a2).wf = true) :
  Calls Tryz.prog 7 #[.int .i64 a0, .int .i64 a1, .int .i64 a2] w fun e w' => e = .returned (.bool true) /\ Below w.heap.size w w' := by
  have hw0 := fun W : World => swth_any a0 12 (by omega) (by omega) W
  have hw1 := fun W : World => swth_any a1 12 (by omega) (by omega) W
  have hw2 := fun W : World => swth_any a2 15 (by omega) (by omega) W
  have b0 := wthN_lt a0 12 (by omega); have b1 := wthN_lt a1 12 (by omega); have b2 := wthN_lt a2 15 (by omega)
  rw [show ((12 : Nat) : Int) = 12 from rfl] at b0 b1
  rw [show ((15 : Nat) : Int) = 15 from rfl] at b2
  obtain ⟨k0, hk0⟩ : ∃ k, wthN a0 12 = k := ⟨_, rfl⟩
  obtain ⟨k1, hk1⟩ : ∃ k, wthN a1 12 = k := ⟨_, rfl⟩
  obtain ⟨k2, hk2⟩ : ∃ k, wthN a2 15 = k := ⟨_, rfl⟩
  rw [hk0] at hw0 b0; rw [hk1] at hw1 b1; rw [hk2] at hw2 b2
  obtain ⟨A, hA⟩ : ∃ A, k0 + 1 = A := ⟨_, rfl⟩
  obtain ⟨B, hB⟩ : ∃ B, k1 + 1 = B := ⟨_, rfl⟩
  obtain ⟨P, hP⟩ : ∃ P, A * B = P := ⟨_, rfl⟩
  have hP0 : P <= 144 := by rw [<- hP]; exact Nat.mul_le_mul (show A <= 12 by omega) (show B <= 12 by omega)
  have hPi : (A : Int) * (B : Int) = (P : Int) := by rw [<- hP]; simp
  have hA1 : A <= 12 := by omega
  have hB1 : B <= 12 := by omega
  have hB0 : 1 <= B := by omega
  have hAe : (1 : Int) + (k0 : Int) = (A : Int) := by omega
  have hBe : (1 : Int) + (k1 : Int) = (B : Int) := by omega
  have HW0 := Lib.hid hw0; have HW1 := Lib.hid hw1; have HW2 := Lib.hid hw2; have HP := Lib.hid hP; have HPI := Lib.hid hPi; have HAE := Lib.hid hAe; have HBE := Lib.hid hBe
  have k00 : (0 : Int) <= (k0 : Int) := Int.natCast_nonneg _
  have k01 : (k0 : Int) < 12 := by omega
  have k10 : (0 : Int) <= (k1 : Int) := Int.natCast_nonneg _
  have k11 : (k1 : Int) < 12 := by omega
  clear hw0 hw1 hw2 hP hPi hAe hBe hk0 hk1 hk2 hA hB w0 w1 w2
  go_enter Tryz.func7, Tryz.ntmps7
  go_wp2_with fail
  refine (known7_ok w).mono ?_
  rintro e W1 ⟨rfl, hb1⟩
  have HDM := Lib.hid (defs_made [] W1 (.slice none 0 0) (IntsR.nil W1)); have HB1 := Lib.hid hb1
  clear hb1
  go_wp2_with fail
  refine HDM.out.mono ?_
  clear HDM
  rintro e W2 ⟨u, rfl, hdo, hb2⟩
  have hda := hdo.at_
  obtain ⟨dA, dc, cs, rfl, -, -, -, -, -⟩ := id hda
  rw [show ((defsOf []).map DefP.tree).length = 4 from rfl] at hdo hda ⊢
  have hnil : dA = none -> dc = 0 := nil_cap hdo.choose_spec.1
  have HDA := Lib.hid hda; have HNIL := Lib.hid hnil; have HB2 := Lib.hid (HB1.out.trans (hb2.mono HB1.out.size))
  clear hdo hda hnil hb2 HB1
  go_wp2_with fail
  refine (HW0.out _).mono ?_
  rintro e W3 ⟨rfl, rfl⟩
  have hAe := HAE.out
  go_wp2_with fail
  refine (HW1.out _).mono ?_
  rintro e W3 ⟨rfl, rfl⟩
  have hBe := HBE.out
  go_wp2_with fail
  obtain ⟨H1, hH1⟩ : ∃ H, W2.heap.size + 1 = H := ⟨_, rfl⟩
  obtain ⟨H2, hH2⟩ : ∃ H, H1 + 1 = H := ⟨_, rfl⟩
  obtain ⟨W4, hW4⟩ : ∃ W4, ((((W2.alloc (.cells #[.slice dA 4 dc, .slice none 0 0] 30)).alloc (.cells #[.int .i64 3, .int .i64 0, .int .i64 0, .int .i64 0, .string ⟨#[]⟩, .slice none 0 0] 33)).alloc (.cells #[.int .i64 7, .int .i64 0, .int .i64 (A : Nat), .int .i64 0, .string ⟨#[]⟩, .slice (some ⟨H1, 0, none⟩) 1 1] 33)).alloc (.cells #[.int .i64 7, .int .i64 1, .int .i64 (B : Nat), .int .i64 0, .string ⟨#[]⟩, .slice (some ⟨H2, 0, none⟩) 1 1] 33)) = W4 := ⟨_, rfl⟩
  have hb4 : Below W2.heap.size W2 W4 := by rw [<- hW4]; exact ((((Below.refl _ _).alloc (Nat.le_refl _) _).alloc (by simp) _).alloc (by simp; omega) _).alloc (by simp; omega) _
  have hxf : Blk W4 W2.heap.size 30 #[.slice dA 4 dc, .slice none 0 0] := by rw [<- hW4]; exact Blk.alloc (Blk.alloc (Blk.alloc (Blk.new _ _ _) _) _) _
  have hx1 : Blk W4 H1 33 #[.int .i64 3, .int .i64 0, .int .i64 0, .int .i64 0, .string ⟨#[]⟩, .slice none 0 0] := by
   rw [<- hW4]
   have := Blk.new (W2.alloc (.cells #[.slice dA 4 dc, .slice none 0 0] 30)) 33 #[.int .i64 3, .int .i64 0, .int .i64 0, .int .i64 0, .string ⟨#[]⟩, .slice none 0 0]
   rw [World.size_alloc, hH1] at this
   exact Blk.alloc (Blk.alloc this _) _
  have hx2 : Blk W4 H2 33 #[.int .i64 7, .int .i64 0, .int .i64 (A : Nat), .int .i64 0, .string ⟨#[]⟩, .slice (some ⟨H1, 0, none⟩) 1 1] := by
   rw [<- hW4]
   have := Blk.new ((W2.alloc (.cells #[.slice dA 4 dc, .slice none 0 0] 30)).alloc (.cells #[.int .i64 3, .int .i64 0, .int .i64 0, .int .i64 0, .string ⟨#[]⟩, .slice none 0 0] 33)) 33 #[.int .i64 7, .int .i64 0, .int .i64 (A : Nat), .int .i64 0, .string ⟨#[]⟩, .slice (some ⟨H1, 0, none⟩) 1 1]
   rw [World.size_alloc, World.size_alloc, hH1, hH2] at this
   exact Blk.alloc this _
  have hx3 : Blk W4 (H2 + 1) 33 #[.int .i64 7, .int .i64 1, .int .i64 (B : Nat), .int .i64 0, .string ⟨#[]⟩, .slice (some ⟨H2, 0, none⟩) 1 1] := by
   rw [<- hW4]
   have := Blk.new (((W2.alloc (.cells #[.slice dA 4 dc, .slice none 0 0] 30)).alloc (.cells #[.int .i64 3, .int .i64 0, .int .i64 0, .int .i64 0, .string ⟨#[]⟩, .slice none 0 0] 33)).alloc (.cells #[.int .i64 7, .int .i64 0, .int .i64 (A : Nat), .int .i64 0, .string ⟨#[]⟩, .slice (some ⟨H1, 0, none⟩) 1 1] 33)) 33 #[.int .i64 7, .int .i64 1, .int .i64 (B : Nat), .int .i64 0, .string ⟨#[]⟩, .slice (some ⟨H2, 0, none⟩) 1 1]
   rwa [World.size_alloc, World.size_alloc, World.size_alloc, hH1, hH2] at this
  have hz4 : W4.heap.size = H2 + 2 := by rw [<- hW4]; simp; omega
  have hT0 : TreeV true W4 (fun g => g < W4.heap.size) (.agg #[.int .i64 7, .int .i64 1, .int .i64 (B : Nat), .int .i64 0, .string ⟨#[]⟩, .slice (some ⟨H2, 0, none⟩) 1 1]) (zPat A B 0).tree := by
   refine TreeV.one6 7 1 (B : Nat) 0 hx2 (TreeV.one6 7 0 (A : Nat) 0 hx1 (TreeV.leaf true W4 _ 3 0 0 0 ⟨#[]⟩ (fun e => by cases e)) (by omega)) (by omega)
  have hNm : Names W4 (fun g => g < W4.heap.size) (.slice dA 4 dc) kD := ((HDA.out.names (fun A n c e q => by simp only [Value.slice.injEq] at e; obtain ⟨rfl, _, rfl⟩ := e; exact HNIL.out q) (fun g h => h)).keep (fun _ h => h) (fun g _ i x hx => bel_q hb4 hx)).low
  have hmk := smake_any (zPat A B 0) true ⟨⟨trivial, Nat.zero_le _, hA1⟩, hB0, hB1⟩ (by decide) W4 _ dA none 4 dc 0 0 hT0 hNm
  rw [zPat_size hA1 hB1, HP.out] at hmk
  have hsn : (sideOf (ixN kD) (zPat A B 0)).n = P := by
   rw [sideOf_n]
   show 1 * A * B = P
   rw [Nat.one_mul, HP.out]
  have HMK := Lib.hid hmk; have HX3 := Lib.hid hx3; have HT0 := Lib.hid hT0; have HB4 := Lib.hid (HB2.out.trans (hb4.mono HB2.out.size)); have HZ4 := Lib.hid hz4; have HW4 := Lib.hid hW4; have HH1 := Lib.hid hH1; have HH2 := Lib.hid hH2; have HSN := Lib.hid hsn
  clear hb4 hxf hx1 hx2 hx3 hz4 hT0 hNm hmk hW4 hsn HDA HNIL HB2
  rw [hH1, hH2]
  clear hH1 hH2
  rw [HW4.out]
  refine HMK.out.mono ?_
  clear HMK
  rintro e W5 ⟨hb5, h⟩
  have hx5 := Blk.below HX3.out hb5 HX3.out.lt
  have hT5 : TreeV true W5 (fun g => g < W4.heap.size) (.agg #[.int .i64 7, .int .i64 1, .int .i64 (B : Nat), .int .i64 0, .string ⟨#[]⟩, .slice (some ⟨H2, 0, none⟩) 1 1]) (zPat A B 0).tree := HT0.out.bel (fun _ h => h) hb5
  have HX5 := Lib.hid hx5; have HT5 := Lib.hid hT5; have HB5 := Lib.hid (HB4.out.trans (hb5.mono HB4.out.size)); have HZ5 := Lib.hid hb5.size
  clear hx5 hT5 hb5 HB4 HT0 HX3
  have hmul : IntKind.i64.wrap ((A : Int) * (B : Int)) = (P : Int) := by rw [HPI.out]; exact IntWalk.i64_in _ (by omega)
  have hPi := HPI.out
  obtain ⟨S1, S2, S3, S4, s1, s2, s3, s4, m1, m2, m3, m4, z, is, rfl, his, hm1⟩ : ∃ S1 S2 S3 S4 s1 s2 s3 s4 m1 m2 m3 m4 z is, e = .returned (.tuple #[.agg #[.slice S1 m1 s1, .slice S2 m2 s2, .slice S3 m3 s3, .slice S4 m4 s4, .int .i64 z], .bool is]) /\ is = decide (P <= 120) /\ (P <= 120 -> m1 = P) := by
   rcases h with ⟨h1, v, e1, hsv⟩ | ⟨h1, e1⟩
   ·obtain ⟨A1, c1, A2, c2, A3, c3, A4, c4, rfl, -⟩ := hsv.reads.ex
    exact ⟨A1, A2, A3, A4, c1, c2, c3, c4, _, _, _, _, _, true, e1, by simp [h1], fun _ => HSN.out⟩
   ·exact ⟨none, none, none, none, 0, 0, 0, 0, 0, 0, 0, 0, 0, false, e1, by rw [decide_eq_false (by omega)], fun q => by omega⟩
  clear h
  have hya := Blk.alloc HX5.out (.cells #[.slice S1 m1 s1, .slice S2 m2 s2, .slice S3 m3 s3, .slice S4 m4 s4, .int .i64 z] 39)
  have y0 := Blk.cell hya 0; have y1 := Blk.cell hya 1; have y2 := Blk.cell hya 2; have y3 := Blk.cell hya 3; have y4 := Blk.cell hya 4; have y5 := Blk.cell hya 5
  simp only [List.getElem?_toArray, List.getElem?_cons_zero, List.getElem?_cons_succ] at y0 y1 y2 y3 y4 y5
  have hHlt : H2 + 1 < W5.heap.size := HX5.out.lt
  have P0 : (0 : Int) <= (P : Int) := Int.natCast_nonneg _
  obtain ⟨W6, hW6⟩ : ∃ W6, (W5.alloc (.cells #[.slice S1 m1 s1, .slice S2 m2 s2, .slice S3 m3 s3, .slice S4 m4 s4, .int .i64 z] 39)).alloc (.cells #[.int .i64 7, .int .i64 1, .int .i64 (B : Nat), .int .i64 0, .string ⟨#[]⟩, .slice (some ⟨H2, 0, none⟩) 1 1] 33) = W6 := ⟨_, rfl⟩
  have hb6 : Below W5.heap.size W5 W6 := by rw [<- hW6]; exact ((Below.refl _ _).alloc (Nat.le_refl _) _).alloc (by simp) _
  have hx6 : Blk W6 (W5.heap.size + 1) 33 #[.int .i64 7, .int .i64 1, .int .i64 (B : Nat), .int .i64 0, .string ⟨#[]⟩, .slice (some ⟨H2, 0, none⟩) 1 1] := by
   rw [<- hW6]
   have := Blk.new (W5.alloc (.cells #[.slice S1 m1 s1, .slice S2 m2 s2, .slice S3 m3 s3, .slice S4 m4 s4, .int .i64 z] 39)) 33 #[.int .i64 7, .int .i64 1, .int .i64 (B : Nat), .int .i64 0, .string ⟨#[]⟩, .slice (some ⟨H2, 0, none⟩) 1 1]
   rwa [World.size_alloc] at this
  obtain ⟨Z, hZ⟩ : ∃ Z, W5.heap.size + 1 = Z := ⟨_, rfl⟩
  rw [hZ] at hx6
  have hT6 : TreeV true W6 (fun g => g ≠ Z) (.agg #[.int .i64 7, .int .i64 1, .int .i64 (B : Nat), .int .i64 0, .string ⟨#[]⟩, .slice (some ⟨H2, 0, none⟩) 1 1]) (zPat A B 0).tree := HT5.out.bel (fun g hg => by have := HZ5.out; omega) hb6
  have HX6 := Lib.hid hx6; have HT6 := Lib.hid hT6; have HB6 := Lib.hid (HB5.out.trans (hb6.mono HB5.out.size)); have HW6 := Lib.hid hW6; have HZ := Lib.hid hZ; have HHL := Lib.hid hHlt; have HIS := Lib.hid his; have HM1 := Lib.hid hm1; have HZB := Lib.hid (show Z < W6.heap.size from hx6.lt); have HZL := Lib.hid HB5.out.size
  clear hya hb6 hx6 hT6 hW6 hZ his hm1 hHlt HX5 HT5 HB5
  by_cases hPb : P <= 120
  ·have hi1 : is = true := by rw [HIS.out]; simpa using hPb
   have hm : m1 = P := HM1.out hPb
   subst hi1
   subst hm
   have p1 : (m1 : Int) <= 120 := by omega
   have d1 : decide ((m1 : Int) <= 120) = true := by simpa using p1
   go_wp2_with fail
   try rw [HW6.out]
   try rw [HZ.out]
   clear y0 y1 y2 y3 y4 y5
   go_loopg [14, 15] k2 (fun gk vs vi wr => ∃ (i sz lo hi H : Nat), vs = .int .i64 sz /\ vi = .int .i64 i /\ gk = k2 - i /\ i <= k2 /\ sz <= 1000000000 /\ Hid (sizeC (zPat A B i) = sz) /\ Hid (Blk wr Z 33 #[.int .i64 7, .int .i64 (lo : Nat), .int .i64 (hi : Nat), .int .i64 0, .string ⟨#[]⟩, .slice (some ⟨H, 0, none⟩) 1 1]) /\ Hid (TreeV true wr (fun g => g ≠ Z) (.agg #[.int .i64 7, .int .i64 (lo : Nat), .int .i64 (hi : Nat), .int .i64 0, .string ⟨#[]⟩, .slice (some ⟨H, 0, none⟩) 1 1]) (zPat A B i).tree) /\ Hid (Below w.heap.size w wr))
   case atStart => exact ⟨0, _, 1, B, H2, rfl, rfl, rfl, Nat.zero_le _, by omega, Lib.hid (by rw [zPat_size hA1 hB1, HP.out]), HX6, HT6, HB6⟩
   case round =>
    clear HX6 HT6 HB6
    obtain ⟨i, sz, lo, hi, H, rfl, rfl, hgk, hik, hsz, HSZ, HX, HT, HB⟩ := hrel
    have HGK := Lib.hid hgk; clear hgk
    have i0 : (0 : Int) <= (i : Int) := Int.natCast_nonneg _
    have s0 : (0 : Int) <= (sz : Int) := Int.natCast_nonneg _
    have s1 : (sz : Int) <= 1000000000 := by omega
    have hxz := HX.out
    have y0 := Blk.cell hxz 0; have y1 := Blk.cell hxz 1; have y2 := Blk.cell hxz 2; have y3 := Blk.cell hxz 3; have y4 := Blk.cell hxz 4; have y5 := Blk.cell hxz 5
    have f0 := Blk.frozen hxz 0; have f1 := Blk.frozen hxz 1; have f2 := Blk.frozen hxz 2; have f3 := Blk.frozen hxz 3; have f4 := Blk.frozen hxz 4; have f5 := Blk.frozen hxz 5
    simp only [List.getElem?_toArray, List.getElem?_cons_zero, List.getElem?_cons_succ] at y0 y1 y2 y3 y4 y5
    clear hxz
    go_wp2_with fail
    refine (HW2.out _).mono ?_
    rintro e w7 ⟨rfl, rfl⟩
    by_cases hlt : i < k2
    ·have i1 : (i : Int) < (k2 : Int) := by omega
     have d1 : decide (i < k2) = true := by simpa using hlt
     obtain ⟨W8, hW8⟩ : ∃ W8, wr.alloc (.cells #[.int .i64 7, .int .i64 (lo : Nat), .int .i64 (hi : Nat), .int .i64 0, .string ⟨#[]⟩, .slice (some ⟨H, 0, none⟩) 1 1] 33) = W8 := ⟨_, rfl⟩
     have hb8 : Below wr.heap.size wr W8 := by rw [<- hW8]; exact (Below.refl _ _).alloc (Nat.le_refl _) _
     have hx8 : Blk W8 wr.heap.size 33 #[.int .i64 7, .int .i64 (lo : Nat), .int .i64 (hi : Nat), .int .i64 0, .string ⟨#[]⟩, .slice (some ⟨H, 0, none⟩) 1 1] := by rw [<- hW8]; exact Blk.new _ _ _
     have hz8 := Blk.below HX.out hb8 HX.out.lt
     have hZw : Z < wr.heap.size := HX.out.lt
     have hT8 := TreeV.one6 (S := fun g => g ≠ Z) 7 0 12 0 hx8 (HT.out.bel (fun _ h => h) hb8) (by omega)
     have g0 := Blk.cell hz8 0; have g1 := Blk.cell hz8 1; have g2 := Blk.cell hz8 2; have g3 := Blk.cell hz8 3; have g4 := Blk.cell hz8 4; have g5 := Blk.cell hz8 5
     have n0 := Blk.frozen hz8 0; have n1 := Blk.frozen hz8 1; have n2 := Blk.frozen hz8 2; have n3 := Blk.frozen hz8 3; have n4 := Blk.frozen hz8 4; have n5 := Blk.frozen hz8 5
     simp only [List.getElem?_toArray, List.getElem?_cons_zero, List.getElem?_cons_succ] at g0 g1 g2 g3 g4 g5
     obtain ⟨W9, hW9⟩ : ∃ W9, (((((W8.setCell ⟨Z, 0, none⟩ (.int .i64 7)).setCell ⟨Z, 1, none⟩ (.int .i64 0)).setCell ⟨Z, 2, none⟩ (.int .i64 12)).setCell ⟨Z, 3, none⟩ (.int .i64 0)).setCell ⟨Z, 4, none⟩ (.string ⟨#[]⟩)).setCell ⟨Z, 5, none⟩ (.slice (some ⟨wr.heap.size, 0, none⟩) 1 1) = W9 := ⟨_, rfl⟩
     have hx9 : Blk W9 Z 33 #[.int .i64 7, .int .i64 ((0 : Nat) : Int), .int .i64 ((12 : Nat) : Int), .int .i64 0, .string ⟨#[]⟩, .slice (some ⟨wr.heap.size, 0, none⟩) 1 1] := by
      rw [<- hW9]
      have := (((((hz8.set_ 0 (.int .i64 7)).set_ 1 (.int .i64 0)).set_ 2 (.int .i64 12)).set_ 3 (.int .i64 0)).set_ 4 (.string ⟨#[]⟩)).set_ 5 (.slice (some ⟨wr.heap.size, 0, none⟩) 1 1)
      simpa using this
     have hT9 : TreeV true W9 (fun g => g ≠ Z) (.agg #[.int .i64 7, .int .i64 ((0 : Nat) : Int), .int .i64 ((12 : Nat) : Int), .int .i64 0, .string ⟨#[]⟩, .slice (some ⟨wr.heap.size, 0, none⟩) 1 1]) (zPat A B (i + 1)).tree := by
      rw [<- hW9]
      exact (((((hT8.far (p := ⟨Z, 0, none⟩) (fun g h => h) _).far (p := ⟨Z, 1, none⟩) (fun g h => h) _).far (p := ⟨Z, 2, none⟩) (fun g h => h) _).far (p := ⟨Z, 3, none⟩) (fun g h => h) _).far (p := ⟨Z, 4, none⟩) (fun g h => h) _).far (p := ⟨Z, 5, none⟩) (fun g h => h) _
     have hZw0 : w.heap.size <= Z := by have := HZ.out; have := HZL.out; omega
     have hb9 : Below w.heap.size w W9 := by
      rw [<- hW9]
      exact ((((((HB.out.trans (hb8.mono HB.out.size)).setCell (p := ⟨Z, 0, none⟩) hZw0 _).setCell (p := ⟨Z, 1, none⟩) hZw0 _).setCell (p := ⟨Z, 2, none⟩) hZw0 _).setCell (p := ⟨Z, 3, none⟩) hZw0 _).setCell (p := ⟨Z, 4, none⟩) hZw0 _).setCell (p := ⟨Z, 5, none⟩) hZw0 _
     have hnx := zPat_next A B i
     rw [HSZ.out] at hnx
     rw [<- hW8] at g0 g1 g2 g3 g4 g5 n0 n1 n2 n3 n4 n5
     have hw89 := hW9
     rw [<- hW8] at hw89
     have HX9 := Lib.hid hx9; have HT9 := Lib.hid hT9; have HB9 := Lib.hid hb9; have HNX := Lib.hid hnx; have HW89 := Lib.hid hw89
     clear hw89 hW8 hb8 hx8 hz8 hZw hT8 hW9 hx9 hT9 hZw0 hb9 hnx
     by_cases hbig : 1000000000 < 12 * sz
     ·have hbi : (1000000000 : Int) < 12 * (sz : Int) := by omega
      have hmn : min (12 * (sz : Int)) 1000000000 = 1000000000 := by omega
      go_wp2_with fail
      go_roundg (k2 - (i + 1))
      case measure => have := HGK.out; omega
      case rel => exact ⟨i + 1, 1000000000, 0, 12, wr.heap.size, rfl, by go_num, rfl, by omega, by omega, Lib.hid (by rw [HNX.out]; omega), Lib.hid (by rw [HW89.out]; exact HX9.out), Lib.hid (by rw [HW89.out]; exact HT9.out), Lib.hid (by rw [HW89.out]; exact HB9.out)⟩
     ·have hbi : ¬ (1000000000 : Int) < 12 * (sz : Int) := by omega
      have hmn : min (12 * (sz : Int)) 1000000000 = 12 * (sz : Int) := by omega
      go_wp2_with fail
      go_roundg (k2 - (i + 1))
      case measure => have := HGK.out; omega
      case rel => exact ⟨i + 1, 12 * sz, 0, 12, wr.heap.size, by congr 1, by go_num, rfl, by omega, by omega, Lib.hid (by rw [HNX.out]; omega), Lib.hid (by rw [HW89.out]; exact HX9.out), Lib.hid (by rw [HW89.out]; exact HT9.out), Lib.hid (by rw [HW89.out]; exact HB9.out)⟩
    ·have i1 : ¬ (i : Int) < (k2 : Int) := by omega
     have d1 : decide (i < k2) = false := by simpa using hlt
     have hsc := ssize_ok (zPat A B i) (zPat_hb hA1 hB1 hB0 i) wr _ _ HT.out
     rw [HSZ.out] at hsc
     have HSC := Lib.hid hsc
     clear hsc
     go_wp2_with fail
     refine HSC.out.mono ?_
     rintro e w8 ⟨rfl, hb8⟩
     have HB8 := Lib.hid (HB.out.trans (hb8.mono HB.out.size))
     clear hb8
     go_wp2_with fail
     go_ret
     exact ⟨rfl, HB8.out⟩
  ·have hi1 : is = false := by rw [HIS.out]; simpa using hPb
   subst hi1
   have p1 : ¬ (P : Int) <= 120 := by omega
   have d1 : decide ((P : Int) <= 120) = false := by simpa using p1
   by_cases hq : m1 = P
   ·subst hq
    go_wp2_with fail
    try rw [HW6.out]
    try rw [HZ.out]
    clear y0 y1 y2 y3 y4 y5
    go_loopg [14, 15] k2 (fun gk vs vi wr => ∃ (i sz lo hi H : Nat), vs = .int .i64 sz /\ vi = .int .i64 i /\ gk = k2 - i /\ i <= k2 /\ sz <= 1000000000 /\ Hid (sizeC (zPat A B i) = sz) /\ Hid (Blk wr Z 33 #[.int .i64 7, .int .i64 (lo : Nat), .int .i64 (hi : Nat), .int .i64 0, .string ⟨#[]⟩, .slice (some ⟨H, 0, none⟩) 1 1]) /\ Hid (TreeV true wr (fun g => g ≠ Z) (.agg #[.int .i64 7, .int .i64 (lo : Nat), .int .i64 (hi : Nat), .int .i64 0, .string ⟨#[]⟩, .slice (some ⟨H, 0, none⟩) 1 1]) (zPat A B i).tree) /\ Hid (Below w.heap.size w wr))
    case atStart => exact ⟨0, _, 1, B, H2, rfl, rfl, rfl, Nat.zero_le _, by omega, Lib.hid (by rw [zPat_size hA1 hB1, HP.out]), HX6, HT6, HB6⟩
    case round =>
     clear HX6 HT6 HB6
     obtain ⟨i, sz, lo, hi, H, rfl, rfl, hgk, hik, hsz, HSZ, HX, HT, HB⟩ := hrel
     have HGK := Lib.hid hgk; clear hgk
     have i0 : (0 : Int) <= (i : Int) := Int.natCast_nonneg _
     have s0 : (0 : Int) <= (sz : Int) := Int.natCast_nonneg _
     have s1 : (sz : Int) <= 1000000000 := by omega
     have hxz := HX.out
     have y0 := Blk.cell hxz 0; have y1 := Blk.cell hxz 1; have y2 := Blk.cell hxz 2; have y3 := Blk.cell hxz 3; have y4 := Blk.cell hxz 4; have y5 := Blk.cell hxz 5
     have f0 := Blk.frozen hxz 0; have f1 := Blk.frozen hxz 1; have f2 := Blk.frozen hxz 2; have f3 := Blk.frozen hxz 3; have f4 := Blk.frozen hxz 4; have f5 := Blk.frozen hxz 5
     simp only [List.getElem?_toArray, List.getElem?_cons_zero, List.getElem?_cons_succ] at y0 y1 y2 y3 y4 y5
     clear hxz
     go_wp2_with fail
     refine (HW2.out _).mono ?_
     rintro e w7 ⟨rfl, rfl⟩
     by_cases hlt : i < k2
     ·have i1 : (i : Int) < (k2 : Int) := by omega
      have d1 : decide (i < k2) = true := by simpa using hlt
      obtain ⟨W8, hW8⟩ : ∃ W8, wr.alloc (.cells #[.int .i64 7, .int .i64 (lo : Nat), .int .i64 (hi : Nat), .int .i64 0, .string ⟨#[]⟩, .slice (some ⟨H, 0, none⟩) 1 1] 33) = W8 := ⟨_, rfl⟩
      have hb8 : Below wr.heap.size wr W8 := by rw [<- hW8]; exact (Below.refl _ _).alloc (Nat.le_refl _) _
      have hx8 : Blk W8 wr.heap.size 33 #[.int .i64 7, .int .i64 (lo : Nat), .int .i64 (hi : Nat), .int .i64 0, .string ⟨#[]⟩, .slice (some ⟨H, 0, none⟩) 1 1] := by rw [<- hW8]; exact Blk.new _ _ _
      have hz8 := Blk.below HX.out hb8 HX.out.lt
      have hZw : Z < wr.heap.size := HX.out.lt
      have hT8 := TreeV.one6 (S := fun g => g ≠ Z) 7 0 12 0 hx8 (HT.out.bel (fun _ h => h) hb8) (by omega)
      have g0 := Blk.cell hz8 0; have g1 := Blk.cell hz8 1; have g2 := Blk.cell hz8 2; have g3 := Blk.cell hz8 3; have g4 := Blk.cell hz8 4; have g5 := Blk.cell hz8 5
      have n0 := Blk.frozen hz8 0; have n1 := Blk.frozen hz8 1; have n2 := Blk.frozen hz8 2; have n3 := Blk.frozen hz8 3; have n4 := Blk.frozen hz8 4; have n5 := Blk.frozen hz8 5
      simp only [List.getElem?_toArray, List.getElem?_cons_zero, List.getElem?_cons_succ] at g0 g1 g2 g3 g4 g5
      obtain ⟨W9, hW9⟩ : ∃ W9, (((((W8.setCell ⟨Z, 0, none⟩ (.int .i64 7)).setCell ⟨Z, 1, none⟩ (.int .i64 0)).setCell ⟨Z, 2, none⟩ (.int .i64 12)).setCell ⟨Z, 3, none⟩ (.int .i64 0)).setCell ⟨Z, 4, none⟩ (.string ⟨#[]⟩)).setCell ⟨Z, 5, none⟩ (.slice (some ⟨wr.heap.size, 0, none⟩) 1 1) = W9 := ⟨_, rfl⟩
      have hx9 : Blk W9 Z 33 #[.int .i64 7, .int .i64 ((0 : Nat) : Int), .int .i64 ((12 : Nat) : Int), .int .i64 0, .string ⟨#[]⟩, .slice (some ⟨wr.heap.size, 0, none⟩) 1 1] := by
       rw [<- hW9]
       have := (((((hz8.set_ 0 (.int .i64 7)).set_ 1 (.int .i64 0)).set_ 2 (.int .i64 12)).set_ 3 (.int .i64 0)).set_ 4 (.string ⟨#[]⟩)).set_ 5 (.slice (some ⟨wr.heap.size, 0, none⟩) 1 1)
       simpa using this
      have hT9 : TreeV true W9 (fun g => g ≠ Z) (.agg #[.int .i64 7, .int .i64 ((0 : Nat) : Int), .int .i64 ((12 : Nat) : Int), .int .i64 0, .string ⟨#[]⟩, .slice (some ⟨wr.heap.size, 0, none⟩) 1 1]) (zPat A B (i + 1)).tree := by
       rw [<- hW9]
       exact (((((hT8.far (p := ⟨Z, 0, none⟩) (fun g h => h) _).far (p := ⟨Z, 1, none⟩) (fun g h => h) _).far (p := ⟨Z, 2, none⟩) (fun g h => h) _).far (p := ⟨Z, 3, none⟩) (fun g h => h) _).far (p := ⟨Z, 4, none⟩) (fun g h => h) _).far (p := ⟨Z, 5, none⟩) (fun g h => h) _
      have hZw0 : w.heap.size <= Z := by have := HZ.out; have := HZL.out; omega
      have hb9 : Below w.heap.size w W9 := by
       rw [<- hW9]
       exact ((((((HB.out.trans (hb8.mono HB.out.size)).setCell (p := ⟨Z, 0, none⟩) hZw0 _).setCell (p := ⟨Z, 1, none⟩) hZw0 _).setCell (p := ⟨Z, 2, none⟩) hZw0 _).setCell (p := ⟨Z, 3, none⟩) hZw0 _).setCell (p := ⟨Z, 4, none⟩) hZw0 _).setCell (p := ⟨Z, 5, none⟩) hZw0 _
      have hnx := zPat_next A B i
      rw [HSZ.out] at hnx
      rw [<- hW8] at g0 g1 g2 g3 g4 g5 n0 n1 n2 n3 n4 n5
      have hw89 := hW9
      rw [<- hW8] at hw89
      have HX9 := Lib.hid hx9; have HT9 := Lib.hid hT9; have HB9 := Lib.hid hb9; have HNX := Lib.hid hnx; have HW89 := Lib.hid hw89
      clear hw89 hW8 hb8 hx8 hz8 hZw hT8 hW9 hx9 hT9 hZw0 hb9 hnx
      by_cases hbig : 1000000000 < 12 * sz
      ·have hbi : (1000000000 : Int) < 12 * (sz : Int) := by omega
       have hmn : min (12 * (sz : Int)) 1000000000 = 1000000000 := by omega
       go_wp2_with fail
       go_roundg (k2 - (i + 1))
       case measure => have := HGK.out; omega
       case rel => exact ⟨i + 1, 1000000000, 0, 12, wr.heap.size, rfl, by go_num, rfl, by omega, by omega, Lib.hid (by rw [HNX.out]; omega), Lib.hid (by rw [HW89.out]; exact HX9.out), Lib.hid (by rw [HW89.out]; exact HT9.out), Lib.hid (by rw [HW89.out]; exact HB9.out)⟩
      ·have hbi : ¬ (1000000000 : Int) < 12 * (sz : Int) := by omega
       have hmn : min (12 * (sz : Int)) 1000000000 = 12 * (sz : Int) := by omega
       go_wp2_with fail
       go_roundg (k2 - (i + 1))
       case measure => have := HGK.out; omega
       case rel => exact ⟨i + 1, 12 * sz, 0, 12, wr.heap.size, by congr 1, by go_num, rfl, by omega, by omega, Lib.hid (by rw [HNX.out]; omega), Lib.hid (by rw [HW89.out]; exact HX9.out), Lib.hid (by rw [HW89.out]; exact HT9.out), Lib.hid (by rw [HW89.out]; exact HB9.out)⟩
     ·have i1 : ¬ (i : Int) < (k2 : Int) := by omega
      have d1 : decide (i < k2) = false := by simpa using hlt
      have hsc := ssize_ok (zPat A B i) (zPat_hb hA1 hB1 hB0 i) wr _ _ HT.out
      rw [HSZ.out] at hsc
      have HSC := Lib.hid hsc
      clear hsc
      go_wp2_with fail
      refine HSC.out.mono ?_
      rintro e w8 ⟨rfl, hb8⟩
      have HB8 := Lib.hid (HB.out.trans (hb8.mono HB.out.size))
      clear hb8
      go_wp2_with fail
      go_ret
      exact ⟨rfl, HB8.out⟩
   ·have q1 : ¬ (m1 : Int) = (P : Int) := by omega
    have q2 : ((m1 : Int) == (P : Int)) = false := by rw [beq_eq_false_iff_ne]; omega
    have q3 : ((m1 : Int) != (P : Int)) = true := by simp; omega
    go_wp2_with fail
    try rw [HW6.out]
    try rw [HZ.out]
    clear y0 y1 y2 y3 y4 y5
    go_loopg [14, 15] k2 (fun gk vs vi wr => ∃ (i sz lo hi H : Nat), vs = .int .i64 sz /\ vi = .int .i64 i /\ gk = k2 - i /\ i <= k2 /\ sz <= 1000000000 /\ Hid (sizeC (zPat A B i) = sz) /\ Hid (Blk wr Z 33 #[.int .i64 7, .int .i64 (lo : Nat), .int .i64 (hi : Nat), .int .i64 0, .string ⟨#[]⟩, .slice (some ⟨H, 0, none⟩) 1 1]) /\ Hid (TreeV true wr (fun g => g ≠ Z) (.agg #[.int .i64 7, .int .i64 (lo : Nat), .int .i64 (hi : Nat), .int .i64 0, .string ⟨#[]⟩, .slice (some ⟨H, 0, none⟩) 1 1]) (zPat A B i).tree) /\ Hid (Below w.heap.size w wr))
    case atStart => exact ⟨0, _, 1, B, H2, rfl, rfl, rfl, Nat.zero_le _, by omega, Lib.hid (by rw [zPat_size hA1 hB1, HP.out]), HX6, HT6, HB6⟩
    case round =>
     clear HX6 HT6 HB6
     obtain ⟨i, sz, lo, hi, H, rfl, rfl, hgk, hik, hsz, HSZ, HX, HT, HB⟩ := hrel
     have HGK := Lib.hid hgk; clear hgk
     have i0 : (0 : Int) <= (i : Int) := Int.natCast_nonneg _
     have s0 : (0 : Int) <= (sz : Int) := Int.natCast_nonneg _
     have s1 : (sz : Int) <= 1000000000 := by omega
     have hxz := HX.out
     have y0 := Blk.cell hxz 0; have y1 := Blk.cell hxz 1; have y2 := Blk.cell hxz 2; have y3 := Blk.cell hxz 3; have y4 := Blk.cell hxz 4; have y5 := Blk.cell hxz 5
     have f0 := Blk.frozen hxz 0; have f1 := Blk.frozen hxz 1; have f2 := Blk.frozen hxz 2; have f3 := Blk.frozen hxz 3; have f4 := Blk.frozen hxz 4; have f5 := Blk.frozen hxz 5
     simp only [List.getElem?_toArray, List.getElem?_cons_zero, List.getElem?_cons_succ] at y0 y1 y2 y3 y4 y5
     clear hxz
     go_wp2_with fail
     refine (HW2.out _).mono ?_
     rintro e w7 ⟨rfl, rfl⟩
     by_cases hlt : i < k2
     ·have i1 : (i : Int) < (k2 : Int) := by omega
      have d1 : decide (i < k2) = true := by simpa using hlt
      obtain ⟨W8, hW8⟩ : ∃ W8, wr.alloc (.cells #[.int .i64 7, .int .i64 (lo : Nat), .int .i64 (hi : Nat), .int .i64 0, .string ⟨#[]⟩, .slice (some ⟨H, 0, none⟩) 1 1] 33) = W8 := ⟨_, rfl⟩
      have hb8 : Below wr.heap.size wr W8 := by rw [<- hW8]; exact (Below.refl _ _).alloc (Nat.le_refl _) _
      have hx8 : Blk W8 wr.heap.size 33 #[.int .i64 7, .int .i64 (lo : Nat), .int .i64 (hi : Nat), .int .i64 0, .string ⟨#[]⟩, .slice (some ⟨H, 0, none⟩) 1 1] := by rw [<- hW8]; exact Blk.new _ _ _
      have hz8 := Blk.below HX.out hb8 HX.out.lt
      have hZw : Z < wr.heap.size := HX.out.lt
      have hT8 := TreeV.one6 (S := fun g => g ≠ Z) 7 0 12 0 hx8 (HT.out.bel (fun _ h => h) hb8) (by omega)
      have g0 := Blk.cell hz8 0; have g1 := Blk.cell hz8 1; have g2 := Blk.cell hz8 2; have g3 := Blk.cell hz8 3; have g4 := Blk.cell hz8 4; have g5 := Blk.cell hz8 5
      have n0 := Blk.frozen hz8 0; have n1 := Blk.frozen hz8 1; have n2 := Blk.frozen hz8 2; have n3 := Blk.frozen hz8 3; have n4 := Blk.frozen hz8 4; have n5 := Blk.frozen hz8 5
      simp only [List.getElem?_toArray, List.getElem?_cons_zero, List.getElem?_cons_succ] at g0 g1 g2 g3 g4 g5
      obtain ⟨W9, hW9⟩ : ∃ W9, (((((W8.setCell ⟨Z, 0, none⟩ (.int .i64 7)).setCell ⟨Z, 1, none⟩ (.int .i64 0)).setCell ⟨Z, 2, none⟩ (.int .i64 12)).setCell ⟨Z, 3, none⟩ (.int .i64 0)).setCell ⟨Z, 4, none⟩ (.string ⟨#[]⟩)).setCell ⟨Z, 5, none⟩ (.slice (some ⟨wr.heap.size, 0, none⟩) 1 1) = W9 := ⟨_, rfl⟩
      have hx9 : Blk W9 Z 33 #[.int .i64 7, .int .i64 ((0 : Nat) : Int), .int .i64 ((12 : Nat) : Int), .int .i64 0, .string ⟨#[]⟩, .slice (some ⟨wr.heap.size, 0, none⟩) 1 1] := by
       rw [<- hW9]
       have := (((((hz8.set_ 0 (.int .i64 7)).set_ 1 (.int .i64 0)).set_ 2 (.int .i64 12)).set_ 3 (.int .i64 0)).set_ 4 (.string ⟨#[]⟩)).set_ 5 (.slice (some ⟨wr.heap.size, 0, none⟩) 1 1)
       simpa using this
      have hT9 : TreeV true W9 (fun g => g ≠ Z) (.agg #[.int .i64 7, .int .i64 ((0 : Nat) : Int), .int .i64 ((12 : Nat) : Int), .int .i64 0, .string ⟨#[]⟩, .slice (some ⟨wr.heap.size, 0, none⟩) 1 1]) (zPat A B (i + 1)).tree := by
       rw [<- hW9]
       exact (((((hT8.far (p := ⟨Z, 0, none⟩) (fun g h => h) _).far (p := ⟨Z, 1, none⟩) (fun g h => h) _).far (p := ⟨Z, 2, none⟩) (fun g h => h) _).far (p := ⟨Z, 3, none⟩) (fun g h => h) _).far (p := ⟨Z, 4, none⟩) (fun g h => h) _).far (p := ⟨Z, 5, none⟩) (fun g h => h) _
      have hZw0 : w.heap.size <= Z := by have := HZ.out; have := HZL.out; omega
      have hb9 : Below w.heap.size w W9 := by
       rw [<- hW9]
       exact ((((((HB.out.trans (hb8.mono HB.out.size)).setCell (p := ⟨Z, 0, none⟩) hZw0 _).setCell (p := ⟨Z, 1, none⟩) hZw0 _).setCell (p := ⟨Z, 2, none⟩) hZw0 _).setCell (p := ⟨Z, 3, none⟩) hZw0 _).setCell (p := ⟨Z, 4, none⟩) hZw0 _).setCell (p := ⟨Z, 5, none⟩) hZw0 _
      have hnx := zPat_next A B i
      rw [HSZ.out] at hnx
      rw [<- hW8] at g0 g1 g2 g3 g4 g5 n0 n1 n2 n3 n4 n5
      have hw89 := hW9
      rw [<- hW8] at hw89
      have HX9 := Lib.hid hx9; have HT9 := Lib.hid hT9; have HB9 := Lib.hid hb9; have HNX := Lib.hid hnx; have HW89 := Lib.hid hw89
      clear hw89 hW8 hb8 hx8 hz8 hZw hT8 hW9 hx9 hT9 hZw0 hb9 hnx
      by_cases hbig : 1000000000 < 12 * sz
      ·have hbi : (1000000000 : Int) < 12 * (sz : Int) := by omega
       have hmn : min (12 * (sz : Int)) 1000000000 = 1000000000 := by omega
       go_wp2_with fail
       go_roundg (k2 - (i + 1))
       case measure => have := HGK.out; omega
       case rel => exact ⟨i + 1, 1000000000, 0, 12, wr.heap.size, rfl, by go_num, rfl, by omega, by omega, Lib.hid (by rw [HNX.out]; omega), Lib.hid (by rw [HW89.out]; exact HX9.out), Lib.hid (by rw [HW89.out]; exact HT9.out), Lib.hid (by rw [HW89.out]; exact HB9.out)⟩
      ·have hbi : ¬ (1000000000 : Int) < 12 * (sz : Int) := by omega
       have hmn : min (12 * (sz : Int)) 1000000000 = 12 * (sz : Int) := by omega
       go_wp2_with fail
       go_roundg (k2 - (i + 1))
       case measure => have := HGK.out; omega
       case rel => exact ⟨i + 1, 12 * sz, 0, 12, wr.heap.size, by congr 1, by go_num, rfl, by omega, by omega, Lib.hid (by rw [HNX.out]; omega), Lib.hid (by rw [HW89.out]; exact HX9.out), Lib.hid (by rw [HW89.out]; exact HT9.out), Lib.hid (by rw [HW89.out]; exact HB9.out)⟩
     ·have i1 : ¬ (i : Int) < (k2 : Int) := by omega
      have d1 : decide (i < k2) = false := by simpa using hlt
      have hsc := ssize_ok (zPat A B i) (zPat_hb hA1 hB1 hB0 i) wr _ _ HT.out
      rw [HSZ.out] at hsc
      have HSC := Lib.hid hsc
      clear hsc
      go_wp2_with fail
      refine HSC.out.mono ?_
      rintro e w8 ⟨rfl, hb8⟩
      have HB8 := Lib.hid (HB.out.trans (hb8.mono HB.out.size))
      clear hb8
      go_wp2_with fail
      go_ret
      exact ⟨rfl, HB8.out⟩
end Go.Proofs.YtfccnadbiglagaaGreat
