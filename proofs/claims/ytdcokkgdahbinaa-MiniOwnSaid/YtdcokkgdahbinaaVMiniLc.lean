/- known: the chapter's example. -/
import Derived.Test.YtdcokkgdahbinaaVMiniLa
set_option linter.unusedVariables false
set_option linter.unusedSimpArgs false
set_option maxRecDepth 100000
set_option maxHeartbeats 8000000
namespace Go.Proofs.Ytdcokkgdahbinaa
open Go Go.RowKit Go.Proofs
theorem known_any (w : World) : Calls Try.prog 13 #[] w fun e w' => e = .returned (.bool true) /\ Below w.heap.size w w' := by
 go_enter Try.func13, Try.ntmps13
 go_wp2_with fail
 obtain ⟨W0, hW0⟩ : ∃ W0, ((w.alloc (.cells #[.int .i64 0] 3)).alloc (.cells #[.slice (some ⟨w.heap.size, 0, none⟩) 1 1] 22)).alloc (.cells #[.int .i64 5] 3) = W0 := ⟨_, rfl⟩
 have hb0 : Below w.heap.size w W0 := by rw [<- hW0]; exact (((Below.refl _ _).alloc (Nat.le_refl _) _).alloc (by simp) _).alloc (by simp; omega) _
 have x0 : Blk W0 w.heap.size 3 #[.int .i64 0] := by rw [<- hW0]; exact ((Blk.new _ _ _).alloc _).alloc _
 have x1 : Blk W0 (w.heap.size + 1) 22 #[.slice (some ⟨w.heap.size, 0, none⟩) 1 1] := by
  rw [<- hW0]
  have := Blk.new (w.alloc (.cells #[.int .i64 0] 3)) 22 #[.slice (some ⟨w.heap.size, 0, none⟩) 1 1]
  rw [World.size_alloc] at this
  exact this.alloc _
 have x2 : Blk W0 (w.heap.size + 1 + 1) 3 #[.int .i64 5] := by
  rw [<- hW0]
  have := Blk.new ((w.alloc (.cells #[.int .i64 0] 3)).alloc (.cells #[.slice (some ⟨w.heap.size, 0, none⟩) 1 1] 22)) 3 #[.int .i64 5]
  rw [World.size_alloc, World.size_alloc] at this
  exact this
 rw [hW0]
 have hT : NextR W0 (.slice (some ⟨w.heap.size + 1, 0, none⟩) 1 1) T1 := ⟨_, 1, rfl, Nat.le_refl _, by unfold maxLen; omega, (fun e => by cases e), fun i hi => by
  obtain rfl : i = 0 := by have : i < 1 := hi; omega
  exact ⟨_, 0, _, rfl, x1.cell 0, readsI_blk (l := [0]) x0 (by decide)⟩⟩
 refine (back_any (outs := [5]) hT rfl rect1 (readsI_blk (l := [5]) x2 (by decide)) (by omega) (by omega) (fun x => by
  cases x with
  | zero => decide
  | succ x => simp)).mono ?_
 rintro e w1 ⟨vn, vo, gn, f, rfl, -, hn, ho, hnm, hbl⟩
 rw [rep1] at hn ho
 replace hn : OwnLL w1 W0.heap.size 22 3 1 vn 1 _ := hn
 replace ho : Own w1 W0.heap.size vo 1 _ := ho
 have hbw := hb0.trans (hbl.mono hb0.size)
 obtain ⟨NA, nc, rfl, hnc, hnc2⟩ := hn.form'
 obtain ⟨OA, oc, rfl, hoc, hoc2, -⟩ := ho.readsI.form
 obtain ⟨ob, oo, eo, -, co⟩ := ho.readsI.at 0 (by decide)
 obtain ⟨nb, no, en, -, cn⟩ := hnm.readsI.at 0 (by decide)
 subst eo
 simp only [Option.some.injEq, Addr.mk.injEq, and_true] at en
 obtain ⟨rfl, rfl⟩ := en
 have e1 : (rowZ 1 (nameN T1 (EF f))).getD 0 0 = 0 := name1 f
 rw [e1] at cn
 have e2 : (([0] : List Nat).map fun x => (([5] : List Nat).getD x 0 : Int)).getD 0 0 = 5 := rfl
 rw [e2] at co
 have HBW := Lib.hid hbw
 have CO := Lib.hid co; have CN := Lib.hid cn
 clear hb0 x0 x1 x2 hT hbl hn ho hnm hbw co cn e1 e2 hW0
 go_wp2_with fail
 obtain ⟨b0, hb0⟩ : ∃ b, b = w1.heap.size := ⟨_, rfl⟩
 obtain ⟨b1, hb1⟩ : ∃ b, b = w1.heap.size + 1 := ⟨_, rfl⟩
 obtain ⟨b2, hb2⟩ : ∃ b, b = w1.heap.size + 1 + 1 := ⟨_, rfl⟩
 obtain ⟨b3, hb3⟩ : ∃ b, b = w1.heap.size + 1 + 1 + 1 := ⟨_, rfl⟩
 obtain ⟨b4, hb4⟩ : ∃ b, b = w1.heap.size + 1 + 1 + 1 + 1 := ⟨_, rfl⟩
 obtain ⟨b5, hb5⟩ : ∃ b, b = w1.heap.size + 1 + 1 + 1 + 1 + 1 := ⟨_, rfl⟩
 obtain ⟨b6, hb6⟩ : ∃ b, b = w1.heap.size + 1 + 1 + 1 + 1 + 1 + 1 := ⟨_, rfl⟩
 rw [<- hb6, <- hb5, <- hb4, <- hb3, <- hb2, <- hb1, <- hb0]
 have z0 : w1.heap.size = b0 := hb0.symm
 obtain ⟨U1, hu0⟩ : ∃ U, w1.alloc (.cells #[.slice NA 1 nc, .slice (some ⟨ob, oo, none⟩) 1 oc] 26) = U := ⟨_, rfl⟩
 have x0 : Blk U1 b0 26 #[.slice NA 1 nc, .slice (some ⟨ob, oo, none⟩) 1 oc] := by rw [<- hu0, <- z0]; exact Blk.new _ _ _
 have z1 : U1.heap.size = b1 := by rw [<- hu0, World.size_alloc, z0]; omega
 have y0 : Below w1.heap.size w1 U1 := by rw [<- hu0]; exact (Below.refl _ _).alloc (Nat.le_refl _) _
 have y := y0
 obtain ⟨U2, hu1⟩ : ∃ U, U1.alloc (.cells #[.int .i64 1] 3) = U := ⟨_, rfl⟩
 have x1 : Blk U2 b1 3 #[.int .i64 1] := by rw [<- hu1, <- z1]; exact Blk.new _ _ _
 have z2 : U2.heap.size = b2 := by rw [<- hu1, World.size_alloc, z1]; omega
 have y1 : Below U1.heap.size U1 U2 := by rw [<- hu1]; exact (Below.refl _ _).alloc (Nat.le_refl _) _
 replace x0 := Blk.below x0 y1 x0.lt
 have y := y.trans (y1.mono y.size)
 obtain ⟨U3, hu2⟩ : ∃ U, U2.alloc (.cells #[.int .i64 0] 3) = U := ⟨_, rfl⟩
 have x2 : Blk U3 b2 3 #[.int .i64 0] := by rw [<- hu2, <- z2]; exact Blk.new _ _ _
 have z3 : U3.heap.size = b3 := by rw [<- hu2, World.size_alloc, z2]; omega
 have y2 : Below U2.heap.size U2 U3 := by rw [<- hu2]; exact (Below.refl _ _).alloc (Nat.le_refl _) _
 replace x0 := Blk.below x0 y2 x0.lt
 replace x1 := Blk.below x1 y2 x1.lt
 have y := y.trans (y2.mono y.size)
 obtain ⟨U4, hu3⟩ : ∃ U, U3.alloc (.cells #[.slice (some ⟨b1, 0, none⟩) 1 1, .slice (some ⟨b2, 0, none⟩) 1 1] 22) = U := ⟨_, rfl⟩
 have x3 : Blk U4 b3 22 #[.slice (some ⟨b1, 0, none⟩) 1 1, .slice (some ⟨b2, 0, none⟩) 1 1] := by rw [<- hu3, <- z3]; exact Blk.new _ _ _
 have z4 : U4.heap.size = b4 := by rw [<- hu3, World.size_alloc, z3]; omega
 have y3 : Below U3.heap.size U3 U4 := by rw [<- hu3]; exact (Below.refl _ _).alloc (Nat.le_refl _) _
 replace x0 := Blk.below x0 y3 x0.lt
 replace x1 := Blk.below x1 y3 x1.lt
 replace x2 := Blk.below x2 y3 x2.lt
 have y := y.trans (y3.mono y.size)
 obtain ⟨U5, hu4⟩ : ∃ U, U4.alloc (.cells #[.int .i64 1, .int .i64 2, .int .i64 3] 53) = U := ⟨_, rfl⟩
 have x4 : Blk U5 b4 53 #[.int .i64 1, .int .i64 2, .int .i64 3] := by rw [<- hu4, <- z4]; exact Blk.new _ _ _
 have z5 : U5.heap.size = b5 := by rw [<- hu4, World.size_alloc, z4]; omega
 have y4 : Below U4.heap.size U4 U5 := by rw [<- hu4]; exact (Below.refl _ _).alloc (Nat.le_refl _) _
 replace x0 := Blk.below x0 y4 x0.lt
 replace x1 := Blk.below x1 y4 x1.lt
 replace x2 := Blk.below x2 y4 x2.lt
 replace x3 := Blk.below x3 y4 x3.lt
 have y := y.trans (y4.mono y.size)
 obtain ⟨U6, hu5⟩ : ∃ U, U5.alloc (.cells #[.int .i64 1, .int .i64 2, .int .i64 3] 53) = U := ⟨_, rfl⟩
 have x5 : Blk U6 b5 53 #[.int .i64 1, .int .i64 2, .int .i64 3] := by rw [<- hu5, <- z5]; exact Blk.new _ _ _
 have z6 : U6.heap.size = b6 := by rw [<- hu5, World.size_alloc, z5]; omega
 have y5 : Below U5.heap.size U5 U6 := by rw [<- hu5]; exact (Below.refl _ _).alloc (Nat.le_refl _) _
 replace x0 := Blk.below x0 y5 x0.lt
 replace x1 := Blk.below x1 y5 x1.lt
 replace x2 := Blk.below x2 y5 x2.lt
 replace x3 := Blk.below x3 y5 x3.lt
 replace x4 := Blk.below x4 y5 x4.lt
 have y := y.trans (y5.mono y.size)
 obtain ⟨U7, hu6⟩ : ∃ U, U6.alloc (.cells #[.slice (some ⟨b4, 0, none⟩) 1 1, .slice (some ⟨b5, 0, none⟩) 1 1] 42) = U := ⟨_, rfl⟩
 have x6 : Blk U7 b6 42 #[.slice (some ⟨b4, 0, none⟩) 1 1, .slice (some ⟨b5, 0, none⟩) 1 1] := by rw [<- hu6, <- z6]; exact Blk.new _ _ _
 have z7 : U7.heap.size = b6 + 1 := by rw [<- hu6, World.size_alloc, z6]
 have y6 : Below U6.heap.size U6 U7 := by rw [<- hu6]; exact (Below.refl _ _).alloc (Nat.le_refl _) _
 replace x0 := Blk.below x0 y6 x0.lt
 replace x1 := Blk.below x1 y6 x1.lt
 replace x2 := Blk.below x2 y6 x2.lt
 replace x3 := Blk.below x3 y6 x3.lt
 replace x4 := Blk.below x4 y6 x4.lt
 replace x5 := Blk.below x5 y6 x5.lt
 have y := y.trans (y6.mono y.size)
 rw [hu0, hu1, hu2, hu3, hu4, hu5, hu6]
 have hT2 : NextR U7 (.slice (some ⟨b3, 0, none⟩) 2 2) T2 := ⟨_, 2, rfl, Nat.le_refl _, by unfold maxLen; omega, (fun e => by cases e), fun i hi => by
  rcases (show i = 0 \/ i = 1 by have : i < 2 := hi; omega) with rfl | rfl
  ·exact ⟨_, 0, _, rfl, x3.cell 0, readsI_blk (l := [1]) x1 (by decide)⟩
  ·exact ⟨_, 0, _, rfl, x3.cell 1, readsI_blk (l := [0]) x2 (by decide)⟩⟩
 have hE2 : EmitR U7 (.slice (some ⟨b6, 0, none⟩) 2 2) E2 := ⟨_, 2, rfl, Nat.le_refl _, by unfold maxLen; omega, (fun e => by cases e), fun i hi => by
  rcases (show i = 0 \/ i = 1 by have : i < 2 := hi; omega) with rfl | rfl
  ·exact ⟨_, 0, _, rfl, x6.cell 0, readsV_blk (1, 2, 3) x4⟩
  ·exact ⟨_, 0, _, rfl, x6.cell 1, readsV_blk (1, 2, 3) x5⟩⟩
 have co7 := bel_m y CO.out; have cn7 := bel_m y CN.out
 have HBW7 := Lib.hid (HBW.out.trans (y.mono HBW.out.size))
 have HX0 := Lib.hid x0; have CO7 := Lib.hid co7; have CN7 := Lib.hid cn7
 refine (fwd_any (q := 1) hT2 rfl rect2 hE2 rfl (fun i hi => by rw [E2_at hi]; rfl) (by omega) (fun i hi u hu c => by
  rw [E2_at hi] at hu
  have : u = (1, 2, 3) := by simpa using hu
  subst this
  unfold In64 atV
  split
  ·decide
  ·split <;> decide) (by omega) (by omega)).mono ?_
 rintro e w2 ⟨vn, vo, gm, f2, rfl, hff, hn, ho, hnm, hbl⟩
 have h01 : f2 0 = f2 1 := (hff 0 1 (by decide) (by decide)).2 alike2
 rw [rep2 f2 h01] at hn ho
 replace hn : OwnLL w2 U7.heap.size 22 3 1 vn 1 _ := hn
 replace ho : OwnLL w2 U7.heap.size 42 53 3 vo 1 _ := ho
 have hTn : NextR w2 vn T1 := hn.nextR rfl (fun i hi => by
  obtain rfl : i = 0 := by omega
  have e := name2 f2 h01 (s := 1) (by decide)
  simp [xssN, rowsN, T2, T1, intsN, T2.eq_1 ▸ e] <;> exact e)
 have hEn : EmitR w2 vo [[(1, 2, 3)]] := ho.emitR rfl (fun i hi => by
  obtain rfl : i = 0 := by omega
  rfl)
 obtain ⟨NB, nd, rfl, hnd, hnd2⟩ := hn.form'
 obtain ⟨OB, od, rfl, hod, hod2⟩ := ho.form'
 obtain ⟨mb, mo, em, -, cm⟩ := hnm.readsI.at 1 (by decide)
 simp only [Option.some.injEq, Addr.mk.injEq, and_true] at em
 obtain ⟨rfl, rfl⟩ := em
 have e3 : (rowZ 2 (nameN T2 (EF f2))).getD 1 0 = 0 := name2 f2 h01 (s := 1) (by decide)
 rw [e3] at cm
 have x0b := Blk.below HX0.out hbl HX0.out.lt
 have co8 := bel_m hbl CO7.out; have cn8 := bel_m hbl CN7.out
 have HBW8 := Lib.hid (HBW7.out.trans (hbl.mono HBW7.out.size))
 have HTN := Lib.hid hTn; have HEN := Lib.hid hEn; have HX8 := Lib.hid x0b; have CO8 := Lib.hid co8; have CN8 := Lib.hid cn8; have CM8 := Lib.hid cm
 clear hT2 hE2 hff hn ho hnm hbl h01 hTn hEn e3 cm x0b co8 cn8 co7 cn7 x0 x1 x2 x3 x4 x5 x6 y y0 y1 y2 y3 y4 y5 y6 z0 z1 z2 z3 z4 z5 z6 z7 hu0 hu1 hu2 hu3 hu4 hu5 hu6 hb0 hb1 hb2 hb3 hb4 hb5 hb6
 go_wp2_with fail
 obtain ⟨p0, hp0⟩ : ∃ p, p = w2.heap.size := ⟨_, rfl⟩
 obtain ⟨p1, hp1⟩ : ∃ p, p = w2.heap.size + 1 := ⟨_, rfl⟩
 rw [<- hp1, <- hp0]
 obtain ⟨P1, hP1⟩ : ∃ P, w2.alloc (.cells #[.slice NB 1 nd, .slice OB 1 od] 30) = P := ⟨_, rfl⟩
 obtain ⟨P2, hP2⟩ : ∃ P, P1.alloc (.cells #[.int .i64 0, .int .i64 0] 3) = P := ⟨_, rfl⟩
 have xp0 : Blk P1 p0 30 #[.slice NB 1 nd, .slice OB 1 od] := by rw [<- hP1, hp0]; exact Blk.new _ _ _
 have z1 : P1.heap.size = p1 := by rw [<- hP1, World.size_alloc, hp1]
 have xp1 : Blk P2 p1 3 #[.int .i64 0, .int .i64 0] := by rw [<- hP2, <- z1]; exact Blk.new _ _ _
 have yp1 : Below w2.heap.size w2 P1 := by rw [<- hP1]; exact (Below.refl _ _).alloc (Nat.le_refl _) _
 have yp2 : Below P1.heap.size P1 P2 := by rw [<- hP2]; exact (Below.refl _ _).alloc (Nat.le_refl _) _
 have yp := yp1.trans (yp2.mono yp1.size)
 replace xp0 := Blk.below xp0 yp2 xp0.lt
 rw [hP1, hP2]
 have hpk := pick_any (T := T1) (E := [[(1, 2, 3)]]) (q := 1) (l := 2) (lc := 2) (ls := [0, 0]) (HTN.out.below yp) rfl rect1 (HEN.out.below yp) rfl (fun i hi => by
  obtain rfl : i = 0 := by omega
  rfl) (by omega) (readsI_blk (l := [0, 0]) xp1 (by decide)) (by decide) (by omega) (by omega) (by omega)
 have HPK := Lib.hid hpk; have HXP := Lib.hid xp0; have HX9 := Lib.hid (Blk.below HX8.out yp HX8.out.lt); have CO9 := Lib.hid (bel_m yp CO8.out); have CN9 := Lib.hid (bel_m yp CN8.out); have CM9 := Lib.hid (bel_m yp CM8.out); have HBW9 := Lib.hid (HBW8.out.trans (yp.mono HBW8.out.size))
 clear hpk xp0 xp1 yp yp1 yp2 z1 hP1 hP2 hp0 hp1
 refine HPK.out.mono ?_
 rintro e w3 ⟨vn, vo, rfl, hn, ho, hbl⟩
 have hEn : EmitR w3 vo [[(1, 2, 3), (1, 2, 3)]] := ho.emitR rfl (fun i hi => by
  obtain rfl : i = 0 := by omega
  rfl)
 obtain ⟨NC, ne, rfl, hne, hne2⟩ := hn.form'
 obtain ⟨OC, oe, rfl, hoe, hoe2⟩ := ho.form'
 obtain ⟨vb, vo, VA, vm, vc, ev, hvm, cv, -, hvc, hvc2⟩ := hEn.at_ (i := 0) (by decide)
 subst ev
 obtain rfl : vm = 2 := hvm
 obtain ⟨w4, hw4⟩ : ∃ w4, w3.alloc (.cells #[.slice NC 1 ne, .slice (some ⟨vb, vo, none⟩) 1 oe] 30) = w4 := ⟨_, rfl⟩
 have y4 : Below w3.heap.size w3 w4 := by rw [<- hw4]; exact (Below.refl _ _).alloc (Nat.le_refl _) _
 have yy := hbl.trans (y4.mono hbl.size)
 have xa := Blk.below HX9.out yy HX9.out.lt
 have xb := Blk.below HXP.out yy HXP.out.lt
 have r0 := xa.cell 0; have r1 := xa.cell 1; have r2 := xb.cell 0; have r3 := xb.cell 1
 simp only [List.getElem?_toArray, List.getElem?_cons_zero, List.getElem?_cons_succ] at r0 r1 r2 r3
 have r4 := bel_m yy CO9.out; have r5 := bel_m yy CN9.out; have r6 := bel_m yy CM9.out; have r7 := bel_m y4 cv
 have HBF := Lib.hid (HBW9.out.trans (yy.mono HBW9.out.size))
 rw [Nat.add_zero] at r4 r5 r7
 try rw [Nat.zero_add] at r6
 rw [<- hw4] at r0 r1 r2 r3 r4 r5 r6 r7
 have HW4 := Lib.hid hw4
 clear hn ho hbl hEn hw4 y4 yy xa xb cv HX9 HXP CO9 CN9 CM9 HPK HTN HEN HX8 CO8 CN8 CM8 HBW8 HBW9 HX0 CO7 CN7 HBW7 HBW CO CN
 go_wp2_with fail
 go_ret
 refine ⟨rfl, ?_⟩
 rw [HW4.out]
 exact HBF.out
end Go.Proofs.Ytdcokkgdahbinaa
