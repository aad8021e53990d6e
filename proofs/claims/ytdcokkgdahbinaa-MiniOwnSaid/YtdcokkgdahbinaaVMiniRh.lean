/- The chapter's own Back. Two rows of Vecs compared, whatever they say. The chapter's own Fwd. -/
import Derived.Test.YtdcokkgdahbinaaVMiniRe
import Derived.Test.YtdcokkgdahbinaaVMiniMj
set_option linter.unusedVariables false
set_option linter.unusedSimpArgs false
set_option maxRecDepth 100000
set_option maxHeartbeats 8000000
namespace Go.Proofs.Ytdcokkgdahbinaa
open Go Go.RowKit Go.Proofs
theorem NmS.ll {w wr : World} {B g n k kk : Nat} {Q : List (List Nat)} {F : Nat -> Int} {m : List Nat} {v9 v10 : Value} {vals : List Value} (h : NmS w wr B g n k Q F m v9 v10 kk vals) (hk : ∀ q, q < kk -> (Q.getD q []).length = k) : OwnLL wr B 22 3 1 v10 kk (xssT Q kk) := by
 refine ⟨by simp [xssT], vals, h.out, fun q hq => ?_⟩
 have hr := (h.rows q hq).1
 rw [xssT_at Q hq, hk q hq]
 refine ⟨hr, ?_⟩
 cases hv : v10.ownBlock with
 | none => exact .inl hv
 | some z => exact .inr (.inr (fun e => rows_ne h.out hr (by decide) z hv (by rw [<- e]; exact hv)))
theorem names_rowZ {T : List (List Nat)} {k n : Nat} {E : Nat -> Nat -> Bool} (hT : RectN T k) (hE : EqvN E) (hS : StepN T k E) : (rowZ n fun i => if decide (i ∈ metN T) then atF E (repN T E) i else -1) = rowZ n (nameN T E) := rowZ_eq fun j _ => by
 by_cases h : j ∈ metN T
 ·obtain ⟨u, hu, he, -⟩ := rep_of hT hE hS h
  rw [if_pos (by simpa using h)]
  unfold nameN atF
  rw [if_pos h, if_pos (List.any_eq_true.2 ⟨u, List.mem_of_getElem? hu, he⟩)]
 ·rw [if_neg (by simpa using h)]
  unfold nameN
  rw [if_neg h]
structure RBk (t : TypeId) (W3 wr : World) (b3 : Nat) (X Y : Value) (i : Nat) (l : List Nat) : Prop where
 box : Blk wr b3 t #[X, Y]
 row : Own wr W3.heap.size Y i (intsN l)
 fr : Fr (fun q => q = b3) W3 wr
theorem RBk.push {t : TypeId} {W3 wr V V2 : World} {b3 : Nat} {X Y : Value} {i z g7 c7 : Nat} {l : List Nat} (h : RBk t W3 wr b3 X Y i l) (hb : Below wr.heap.size wr V) (q1 : V2.ownsRow W3.heap.size 3 1 (sl g7 (i + 1) c7) (i + 1) ((intsN l).map (Value.int .i64) ++ #[Value.int .i64 (z : Int)].toList)) (q2 : V.grownBy V2 Y.ownBlock) (ht : t ≠ 3) :
  RBk t W3 (V2.setCell ⟨b3, 1, none⟩ (sl g7 (i + 1) c7)) b3 X (sl g7 (i + 1) c7) (i + 1) (l ++ [z]) /\ Blk V2 b3 t #[X, Y] := by
  have hy : Own V W3.heap.size Y i (intsN l) := h.row.below_top hb
  have hx : Blk V2 b3 t #[X, Y] := blkTurn (Blk.below h.box hb h.box.lt) hy q2 ht
  have e : (intsN l).map (Value.int .i64) ++ #[Value.int .i64 (z : Int)].toList = (intsN (l ++ [z])).map (Value.int .i64) := by simp [intsN]
  rw [e] at q1
  have hf : Fr (fun q => q = b3) V2 (V2.setCell ⟨b3, 1, none⟩ (sl g7 (i + 1) c7)) := (Fr.refl (fun q => q = b3) V2).set_ (p := ⟨b3, 1, none⟩) (.inl rfl) _
  refine ⟨⟨by have := hx.set_ 1 (sl g7 (i + 1) c7); simpa using this, rowFr q1 hf (fun q hq e => by subst e; exact blk_ne hx q1 ht hq), ?_⟩, hx⟩
  have h1 : Fr (fun q => q = b3) W3 V := h.fr.then_ (Fr.of_below (X := fun _ => False) hb) (fun _ _ e => e.elim)
  have h2 : Fr (fun q => q = b3) W3 V2 := h1.then_ (Fr.of_grown (X := fun k => Y.ownBlock = some k) q2 (fun k hk => hk)) (fun k hk e => by have := (hy.lt k e).1; omega)
  exact h2.then_ hf (fun _ _ e => e)
theorem rback_mach {w : World} {NA OA : Option Addr} {nc oc n k : Nat} {T : List (List Nat)} {outs : List Nat} (h : NextR w (.slice NA n nc) T) (hl : T.length = n) (hT : RectN T k) (ho : ReadsI w (.slice OA n oc) n (intsN outs)) (hn : n <= 1000) (hk : k <= 1000) (hk0 : 0 < k) (hob : ∀ x, outs.getD x 0 <= 9223372036854775807) :
  Calls Try.prog 17 #[.agg #[.slice NA n nc, .slice OA n oc]] w fun e w' => ∃ NB nd OB od GA gc f r, e = .returned (.tuple #[.agg #[.slice NB r nd, .slice OB r od], .slice GA n gc]) /\ MachF T k (fun x => outs.getD x 0) f r /\
   NextR w' (.slice NB r nd) (quoN T (EF f)) /\ ReadsI w' (.slice OB r od) r (intsN (quoO T f outs)) /\ ReadsI w' (.slice GA n gc) n (rowZ n (nameN T (EF f))) /\ r <= nd /\ nd <= 9223372036854775807 /\ r <= od /\ od <= 9223372036854775807 /\ Below w.heap.size w w' := by
  have hpos : 0 < n := by have := hT.pos; omega
  obtain ⟨OA', c', e, hoc, hoc2, -⟩ := ho.form
  simp only [Value.slice.injEq, true_and] at e
  obtain ⟨rfl, rfl⟩ := e
  obtain ⟨NA', nc', e, hnc, hnc2⟩ := h.form
  rw [hl] at hnc
  simp only [Value.slice.injEq] at e
  obtain ⟨rfl, -, rfl⟩ := e
  obtain ⟨g, hg⟩ : ∃ g : Nat -> Nat, (fun x => outs.getD x 0) = g := ⟨_, rfl⟩
  have hgx : ∀ x, (intsN outs).getD x 0 = ((g x : Nat) : Int) := fun x => by rw [intsN_at, <- hg]
  obtain ⟨W0, hW0⟩ : ∃ W, (w.alloc (.cells #[.slice NA n nc, .slice OA n oc] 26)).alloc (.cells #[.slice none 0 0, .slice none 0 0] 26) = W := ⟨_, rfl⟩
  have hb0 : Below w.heap.size w W0 := by rw [<- hW0]; exact ((Below.refl _ _).alloc (Nat.le_refl _) _).alloc (by simp) _
  have hx1 : Blk W0 w.heap.size 26 #[.slice NA n nc, .slice OA n oc] := by rw [<- hW0]; exact (Blk.new _ _ _).alloc _
  have hx2 : Blk W0 (w.heap.size + 1) 26 #[.slice none 0 0, .slice none 0 0] := by
   rw [<- hW0]
   have := Blk.new (w.alloc (.cells #[.slice NA n nc, .slice OA n oc] 26)) 26 #[.slice none 0 0, .slice none 0 0]
   rw [World.size_alloc] at this
   exact this
  obtain ⟨b1, hb1⟩ : ∃ b, b = w.heap.size := ⟨_, rfl⟩
  obtain ⟨b2, hb2⟩ : ∃ b, b = w.heap.size + 1 := ⟨_, rfl⟩
  rw [<- hb1] at hx1
  rw [<- hb2] at hx2
  have z1 : b1 < b2 := by omega
  have z2 : w.heap.size <= b2 := by omega
  have HNR := Lib.hid (h.below hb0); have HOR := Lib.hid (ho.below hb0); have HL := Lib.hid hl; have HT := Lib.hid hT; have HG := Lib.hid hgx; have HB0 := Lib.hid hb0; have HX1 := Lib.hid hx1; have HX2 := Lib.hid hx2; have HW0 := Lib.hid hW0; have HB1 := Lib.hid hb1; have HB2 := Lib.hid hb2; have HGE := Lib.hid hg; have HOB := Lib.hid hob
  clear h ho hl hT hgx hb0 hx1 hx2 hW0 hb1 hb2 hg hob
  have hmk := mkI_any n hn W0
  have ho1 := own_mk n hn W0
  have hbA : Below W0.heap.size W0 (W0.alloc (.cells (repA n (.int .i64 0)) 3)) := (Below.refl _ _).alloc (Nat.le_refl _) _
  obtain ⟨W1, hW1⟩ : ∃ V, W0.alloc (.cells (repA n (.int .i64 0)) 3) = V := ⟨_, rfl⟩
  rw [hW1] at hmk ho1 hbA
  obtain ⟨g0, hg0⟩ : ∃ g, g = W0.heap.size := ⟨_, rfl⟩
  rw [<- hg0] at hmk ho1
  rw [thF_start (lvR T k g 0) n] at ho1
  have HRE := Lib.hid (lvR_eqv (T := T) (k := k) (g := g) 0)
  have HR0 : Hid (∀ x y, lvR T k g 0 x y = (g x == g y)) := Lib.hid (fun x y => by
   rw [Bool.eq_iff_iff, lvR_zero]; simp)
  have c10 := HX1.out.cell 0
  simp only [List.getElem?_toArray, List.getElem?_cons_zero, List.getElem?_cons_succ] at c10
  have HO1 := Lib.hid ho1; have HBA := Lib.hid hbA; have HG0 := Lib.hid hg0
  have hb1g : b1 < g0 := by rw [hg0]; exact HX1.out.lt
  have hb2g : b2 < g0 := by rw [hg0]; exact HX2.out.lt
  obtain ⟨R, hR⟩ : ∃ R, lvR T k g 0 = R := ⟨_, rfl⟩
  rw [hR] at HRE HR0 HO1
  have HRR := Lib.hid hR
  clear hW1 ho1 hbA hg0 hR
  go_enter Try.func17, Try.ntmps17
  go_wp2_with fail
  rw [HW0.out, <- HB2.out, <- HB1.out]
  rw [hmk]
  clear hmk c10
  go_wp2_with fail
  go_loopw [5, 6] (fun v5 vi wr => ∃ i : Nat, vi = .int .i64 (i : Int) /\ i <= n /\ v5 = .int .i64 ((labC R i : Nat) : Int) /\ Hid (Own wr g0 (sl g0 n n) n (rowZ n (thF R n i 0))) /\ Hid (Below g0 W1 wr)) (fun _ vi _ => n - (intOf vi).toNat)
  case atStart => exact ⟨0, rfl, Nat.zero_le _, rfl, HO1, Lib.hid (Below.refl _ _)⟩
  case round =>
   clear HO1
   obtain ⟨i, rfl, hi, rfl, HO, HBW⟩ := hrel
   have i0 : (0 : Int) <= (i : Int) := Int.natCast_nonneg _
   by_cases hlt : i < n
   ·have i1 : (i : Int) < (n : Int) := by omega
    have t1 : decide (i < n) = true := by simpa using hlt
    have kf := World.ownsRow.frozenAt HO.out i
    obtain ⟨kv, kc⟩ : ∃ x, wr.cell? ⟨g0, i, none⟩ = some x := ⟨_, (World.ownsRow.cellAt HO.out i (by omega)).trans (List.getElem?_eq_getElem (by simp [rowZ]; omega))⟩
    have HO2 : Hid (Own (wr.setCell ⟨g0, i, none⟩ (.int .i64 (-1))) g0 (sl g0 n n) n (rowZ n (thF R n i (-1)))) := Lib.hid (by
     have h := (Own.stored HO.out i (-1)).1
     rw [thF_set] at h
     exact h)
    have HBZ := Lib.hid (HBW.out.setCell (p := ⟨g0, i, none⟩) (Nat.le_refl _) (.int .i64 (-1)))
    have hcl := labC_le R i
    generalize hcn : labC R i = cn at *
    have HCN := Lib.hid hcn
    clear hcn HO
    go_wp2_with fail
    clear kf kc
    generalize wr.setCell ⟨g0, i, none⟩ (.int .i64 (-1)) = V2 at *
    obtain ⟨wo, hwo⟩ : ∃ wo, wo = wr := ⟨_, rfl⟩
    clear hwo HBW
    go_loopw [7] (fun vk wr => ∃ (q : Nat) (v : Int), vk = .int .i64 (q : Int) /\ q <= i /\ Hid (Own wr g0 (sl g0 n n) n (rowZ n (thF R n i v))) /\ Hid ((v = -1 /\ ∀ j, j < q -> R j i = false) \/ (v = ((labF R n i : Nat) : Int) /\ ∃ j, j < i /\ R j i = true)) /\ Hid (Below g0 W1 wr)) (fun vk _ => i - (intOf vk).toNat)
    case atStart => exact ⟨0, -1, rfl, Nat.zero_le _, HO2, Lib.hid (.inl ⟨rfl, fun j hj => absurd hj (Nat.not_lt_zero j)⟩), HBZ⟩
    case round =>
     clear HO2 HBZ
     obtain ⟨q, v, rfl, hq, HO, HV, HBW⟩ := hrel
     have q0 : (0 : Int) <= (q : Int) := Int.natCast_nonneg _
     obtain ⟨_, _, ei, _, ci⟩ := HO.out.readsI.at i hlt
     simp only [sl, Option.some.injEq, Addr.mk.injEq, and_true] at ei
     obtain ⟨rfl, rfl⟩ := ei
     rw [rowZ_get _ hlt, thF_at, Nat.zero_add] at ci
     have kf := World.ownsRow.frozenAt HO.out i
     rcases HV.out with ⟨rfl, hno⟩ | ⟨hv, j, hj, hyes⟩
     ·by_cases hlq : q < i
      ·have qi : (q : Int) < (i : Int) := by omega
       have t2 : decide (q < i) = true := by simpa using hlq
       have hqn : q < n := by omega
       have q1 : (q : Int) < (n : Int) := by omega
       obtain ⟨_, _, eq, _, cq⟩ := HO.out.readsI.at q hqn
       simp only [sl, Option.some.injEq, Addr.mk.injEq, and_true] at eq
       obtain ⟨rfl, rfl⟩ := eq
       rw [rowZ_get _ hqn, thF_lt _ _ _ hlq, Nat.zero_add] at cq
       have hbw : Below W0.heap.size W0 wr := HBA.out.trans (HBW.out.mono (Nat.le_of_eq HG0.out.symm))
       have c11 := (Blk.below HX1.out hbw HX1.out.lt).cell 1
       simp only [List.getElem?_toArray, List.getElem?_cons_zero, List.getElem?_cons_succ] at c11
       have hp := HOR.out.below hbw
       obtain ⟨g3, o3, e3, -, d3⟩ := hp.at q hqn
       obtain ⟨g4, o4, e4, -, d4⟩ := hp.at i hlt
       subst e3
       simp only [Option.some.injEq, Addr.mk.injEq, and_true] at e4
       obtain ⟨rfl, rfl⟩ := e4
       rw [HG.out] at d3 d4
       have hr := HR0.out q i
       have HCG : Hid (R q i = true -> labF R n q = labF R n i) := Lib.hid (fun e => lab_congr HRE.out e)
       have HNO := Lib.hid hno
       clear hno hbw hp HV
       obtain ⟨y1, hy1⟩ : ∃ y, g q = y := ⟨_, rfl⟩
       obtain ⟨y2, hy2⟩ : ∃ y, g i = y := ⟨_, rfl⟩
       rw [hy1] at d3 hr
       rw [hy2] at d4 hr
       obtain ⟨lq, hlqe⟩ : ∃ y, labF R n q = y := ⟨_, rfl⟩
       rw [hlqe] at cq HCG
       clear hy1 hy2 hlqe
       by_cases hy : y1 = y2
       ·subst hy
        have HRQ : Hid (R q i = true) := Lib.hid (by rw [hr]; simp)
        clear hr
        go_wp2_with fail
        go_quiet (fail)
        go_wp2_with fail
        refine ⟨⟨q + 1, ((lq : Nat) : Int), by go_num, by omega, Lib.hid ?_, Lib.hid (.inr ⟨by rw [HCG.out HRQ.out], q, hlq, HRQ.out⟩), Lib.hid ((below_drewN HBW.out nq).setCell (p := ⟨g0, i, none⟩) (Nat.le_refl _) _)⟩, by simp [intOf]; omega⟩
        have h := (Own.stored (w := wr.drewN nq) (l := rowZ n (thF R n i (-1))) HO.out i (lq : Int)).1
        rw [thF_set] at h
        exact h
       ·have t3 : ((y1 : Int) == (y2 : Int)) = false := by simp; omega
        have t4 : (y1 == y2) = false := by simpa using hy
        have t5 : ¬ (y1 : Int) = (y2 : Int) := by omega
        have HRQ : Hid (R q i = false) := Lib.hid (by rw [hr, t4])
        clear hr
        go_wp2_with fail
        go_quiet (fail)
        go_wp2_with fail
        refine ⟨⟨q + 1, -1, by go_num, by omega, HO, Lib.hid (.inl ⟨rfl, fun j hj => ?_⟩), Lib.hid (below_drewN HBW.out nq)⟩, by simp [intOf]; omega⟩
        rcases Nat.lt_or_ge j q with z | z
        ·exact HNO.out j z
        ·obtain rfl : j = q := by omega
         exact HRQ.out
      ·obtain rfl : i = q := by omega
       obtain ⟨hn1, hn2⟩ := lab_new HRE.out hlt hno
       rw [HCN.out] at hn1 hn2
       have HN1 := Lib.hid hn1; have HN2 := Lib.hid hn2
       have t2 : decide (i < i) = false := by simp
       obtain ⟨kv, kc⟩ : ∃ x, wr.cell? ⟨g0, i, none⟩ = some x := ⟨_, ci⟩
       have cn0 : (0 : Int) <= (cn : Int) := Int.natCast_nonneg _
       clear hn1 hn2 hno HV kc
       go_wp2_with fail
       refine ⟨⟨i + 1, by go_num, by omega, by rw [HN2.out]; go_num, Lib.hid ?_, Lib.hid (HBW.out.setCell (p := ⟨g0, i, none⟩) (Nat.le_refl _) _)⟩, by simp [intOf]; omega⟩
       have h := (Own.stored HO.out i (cn : Int)).1
       rw [thF_set, thF_done R n i (by rw [HN1.out])] at h
       exact h
     ·have hv0 : ¬ v < 0 := by rw [hv]; omega
      have hv1 : decide (v < 0) = false := by simpa using hv0
      have HVE := Lib.hid hv
      have HOL := Lib.hid (lab_old HRE.out hj hyes)
      rw [HCN.out] at HOL
      clear hv hyes HV
      have hqi : q < i \/ ¬ q < i := by omega
      rcases hqi with hqi | hqi
      ·have t2 : decide (q < i) = true := by simpa using hqi
       have t3 : (q : Int) < (i : Int) := by omega
       go_wp2_with fail
       refine ⟨⟨i + 1, by go_num, by omega, by rw [HOL.out], Lib.hid ?_, HBW⟩, by simp [intOf]; omega⟩
       rw [<- thF_done R n i HVE.out]
       exact HO.out
      ·have t2 : decide (q < i) = false := by simpa using hqi
       have t3 : ¬ (q : Int) < (i : Int) := by omega
       go_wp2_with fail
       refine ⟨⟨i + 1, by go_num, by omega, by rw [HOL.out], Lib.hid ?_, HBW⟩, by simp [intOf]; omega⟩
       rw [<- thF_done R n i HVE.out]
       exact HO.out
   ·obtain rfl : n = i := by omega
    have hO := HO.out
    rw [thF_all] at hO
    have hbw : Below W0.heap.size W0 wr := HBA.out.trans (HBW.out.mono (Nat.le_of_eq HG0.out.symm))
    have hro : ReadsI wr (sl g0 n n) n (rowN n (labF (lvR T k g 0) n)) := by rw [HRR.out]; exact hO.readsI
    have hnr := HNR.out.below hbw
    have HKF : Hid (∀ rr, (∀ x y, x < n -> y < n -> (lvR T k g rr x y = true ↔ AlikeN T k g x y)) -> ∀ x y, x < T.length -> y < T.length -> (labF (lvR T k g rr) n x = labF (lvR T k g rr) n y ↔ AlikeN T k g x y)) := Lib.hid (fun rr hr x y hx hy => by
     rw [HL.out] at hx hy
     rw [lab_iff (lvR_eqv rr) hx hy]
     exact hr x y hx hy)
    have HPA := Lib.hid (fun V (hV : Below wr.heap.size wr V) => parts_any (g := g) (hnr.below hV) HL.out HT.out (hro.below hV) hn)
    have HNM := Lib.hid (fun V (hV : Below wr.heap.size wr V) (PA : Option Addr) (pc rr : Nat) (hp : ReadsI V (.slice PA n pc) n (rowN n (labF (lvR T k g rr) n))) (hr : ∀ x y, x < n -> y < n -> (lvR T k g rr x y = true ↔ AlikeN T k g x y)) => names_any (hnr.below hV) HL.out HT.out hp (EF.step HT.out (HKF.out rr hr)) hn hk)
    have HKS : Hid (∀ W : World, Below wr.heap.size wr W -> (fun W : World => W.cell? ⟨b1, 0, none⟩ = some (.slice NA n nc) /\ W.cell? ⟨b1, 1, none⟩ = some (.slice OA n oc)) W) := Lib.hid (fun W hW => by
     have hx := Blk.below HX1.out (hbw.trans (hW.mono hbw.size)) HX1.out.lt
     have y0 := hx.cell 0
     have y1 := hx.cell 1
     exact ⟨by simpa using y0, by simpa using y1⟩)
    have HBWW := Lib.hid hbw
    clear hO hbw hro hnr HO HBW HRE HR0
    go_wp2_with fail
    have hb : Below wr.heap.size wr wr.drew := (Below.refl _ _).drew
    have hS := HKS.out _ hb
    refine region_x 13 (fun W : World => W.cell? ⟨b1, 0, none⟩ = some (.slice NA n nc) /\ W.cell? ⟨b1, 1, none⟩ = some (.slice OA n oc)) (by kernel_rfl) ?_
    generalize wr.drew = V0 at *
    refine tkx (i := 0) (v := ?_) hS ?_ ?_
    rotate_left
    ·rintro w' ⟨s0', s1'⟩
     go_simp
     try with_reducible rfl
    try simp only [Act.put, zq1, zq2, zq3, zq4, zq5, zq6]
    refine tkx (i := 1) (v := ?_) hS ?_ ?_
    rotate_left
    ·rintro w' ⟨s0', s1'⟩
     go_simp
     try with_reducible rfl
    try simp only [Act.put, zq1, zq2, zq3, zq4, zq5, zq6]
    refine tkx (i := 2) (v := ?_) hS ?_ ?_
    rotate_left
    ·rintro w' ⟨s0', s1'⟩
     go_simp
     try with_reducible rfl
    try simp only [Act.put, zq1, zq2, zq3, zq4, zq5, zq6]
    refine tkx (i := 3) (v := ?_) hS ?_ ?_
    rotate_left
    ·rintro w' ⟨s0', s1'⟩
     go_simp
     try with_reducible rfl
    try simp only [Act.put, zq1, zq2, zq3, zq4, zq5, zq6]
    refine tkx (i := 4) (v := ?_) hS ?_ ?_
    rotate_left
    ·rintro w' ⟨s0', s1'⟩
     go_simp
     try with_reducible rfl
    try simp only [Act.put, zq1, zq2, zq3, zq4, zq5, zq6]
    refine anyX_g (i := 5) (by kernel_rfl) (by decide) rfl (by rfl) ?_
    intro K hK
    try simp only [zq1, zq2, zq3]
    refine wp_enterE #[.slice NA n nc, sl g0 n n] Try.func36 (by kernel_rfl) (by kernel_rfl) ?_ (HPA.out V0 hb) ?_
    ·go_simp
    rintro e V1 ⟨PA, pc, rr, rfl, hpr, hker, hpc, hpc2, hbn⟩
    refine ⟨_, rfl, ?_⟩
    replace hb := hb.trans (hbn.mono hb.size)
    clear hbn
    have hS := HKS.out _ hb
    have hnm := HNM.out V1 hb PA pc rr hpr hker
    obtain ⟨F, hF⟩ : ∃ F, labF (lvR T k g rr) n = F := ⟨_, rfl⟩
    have hKF : ∀ x y, x < T.length -> y < T.length -> (F x = F y ↔ AlikeN T k g x y) := fun x y hx hy => by rw [<- hF]; exact HKF.out rr hker x y hx hy
    rw [hF] at hnm
    clear hF hker hpr
    refine hK _ _ hS ?_
    clear hK
    try simp only [Act.put, zq1, zq2, zq3, zq4, zq5, zq6]
    refine anyX_g (i := 6) (by kernel_rfl) (by decide) rfl (by rfl) ?_
    intro K hK
    try simp only [zq1, zq2, zq3]
    refine wp_enterE #[.slice NA n nc, .slice PA n pc] Try.func35 (by kernel_rfl) (by kernel_rfl) ?_ hnm ?_
    ·go_simp
    rintro e V2 ⟨gn, v9, v10, vals, r, rfl, hrl, hgB, hns⟩
    refine ⟨_, rfl, ?_⟩
    have hle := hb.size
    have hb1 := hb
    replace hb := hb.trans (hns.fr.mono hb.size)
    have hS := HKS.out _ hb
    clear hnm
    refine hK _ _ hS ?_
    clear hK
    try simp only [Act.put, zq1, zq2, zq3, zq4, zq5, zq6]
    refine tkx (i := 7) (v := ?_) hS ?_ ?_
    rotate_left
    ·rintro w' ⟨s0', s1'⟩
     go_simp
     try with_reducible rfl
    try simp only [Act.put, zq1, zq2, zq3, zq4, zq5, zq6]
    refine tkx (i := 8) (v := ?_) hS ?_ ?_
    rotate_left
    ·rintro w' ⟨s0', s1'⟩
     go_simp
     try with_reducible rfl
    try simp only [Act.put, zq1, zq2, zq3, zq4, zq5, zq6]
    refine tkx (i := 9) (v := ?_) hS ?_ ?_
    rotate_left
    ·rintro w' ⟨s0', s1'⟩
     go_simp
     try with_reducible rfl
    try simp only [Act.put, zq1, zq2, zq3, zq4, zq5, zq6]
    refine tkx (i := 10) (v := ?_) hS ?_ ?_
    rotate_left
    ·rintro w' ⟨s0', s1'⟩
     go_simp
     try with_reducible rfl
    try simp only [Act.put, zq1, zq2, zq3, zq4, zq5, zq6]
    refine tkx (i := 11) (v := ?_) hS ?_ ?_
    rotate_left
    ·rintro w' ⟨s0', s1'⟩
     go_simp
     try with_reducible rfl
    try simp only [Act.put, zq1, zq2, zq3, zq4, zq5, zq6]
    refine tkx (i := 12) (v := ?_) hS ?_ ?_
    rotate_left
    ·rintro w' ⟨s0', s1'⟩
     go_simp
     try with_reducible rfl
    try simp only [Act.put, zq1, zq2, zq3, zq4, zq5, zq6]
    refine anyX_last (by kernel_rfl) (by kernel_rfl) rfl rfl ?_
    try simp only [zq1, zq2, zq3]
    go_simp
    try apply_assumption
    have hMF : MachF T k g F r := ⟨HT.out, hKF, hrl⟩
    have hr0 : 0 < r := by rw [<- hrl]; exact rep_pos
    have hll := hns.ll (fun q hq => by
     have := (quo_rect HT.out (EF.eqv F) hMF.step).len q (by rw [quo_len, hrl]; exact hq)
     exact this)
    obtain ⟨XA, xr, xc, e10⟩ := hll.formS
    obtain ⟨-, A9, c9, e9, -, -, -, -⟩ := id hns.fi.readsI
    have hxr : xr = r := by
     obtain ⟨a', c', e, -, -⟩ := (hll.nextR (T := quoN T (EF F)) (by rw [quo_len]; exact hrl) (fun i hi => xssT_at _ hi)).form
     rw [e10] at e
     simp only [Value.slice.injEq] at e
     rw [e.2.1, quo_len]
     exact hrl
    subst hxr
    subst e10
    rw [hrl] at e9
    subst e9
    have hbw2 : Below W0.heap.size W0 V2 := HBWW.out.trans (hb.mono HBWW.out.size)
    obtain ⟨b3, hb3⟩ : ∃ b, b = V2.heap.size := ⟨_, rfl⟩
    obtain ⟨W3, hW3⟩ : ∃ W, V2.alloc (.cells #[.slice XA xr xc, .slice none 0 0] 26) = W := ⟨_, rfl⟩
    have hb23 : Below V2.heap.size V2 W3 := by rw [<- hW3]; exact (Below.refl _ _).alloc (Nat.le_refl _) _
    have hx3 : Blk W3 b3 26 #[.slice XA xr xc, .slice none 0 0] := by rw [<- hW3, hb3]; exact Blk.new _ _ _
    have HMF := Lib.hid hMF; have HLL := Lib.hid (hll.below hb23); have HN9 : Hid (ReadsI W3 (.slice A9 xr c9) xr (intsN (repN T (EF F)))) := Lib.hid (by have h := hns.fi.readsI.below hb23; rw [hrl] at h; exact h); have HN9B : Hid (∀ gg oo, A9 = some ⟨gg, oo, none⟩ -> gg ≠ b3) := Lib.hid (fun gg oo e => by
     have hf := hns.fi.readsI
     rw [hrl] at hf
     obtain ⟨z, o, e2, hz, -⟩ := hf.at 0 hr0
     rw [e] at e2
     simp only [Option.some.injEq, Addr.mk.injEq, and_true] at e2
     omega); have HAT := Lib.hid (hns.at_.below_top hb23); have HBW2 := Lib.hid hbw2; have HB23 := Lib.hid hb23; have HX3 := Lib.hid hx3; have HB3 := Lib.hid hb3; have HW3 := Lib.hid hW3
    have hg3 : gn < b3 := by rw [hb3]; exact (hns.at_.lt gn rfl).2
    have h03 : W0.heap.size <= b3 := by rw [hb3]; exact hbw2.size
    have HSTL := Lib.hid (EF.step HT.out hMF.kern)
    have hrn : xr <= n := by rw [<- hrl, <- HL.out]; exact rep_len HT.out (EF.eqv F)
    have HRL := Lib.hid hrl
    have HST : Hid (RBk 26 W3 W3 b3 (.slice XA xr xc) (.slice none 0 0) 0 (((repN T (EF F)).take 0).map g)) := Lib.hid ⟨hx3, Own.nil _ _, Fr.refl _ _⟩
    clear hMF hll hns hbw2 hb23 hx3 hW3 hb hb1 hle HBWW HKS HPA HNM HKF hgB hrl hKF hS
    clear hb3
    go_wp2_with fail
    rw [<- HB3.out, HW3.out]
    go_loopw [12] (fun vi wr => ∃ (i : Nat) (YA : Option Addr) (yc : Nat), vi = .int .i64 (i : Int) /\ i <= xr /\ Hid (RBk 26 W3 wr b3 (.slice XA xr xc) (.slice YA i yc) i (((repN T (EF F)).take i).map g))) (fun vi _ => xr - (intOf vi).toNat)
    case atStart => exact ⟨0, none, 0, rfl, Nat.zero_le _, HST⟩
    case round =>
     clear HST
     obtain ⟨i, YA, yc, rfl, hi, HJ⟩ := hrel
     have i0 : (0 : Int) <= (i : Int) := Int.natCast_nonneg _
     have hbw : Below W0.heap.size W0 wr := (HBW2.out.trans (HB23.out.mono HBW2.out.size)).trans (HJ.out.fr.below (Nat.le_trans HBW2.out.size HB23.out.size) (fun k hk e => by omega))
     by_cases hlt : i < xr
     ·have i1 : (i : Int) < (xr : Int) := by omega
      have t1 : decide (i < xr) = true := by simpa using hlt
      obtain ⟨u, hu⟩ : ∃ u, (repN T (EF F))[i]? = some u := ⟨_, List.getElem?_eq_getElem (by rw [HRL.out]; exact hlt)⟩
      have hun : u < n := by rw [<- HL.out]; exact bfs_lt HT.out _ _ (List.mem_of_getElem? hu)
      have HTK : Hid (((repN T (EF F)).take (i + 1)).map g = ((repN T (EF F)).take i).map g ++ [g u]) := Lib.hid (by rw [List.take_add_one, hu, List.map_append]; rfl)
      obtain ⟨g9, o9, e9, hg9, d9⟩ := HN9.out.at i hlt
      subst e9
      have hg9n : g9 ≠ b3 := fun e => by
       have h1 := World.block_lt_of_cell? W3 _ d9
       exact HN9B.out g9 o9 rfl e
      rw [intsN_at, List.getD_eq_getElem?_getD, hu] at d9
      obtain ⟨go, oo, eO, hgo, dO⟩ := HOR.out.at u hun
      subst eO
      rw [HG.out] at dO
      have hg3l : b3 < W3.heap.size := HX3.out.lt
      have hb1l : b1 < W0.heap.size := HX1.out.lt
      have h0l : W0.heap.size <= W3.heap.size := by omega
      have d9' := HJ.out.fr.cell d9 (X := fun q => q = b3) hg9n
      have HKS : Hid (∀ W : World, Below wr.heap.size wr W -> (fun W : World => W.cell? ⟨b3, 1, none⟩ = some (.slice YA i yc) /\ W.cell? ⟨b1, 1, none⟩ = some (.slice (some ⟨go, oo, none⟩) n oc) /\ W.cell? ⟨g9, o9 + i, none⟩ = some (.int .i64 (u : Int)) /\ W.cell? ⟨go, oo + u, none⟩ = some (.int .i64 (g u : Int))) W) := Lib.hid (fun W hW => by
       have x3 := Blk.below HJ.out.box hW HJ.out.box.lt
       have x1 := Blk.below HX1.out (hbw.trans (hW.mono hbw.size)) HX1.out.lt
       have y0 := x3.cell 1
       have y1 := x1.cell 1
       exact ⟨by simpa using y0, by simpa using y1, bel_m hW d9', bel_m hW (bel_m hbw dO)⟩)
      have HKG : Hid (∀ V W : World, Below wr.heap.size wr V -> V.grownBy W (Value.slice YA i yc).ownBlock -> (fun W : World => W.cell? ⟨b3, 1, none⟩ = some (.slice YA i yc) /\ W.cell? ⟨b1, 1, none⟩ = some (.slice (some ⟨go, oo, none⟩) n oc) /\ W.cell? ⟨g9, o9 + i, none⟩ = some (.int .i64 (u : Int)) /\ W.cell? ⟨go, oo + u, none⟩ = some (.int .i64 (g u : Int))) W) := Lib.hid (fun V W hV hG => by
       have hy : Own V W3.heap.size (.slice YA i yc) i _ := HJ.out.row.below_top hV
       have hne : ∀ b : Nat, b < W3.heap.size -> some b ≠ (Value.slice YA i yc).ownBlock := fun b hb e => by
        have := (hy.lt b e.symm).1; omega
       obtain ⟨s0, s1, s2, s3⟩ := HKS.out V hV
       exact ⟨hG.cell s0 (hne b3 hg3l), hG.cell s1 (hne b1 (Nat.lt_of_lt_of_le hb1l h0l)), hG.cell s2 (hne g9 hg9), hG.cell s3 (hne go (Nat.lt_of_lt_of_le hgo h0l))⟩)
      obtain ⟨gu, hgu⟩ : ∃ y, g u = y := ⟨_, rfl⟩
      obtain ⟨L, hL⟩ : ∃ L, ((repN T (EF F)).take i).map g = L := ⟨_, rfl⟩
      rw [hgu] at HKS HKG HTK
      rw [hL] at HJ HTK
      have u0 : (0 : Int) <= (u : Int) := Int.natCast_nonneg _
      have u1 : (u : Int) < (n : Int) := by omega
      have hi9 : i <= 1000000 := by omega
      have HSZ : Hid (W3.heap.size <= wr.heap.size) := Lib.hid HJ.out.fr.size
      clear d9 d9' dO hbw hu hgu hL
      go_wp2_with fail
      have hb : Below wr.heap.size wr wr.drew := (Below.refl _ _).drew
      have hS := HKS.out _ hb
      refine region_x 13 (fun W : World => W.cell? ⟨b3, 1, none⟩ = some (.slice YA i yc) /\ W.cell? ⟨b1, 1, none⟩ = some (.slice (some ⟨go, oo, none⟩) n oc) /\ W.cell? ⟨g9, o9 + i, none⟩ = some (.int .i64 (u : Int)) /\ W.cell? ⟨go, oo + u, none⟩ = some (.int .i64 (gu : Int))) (by kernel_rfl) ?_
      generalize wr.drew = V0 at *
      refine tkx (i := 0) (v := ?_) hS ?_ ?_
      rotate_left
      ·rintro w' ⟨s0', s1', s2', s3'⟩
       go_simp
       try with_reducible rfl
      try simp only [Act.put, zq1, zq2, zq3, zq4, zq5, zq6]
      refine tkx (i := 1) (v := ?_) hS ?_ ?_
      rotate_left
      ·rintro w' ⟨s0', s1', s2', s3'⟩
       go_simp
       try with_reducible rfl
      try simp only [Act.put, zq1, zq2, zq3, zq4, zq5, zq6]
      refine tkx (i := 2) (v := ?_) hS ?_ ?_
      rotate_left
      ·rintro w' ⟨s0', s1', s2', s3'⟩
       go_simp
       try with_reducible rfl
      try simp only [Act.put, zq1, zq2, zq3, zq4, zq5, zq6]
      refine tkx (i := 3) (v := ?_) hS ?_ ?_
      rotate_left
      ·rintro w' ⟨s0', s1', s2', s3'⟩
       go_simp
       try with_reducible rfl
      try simp only [Act.put, zq1, zq2, zq3, zq4, zq5, zq6]
      refine tkx (i := 4) (v := ?_) hS ?_ ?_
      rotate_left
      ·rintro w' ⟨s0', s1', s2', s3'⟩
       go_simp
       try with_reducible rfl
      try simp only [Act.put, zq1, zq2, zq3, zq4, zq5, zq6]
      refine tkx (i := 5) (v := ?_) hS ?_ ?_
      rotate_left
      ·rintro w' ⟨s0', s1', s2', s3'⟩
       go_simp
       try with_reducible rfl
      try simp only [Act.put, zq1, zq2, zq3, zq4, zq5, zq6]
      refine tkx (i := 6) (v := ?_) hS ?_ ?_
      rotate_left
      ·rintro w' ⟨s0', s1', s2', s3'⟩
       go_simp
       try with_reducible rfl
      try simp only [Act.put, zq1, zq2, zq3, zq4, zq5, zq6]
      refine tkx (i := 7) (v := ?_) hS ?_ ?_
      rotate_left
      ·rintro w' ⟨s0', s1', s2', s3'⟩
       go_simp
       try with_reducible rfl
      try simp only [Act.put, zq1, zq2, zq3, zq4, zq5, zq6]
      refine tkx (i := 8) (v := ?_) hS ?_ ?_
      rotate_left
      ·rintro w' ⟨s0', s1', s2', s3'⟩
       go_simp
       try with_reducible rfl
      try simp only [Act.put, zq1, zq2, zq3, zq4, zq5, zq6]
      refine tkx (i := 9) (v := ?_) hS ?_ ?_
      rotate_left
      ·rintro w' ⟨s0', s1', s2', s3'⟩
       go_simp
       try with_reducible rfl
      try simp only [Act.put, zq1, zq2, zq3, zq4, zq5, zq6]
      refine anyX_g (i := 10) (by kernel_rfl) (by decide) rfl (by rfl) ?_
      intro K hK
      try simp only [zq1, zq2, zq3]
      go_simp
      obtain ⟨V1, eV⟩ : ∃ W', V0.alloc (.cells #[.int .i64 (gu : Int)] 3) = W' := ⟨_, rfl⟩
      have hbn : Below V0.heap.size V0 V1 := by rw [<- eV]; exact (Below.refl _ _).alloc (Nat.le_refl _) _
      have xb : Blk V1 V0.heap.size 3 #[.int .i64 (gu : Int)] := by rw [<- eV]; exact Blk.new _ _ _
      rw [eV]
      clear eV
      replace hb := hb.trans (hbn.mono hb.size)
      clear hbn
      replace hS := HKS.out _ hb
      have hY : V1.ownsRow W3.heap.size 3 1 (.slice YA i yc) i ((intsN L).map (Value.int .i64)) := HJ.out.row.below_top hb
      have hBV : W3.heap.size <= V1.heap.size := Nat.le_trans HSZ.out hb.size
      obtain ⟨p1, hp1⟩ : ∃ p, p = V0.heap.size := ⟨_, rfl⟩
      rw [<- hp1] at xb ⊢
      clear hp1
      refine hK _ _ hS ?_
      clear hK
      try simp only [Act.put, zq1, zq2, zq3, zq4, zq5, zq6]
      refine anyX_g (i := 11) (by kernel_rfl) (by decide) rfl (by rfl) ?_
      intro K hK
      try simp only [zq1, zq2, zq3]
      refine wp_pushK rfl (.tmp 87) (.tmp 96) 22 3 rfl 1 8 _ Try.underlying22 info_int rfl (by omega) (by omega) W3.heap.size (.slice YA i yc) i _ (by rfl) hY p1 (by rfl) #[.int .i64 (gu : Int)] rfl xb (by simp [Value.oneCell']) hi9 hBV ?_
      intro g7 cap7 V2' q1 q2 q3
      have hS : (fun W : World => W.cell? ⟨b3, 1, none⟩ = some (.slice YA i yc) /\ W.cell? ⟨b1, 1, none⟩ = some (.slice (some ⟨go, oo, none⟩) n oc) /\ W.cell? ⟨g9, o9 + i, none⟩ = some (.int .i64 (u : Int)) /\ W.cell? ⟨go, oo + u, none⟩ = some (.int .i64 (gu : Int))) V2' := HKG.out _ _ hb q2
      have hE := HJ.out.push hb q1 q2 (by decide)
      have hx3 := hE.2
      have HE := hE.1
      rw [<- HTK.out] at HE
      replace HE := Lib.hid HE
      have k1 := Blk.cell hx3 1; have f1 := Blk.frozen hx3 1
      simp only [List.getElem?_toArray, List.getElem?_cons_zero, List.getElem?_cons_succ] at k1
      clear hb hY q1 q2 q3 hE hx3 xb hBV
      refine hK _ _ hS ?_
      clear hK
      try simp only [Act.put, zq1, zq2, zq3, zq4, zq5, zq6]
      refine tkx (i := 12) (v := ?_) hS ?_ ?_
      rotate_left
      ·rintro w' ⟨s0', s1', s2', s3'⟩
       go_simp
       try with_reducible rfl
      try simp only [Act.put, zq1, zq2, zq3, zq4, zq5, zq6]
      refine anyX_last (by kernel_rfl) (by kernel_rfl) rfl rfl ?_
      try simp only [zq1, zq2, zq3]
      go_simp
      try apply_assumption
      clear hS
      clear k1 f1
      go_wp2_with fail
      exact ⟨⟨i + 1, some ⟨g7, 0, none⟩, cap7, by go_num, by omega, HE⟩, by simp [intOf]; omega⟩
     ·obtain rfl : xr = i := by omega
      have t1 : decide (xr < xr) = false := by simp
      have hnr := HNR.out.below hbw
      have hat : Own wr _ (sl gn n n) n _ := HJ.out.fr.own HAT.out (fun k hk e => by
       have : gn = k := by simpa [Value.ownBlock] using hk
       omega)
      have HKS : Hid (∀ W : World, Below wr.heap.size wr W -> (fun W : World => W.cell? ⟨b3, 0, none⟩ = some (.slice XA xr xc) /\ W.cell? ⟨b3, 1, none⟩ = some (.slice YA xr yc) /\ W.cell? ⟨b1, 0, none⟩ = some (.slice NA n nc)) W) := Lib.hid (fun W hW => by
       have x3 := Blk.below HJ.out.box hW HJ.out.box.lt
       have x1 := Blk.below HX1.out (hbw.trans (hW.mono hbw.size)) HX1.out.lt
       have y0 := x3.cell 0
       have y1 := x3.cell 1
       have y2 := x1.cell 0
       exact ⟨by simpa using y0, by simpa using y1, by simpa using y2⟩)
      have HNRW := Lib.hid hnr; have HATW := Lib.hid hat; have HBWW := Lib.hid hbw
      have HLLW := Lib.hid (HLL.out.keepT HJ.out.fr (fun q e => e) HX3.out (by decide) (by decide))
      clear hbw hnr hat
      go_wp2_with fail
      have hb : Below wr.heap.size wr wr.drew := (Below.refl _ _).drew
      have hS := HKS.out _ hb
      refine region_y 6 (fun W : World => W.cell? ⟨b3, 0, none⟩ = some (.slice XA xr xc) /\ W.cell? ⟨b3, 1, none⟩ = some (.slice YA xr yc) /\ W.cell? ⟨b1, 0, none⟩ = some (.slice NA n nc)) (by kernel_rfl) ?_
      generalize wr.drew = V0 at *
      refine tky (i := 0) (v := ?_) hS ?_ ?_
      rotate_left
      ·rintro w' ⟨s0', s1', s2'⟩
       go_simp
       try with_reducible rfl
      try simp only [Act.put, zq1, zq2, zq3, zq4, zq5, zq6]
      refine tkyg [5] (i := 1) (v := ?_) hS ?_ ?_
      rotate_left
      ·rintro w' ⟨s0', s1', s2'⟩
       go_simp
       try with_reducible rfl
      try simp only [Act.put, zq1, zq2, zq3, zq4, zq5, zq6]
      refine tkyg [5, 4, 3] (i := 2) (v := ?_) hS ?_ ?_
      rotate_left
      ·rintro w' ⟨s0', s1', s2'⟩
       go_simp
       try with_reducible rfl
      try simp only [Act.put, zq1, zq2, zq3, zq4, zq5, zq6]
      refine tkyg [5, 4] (i := 3) (v := ?_) hS ?_ ?_
      rotate_left
      ·rintro w' ⟨s0', s1', s2'⟩
       go_simp
       try with_reducible rfl
      try simp only [Act.put, zq1, zq2, zq3, zq4, zq5, zq6]
      refine anyY_g (i := 4) (by kernel_rfl) rfl rfl ?_
      intro K hK
      try simp only [zq1, zq2, zq3]
      refine wp_enterE #[.slice NA n nc] Try.func38 (by kernel_rfl) (by kernel_rfl) ?_ (met_any (HNRW.out.below hb) HL.out HT.out hn hk hk0) ?_
      ·go_simp
      rintro e V1 ⟨gb, rfl, hmb, hbn⟩
      refine ⟨_, rfl, ?_⟩
      replace hb := hb.trans (hbn.mono hb.size)
      clear hbn
      have hS := HKS.out _ hb
      refine hK _ _ hS ?_
      clear hK
      try simp only [Act.put, zq1, zq2, zq3, zq4, zq5, zq6]
      refine anyY_g (i := 5) (by kernel_rfl) rfl rfl ?_
      intro K hK
      try simp only [zq1, zq2, zq3]
      refine wp_enterE #[sl gn n n, sl gb n n] Try.func37 (by kernel_rfl) (by kernel_rfl) ?_ (only_any (HATW.out.below_top hb).readsI hmb hn hpos) ?_
      ·go_simp
      rintro e V2' ⟨vv, rfl, hov, hbn⟩
      refine ⟨_, rfl, ?_⟩
      replace hb := hb.trans (hbn.mono hb.size)
      clear hbn hmb
      have hS := HKS.out _ hb
      obtain ⟨-, GA, gc, ev, -, -, -, -⟩ := id hov.readsI
      subst ev
      refine hK _ _ hS ?_
      clear hK
      try simp only [Act.put, zq1, zq2, zq3, zq4, zq5, zq6]
      have hx2 := Blk.below HX2.out (HBWW.out.trans (hb.mono HBWW.out.size)) HX2.out.lt
      have k0 := Blk.cell hx2 0; have k1 := Blk.cell hx2 1; have f0 := Blk.frozen hx2 0; have f1 := Blk.frozen hx2 1
      simp only [List.getElem?_toArray, List.getElem?_cons_zero, List.getElem?_cons_succ] at k0 k1
      have HXE := Lib.hid hx2; have HBE := Lib.hid hb; have HOV := Lib.hid hov
      clear hx2 hb hov hS
      refine anyY_h (i := 6) (by kernel_rfl) (by kernel_rfl) rfl rfl ?_
      intro K hK
      try simp only [zq1, zq2, zq3]
      go_simp
      refine hK _ _ ?_
      clear hK
      try simp only [Act.put, zq1, zq2, zq3, zq4, zq5, zq6]
      refine anyY_last (i := 7) (by kernel_rfl) (by kernel_rfl) (by kernel_rfl) rfl rfl ?_
      try simp only [zq1, zq2, zq3]
      go_simp
      try apply_assumption
      clear k0 k1 f0 f1
      go_wp2_with fail
      have hH2 : Fr (fun q => q = b2) V2' ((V2'.setCell ⟨b2, 0, none⟩ (.slice XA xr xc)).setCell ⟨b2, 1, none⟩ (.slice YA xr yc)) := ((Fr.refl (fun q => q = b2) V2').set_ (p := ⟨b2, 0, none⟩) (.inl rfl) _).set_ (p := ⟨b2, 1, none⟩) (.inl rfl) _
      have xb2 := (HXE.out.set_ 0 (.slice XA xr xc)).set_ 1 (.slice YA xr yc)
      have hb2w : Below wr.heap.size wr V2' := HBE.out
      have hll := (HLLW.out.below hb2w).keepT hH2 (fun q e => e) HXE.out (by decide) (by decide)
      have hyo : Own V2' W3.heap.size (.slice YA xr yc) xr _ := HJ.out.row.below_top hb2w
      have hyo2 := rowFr hyo hH2 (fun q hq e => by subst e; exact blk_ne HXE.out hyo (by decide) hq)
      have hov2 := rowFr HOV.out hH2 (fun q hq e => by subst e; exact blk_ne HXE.out HOV.out (by decide) hq)
      generalize (V2'.setCell ⟨b2, 0, none⟩ (.slice XA xr xc)).setCell ⟨b2, 1, none⟩ (.slice YA xr yc) = V3 at *
      have q0 := Blk.cell xb2 0; have q1' := Blk.cell xb2 1
      simp only [List.getElem?_toArray, List.setIfInBounds_toArray, List.set_cons_zero, List.set_cons_succ, List.getElem?_cons_zero, List.getElem?_cons_succ] at q0 q1'
      refine bodyPost_ret (v := .tuple #[.agg #[.slice XA xr xc, .slice YA xr yc], .slice GA n gc]) (by simp [results, Try.results17, go_sem, q0, q1']) rfl ?_
      have hq : NextR V3 (.slice XA xr xc) (quoN T (EF F)) := hll.nextR (by rw [quo_len]; exact HRL.out) (fun i hi => xssT_at _ hi)
      have hqo : Own V3 W3.heap.size (.slice YA xr yc) xr (intsN (quoO T F outs)) := by
       have e : ((repN T (EF F)).take xr).map g = quoO T F outs := by
        rw [<- HRL.out, List.take_length, <- HGE.out]; rfl
       rw [<- e]; exact hyo2
      have hno : ReadsI V3 (.slice GA n gc) n (rowZ n (nameN T (EF F))) := by
       rw [<- names_rowZ HT.out (EF.eqv F) HSTL.out]; exact Own.readsI hov2
      have hlq := hq.form
      obtain ⟨a', c', e, l1, l2⟩ := hlq
      rw [quo_len, HRL.out] at e l1
      simp only [Value.slice.injEq, true_and] at e
      obtain ⟨rfl, rfl⟩ := e
      obtain ⟨a', c', e, l3, l4, -⟩ := hqo.readsI.form
      simp only [Value.slice.injEq, true_and] at e
      obtain ⟨rfl, rfl⟩ := e
      refine ⟨_, _, _, _, GA, gc, F, xr, rfl, ?_, hq, hqo.readsI, hno, l1, l2, l3, l4, ?_⟩
      ·rw [HGE.out]; exact HMF.out
      ·have h1 := HBWW.out.trans (hb2w.mono HBWW.out.size)
       have h2 := HB0.out.trans (h1.mono HB0.out.size)
       exact h2.trans (hH2.below h2.size (fun q hq e => by omega))
end Go.Proofs.Ytdcokkgdahbinaa
namespace Go.Proofs.Ytdcokkgdahbinaa
open Go Go.RowKit Go.Proofs
theorem vecs_dec {w : World} {A1 A2 : Option Addr} {n c1 c2 : Nat} {l m : List V3} {b : Bool} (h1 : ReadsE encV 3 w (.slice A1 n c1) n l) (h2 : ReadsE encV 3 w (.slice A2 n c2) n m) (hb : b = true ↔ l = m) :
  Calls Try.prog 26 #[.slice A1 n c1, .slice A2 n c2] w fun e w' => e = .returned (.bool b) /\ ∃ d, w' = w.drewN d := by
  obtain ⟨hl1, a1, c1', e1, q1, q2, -⟩ := id h1
  obtain ⟨hl2, a2, c2', e2, q3, q4, -⟩ := id h2
  simp only [Value.slice.injEq, true_and] at e1 e2
  obtain ⟨rfl, rfl⟩ := e1
  obtain ⟨rfl, rfl⟩ := e2
  unfold maxLen at q2 q4
  have H1 := Lib.hid h1; have H2 := Lib.hid h2; have HL := Lib.hid hl1; have HM := Lib.hid hl2; have HB := Lib.hid hb
  clear h1 h2 hl1 hl2 hb
  go_enter Try.func26, Try.ntmps26
  go_wp2_with fail
  go_loopw [5] (fun vi wr => ∃ i d : Nat, vi = .int .i64 (i : Int) /\ i <= n /\ Hid (∀ x, x < i -> l[x]? = m[x]?) /\ wr = w.drewN d) (fun vi _ => n - (intOf vi).toNat)
  case atStart => exact ⟨0, 0, rfl, Nat.zero_le _, Lib.hid (fun x hx => absurd hx (Nat.not_lt_zero x)), rfl⟩
  case round =>
   obtain ⟨i, d, rfl, hi, HE, rfl⟩ := hrel
   have i0 : (0 : Int) <= (i : Int) := Int.natCast_nonneg _
   by_cases hlt : i < n
   ·have i1 : (i : Int) < (n : Int) := by omega
    have t1 : decide (i < n) = true := by simpa using hlt
    obtain ⟨u, hu⟩ : ∃ u, l[i]? = some u := ⟨_, List.getElem?_eq_getElem (by rw [HL.out]; exact hlt)⟩
    obtain ⟨v, hv⟩ : ∃ v, m[i]? = some v := ⟨_, List.getElem?_eq_getElem (by rw [HM.out]; exact hlt)⟩
    obtain ⟨g1, o1, e1, -, r1⟩ := H1.out.at encV_len (by decide) i u hu
    obtain ⟨g2, o2, e2, -, r2⟩ := H2.out.at encV_len (by decide) i v hv
    subst e1 e2
    obtain ⟨x, y, z⟩ := u
    obtain ⟨x', y', z'⟩ := v
    have s0 := r1 0 _ rfl; have s1 := r1 1 _ rfl; have s2 := r1 2 _ rfl
    have p0 := r2 0 _ rfl; have p1 := r2 1 _ rfl; have p2 := r2 2 _ rfl
    rw [Nat.add_zero] at s0 p0
    have HU := Lib.hid hu; have HV := Lib.hid hv
    clear r1 r2 hu hv
    by_cases hq : x = x' /\ y = y' /\ z = z'
    ·obtain ⟨rfl, rfl, rfl⟩ := hq
     have heq := eq_same
     have HE2 : Hid (∀ x, x < i + 1 -> l[x]? = m[x]?) := Lib.hid (fun t ht => by
      rcases Nat.lt_or_ge t i with q | q
      ·exact HE.out t q
      ·obtain rfl : t = i := by omega
       rw [HU.out, HV.out])
     go_wp2_with fail
     go_big_quiet (fail)
     go_wp2_with fail
     exact ⟨⟨i + 1, _, by go_num, by omega, HE2, rfl⟩, by simp [intOf]; omega⟩
    ·have heq : ∀ W : World, (Op.equalIn 10000 53 (.agg #[.int .i64 x, .int .i64 y, .int .i64 z]) (.agg #[.int .i64 x', .int .i64 y', .int .i64 z'])).run Try.prog W = .ok false W := fun W => by
      rw [eq_vec]
      have : (x == x' && (y == y' && z == z')) = false := by
       rw [Bool.eq_false_iff]
       intro h
       simp only [Bool.and_eq_true, beq_iff_eq] at h
       exact hq h
      simp_all
     have HF : Hid (b = false) := Lib.hid (by
      cases b with
      | false => rfl
      | true =>
        have e := HB.out.1 rfl
        have h1 := HU.out
        rw [e, HV.out] at h1
        simp only [Option.some.injEq, Prod.mk.injEq] at h1
        exact absurd ⟨h1.1.symm, h1.2.1.symm, h1.2.2.symm⟩ hq)
     clear hq
     go_wp2_with fail
     go_big_quiet (fail)
     go_wp2_with fail
     go_ret
     exact ⟨by rw [HF.out]; rfl, _, World.drewN_drewN _ _ _⟩
   ·obtain rfl : n = i := by omega
    have HF : Hid (b = true) := Lib.hid (HB.out.2 (List.ext_getElem? fun t => by
     rcases Nat.lt_or_ge t n with q | q
     ·exact HE.out t q
     ·rw [List.getElem?_eq_none (by rw [HL.out]; exact q), List.getElem?_eq_none (by rw [HM.out]; exact q)]))
    go_wp2_with fail
    go_ret
    exact ⟨by rw [HF.out]; rfl, d, rfl⟩
theorem vecs_dec_quiet {w : World} {A1 A2 : Option Addr} {n c1 c2 : Nat} {l m : List V3} {b : Bool} (h1 : ReadsE encV 3 w (.slice A1 n c1) n l) (h2 : ReadsE encV 3 w (.slice A2 n c2) n m) (hb : b = true ↔ l = m) (d : Nat) :
  Calls Try.prog 26 #[.slice A1 n c1, .slice A2 n c2] (w.drewN d) fun e w' => e = .returned (.bool b) /\ ∃ m, w' = w.drewN m := Calls.quiet_of (vecs_dec (h1.dr d) (h2.dr d) hb)
end Go.Proofs.Ytdcokkgdahbinaa
namespace Go.Proofs.Ytdcokkgdahbinaa
open Go Go.RowKit Go.Proofs
theorem wp_concatV {w : World} {o : Oper} {a : Act} {K : Act -> World -> Prop} {Q : Exit -> Act -> World -> Prop} (hgd : o.guard = none) (s x : Operand)
  (ho : o.op = .call { callee := .builtin .append, args := #[s, x], argTypes := #[42, 42] })
  (B : Nat) (v : Value) (n : Nat) (l : List V3) (hs : a.eval s = v) (hown : OwnE encV 53 3 w B v n l)
  (u : Value) (m : Nat) (l' : List V3) (hx : a.eval x = u) (hu : ReadsE encV 3 w u m l') (hnm : n + m <= 1000000000) (hB : B <= w.heap.size)
  (h : ∀ v' w', OwnE encV 53 3 w' B v' (n + m) (l ++ l') -> Below B w w' -> w.grownBy w' v.ownBlock -> K (a.put o.dst v') w') : Oper.wp Try.prog o a w K Q := by
  obtain ⟨v', w', hr, h2, h3, h4, h5⟩ := run_concatV o.type hown hu hnm hB
  unfold Oper.wp execOp
  simp only [ho, resolve, invoke, builtin, Sem.run_bind, Sem.run_pure, Result.andThen_ok, List.map_toArray, List.map_cons, List.map_nil, hs, hx, hr]
  exact h v' w' h2 h3 h4
structure RFk (t : TypeId) (W3 wr : World) (b3 : Nat) (X Y : Value) (i : Nat) (xss : List (Nat × List Value)) : Prop where
 box : Blk wr b3 t #[X, Y]
 row : OwnLL wr W3.heap.size 42 53 3 Y i xss
 fr : Fr (fun q => q = b3) W3 wr
theorem RFk.push {t : TypeId} {W3 V V2 : World} {b3 : Nat} {X Y : Value} {i m g7 c7 : Nat} {xss : List (Nat × List Value)} {vals xs : List Value} (hx0 : Blk V b3 t #[X, Y]) (hb3 : b3 < W3.heap.size) (hV : Fr (fun q => q = b3) W3 V)
  (hvals : V.ownsRow W3.heap.size 42 1 Y i vals) (hll : OwnLL V2 W3.heap.size 42 53 3 (sl g7 (i + 1) c7) (i + 1) (xss ++ [(m, xs)])) (q2 : V.grownBy V2 Y.ownBlock) (h1 : t ≠ 42) (h2 : t ≠ 53) :
  RFk t W3 (V2.setCell ⟨b3, 1, none⟩ (sl g7 (i + 1) c7)) b3 X (sl g7 (i + 1) c7) (i + 1) (xss ++ [(m, xs)]) /\ Blk V2 b3 t #[X, Y] := by
  have hx : Blk V2 b3 t #[X, Y] := blkTurn hx0 hvals q2 h1
  have hf : Fr (fun q => q = b3) V2 (V2.setCell ⟨b3, 1, none⟩ (sl g7 (i + 1) c7)) := (Fr.refl (fun q => q = b3) V2).set_ (p := ⟨b3, 1, none⟩) (.inl rfl) _
  refine ⟨⟨by have := hx.set_ 1 (sl g7 (i + 1) c7); simpa using this, hll.keepT3 hf (fun q e => e) hx h1 h2, ?_⟩, hx⟩
  have e2 : Fr (fun q => q = b3) W3 V2 := hV.then_ (Fr.of_grown (X := fun k => Y.ownBlock = some k) q2 (fun k hk => hk)) (fun k hk e => by have := (hvals.lt k e).1; omega)
  exact e2.then_ hf (fun _ _ e => e)
theorem rfwd_mach {w : World} {NA OA : Option Addr} {nc oc n k q0 : Nat} {T : List (List Nat)} {E : List (List V3)} (h : NextR w (.slice NA n nc) T) (hl : T.length = n) (hT : RectN T k) (ho : EmitR w (.slice OA n oc) E) (hel : E.length = n) (hq0 : ∀ i, i < n -> (E.getD i []).length = q0) (hq9 : q0 <= 1000) (hn : n <= 1000) (hk : k <= 1000) (hk0 : 0 < k) :
  Calls Try.prog 19 #[.agg #[.slice NA n nc, .slice OA n oc]] w fun e w' => ∃ NB nd OB od GA gc f r, e = .returned (.tuple #[.agg #[.slice NB r nd, .slice OB r od], .slice GA n gc]) /\ MachF T k (fun x => E.getD x []) f r /\
   NextR w' (.slice NB r nd) (quoN T (EF f)) /\ EmitR w' (.slice OB r od) (quoE T f E) /\ ReadsI w' (.slice GA n gc) n (rowZ n (nameN T (EF f))) /\ r <= nd /\ nd <= 9223372036854775807 /\ r <= od /\ od <= 9223372036854775807 /\ Below w.heap.size w w' := by
  have hpos : 0 < n := by have := hT.pos; omega
  obtain ⟨OA', c', e, hoc, hoc2⟩ := ho.form
  rw [hel] at hoc
  simp only [Value.slice.injEq] at e
  obtain ⟨rfl, -, rfl⟩ := e
  obtain ⟨NA', nc', e, hnc, hnc2⟩ := h.form
  rw [hl] at hnc
  simp only [Value.slice.injEq] at e
  obtain ⟨rfl, -, rfl⟩ := e
  obtain ⟨g, hg⟩ : ∃ g : Nat -> List V3, (fun x => E.getD x []) = g := ⟨_, rfl⟩
  have hgx : ∀ x, E.getD x [] = g x := fun x => by rw [<- hg]
  obtain ⟨W0, hW0⟩ : ∃ W, (w.alloc (.cells #[.slice NA n nc, .slice OA n oc] 30)).alloc (.cells #[.slice none 0 0, .slice none 0 0] 30) = W := ⟨_, rfl⟩
  have hb0 : Below w.heap.size w W0 := by rw [<- hW0]; exact ((Below.refl _ _).alloc (Nat.le_refl _) _).alloc (by simp) _
  have hx1 : Blk W0 w.heap.size 30 #[.slice NA n nc, .slice OA n oc] := by rw [<- hW0]; exact (Blk.new _ _ _).alloc _
  have hx2 : Blk W0 (w.heap.size + 1) 30 #[.slice none 0 0, .slice none 0 0] := by
   rw [<- hW0]
   have := Blk.new (w.alloc (.cells #[.slice NA n nc, .slice OA n oc] 30)) 30 #[.slice none 0 0, .slice none 0 0]
   rw [World.size_alloc] at this
   exact this
  obtain ⟨b1, hb1⟩ : ∃ b, b = w.heap.size := ⟨_, rfl⟩
  obtain ⟨b2, hb2⟩ : ∃ b, b = w.heap.size + 1 := ⟨_, rfl⟩
  rw [<- hb1] at hx1
  rw [<- hb2] at hx2
  have z1 : b1 < b2 := by omega
  have z2 : w.heap.size <= b2 := by omega
  have HNR := Lib.hid (h.below hb0); have HOR := Lib.hid (ho.below hb0); have HL := Lib.hid hl; have HT := Lib.hid hT; have HG := Lib.hid hgx; have HB0 := Lib.hid hb0; have HX1 := Lib.hid hx1; have HX2 := Lib.hid hx2; have HW0 := Lib.hid hW0; have HB1 := Lib.hid hb1; have HB2 := Lib.hid hb2; have HGE := Lib.hid hg; have HEL := Lib.hid hel; have HQ0 := Lib.hid hq0
  clear h ho hl hT hgx hb0 hx1 hx2 hW0 hb1 hb2 hg hel hq0
  have hmk := mkI_any n hn W0
  have ho1 := own_mk n hn W0
  have hbA : Below W0.heap.size W0 (W0.alloc (.cells (repA n (.int .i64 0)) 3)) := (Below.refl _ _).alloc (Nat.le_refl _) _
  obtain ⟨W1, hW1⟩ : ∃ V, W0.alloc (.cells (repA n (.int .i64 0)) 3) = V := ⟨_, rfl⟩
  rw [hW1] at hmk ho1 hbA
  obtain ⟨g0, hg0⟩ : ∃ g, g = W0.heap.size := ⟨_, rfl⟩
  rw [<- hg0] at hmk ho1
  rw [thF_start (lvR T k g 0) n] at ho1
  have HRE := Lib.hid (lvR_eqv (T := T) (k := k) (g := g) 0)
  have HR0 : Hid (∀ x y, lvR T k g 0 x y = decide (g x = g y)) := Lib.hid (fun x y => by
   rw [Bool.eq_iff_iff, lvR_zero]; simp)
  have c10 := HX1.out.cell 0
  simp only [List.getElem?_toArray, List.getElem?_cons_zero, List.getElem?_cons_succ] at c10
  have HO1 := Lib.hid ho1; have HBA := Lib.hid hbA; have HG0 := Lib.hid hg0
  have hb1g : b1 < g0 := by rw [hg0]; exact HX1.out.lt
  have hb2g : b2 < g0 := by rw [hg0]; exact HX2.out.lt
  obtain ⟨R, hR⟩ : ∃ R, lvR T k g 0 = R := ⟨_, rfl⟩
  rw [hR] at HRE HR0 HO1
  have HRR := Lib.hid hR
  clear hW1 ho1 hbA hg0 hR
  go_enter Try.func19, Try.ntmps19
  go_wp2_with fail
  rw [HW0.out, <- HB2.out, <- HB1.out]
  rw [hmk]
  clear hmk c10
  go_wp2_with fail
  go_loopw [5, 6] (fun v5 vi wr => ∃ i : Nat, vi = .int .i64 (i : Int) /\ i <= n /\ v5 = .int .i64 ((labC R i : Nat) : Int) /\ Hid (Own wr g0 (sl g0 n n) n (rowZ n (thF R n i 0))) /\ Hid (Below g0 W1 wr)) (fun _ vi _ => n - (intOf vi).toNat)
  case atStart => exact ⟨0, rfl, Nat.zero_le _, rfl, HO1, Lib.hid (Below.refl _ _)⟩
  case round =>
   clear HO1
   obtain ⟨i, rfl, hi, rfl, HO, HBW⟩ := hrel
   have i0 : (0 : Int) <= (i : Int) := Int.natCast_nonneg _
   by_cases hlt : i < n
   ·have i1 : (i : Int) < (n : Int) := by omega
    have t1 : decide (i < n) = true := by simpa using hlt
    have kf := World.ownsRow.frozenAt HO.out i
    obtain ⟨kv, kc⟩ : ∃ x, wr.cell? ⟨g0, i, none⟩ = some x := ⟨_, (World.ownsRow.cellAt HO.out i (by omega)).trans (List.getElem?_eq_getElem (by simp [rowZ]; omega))⟩
    have HO2 : Hid (Own (wr.setCell ⟨g0, i, none⟩ (.int .i64 (-1))) g0 (sl g0 n n) n (rowZ n (thF R n i (-1)))) := Lib.hid (by
     have h := (Own.stored HO.out i (-1)).1
     rw [thF_set] at h
     exact h)
    have HBZ := Lib.hid (HBW.out.setCell (p := ⟨g0, i, none⟩) (Nat.le_refl _) (.int .i64 (-1)))
    have hcl := labC_le R i
    generalize hcn : labC R i = cn at *
    have HCN := Lib.hid hcn
    clear hcn HO
    go_wp2_with fail
    clear kf kc
    generalize wr.setCell ⟨g0, i, none⟩ (.int .i64 (-1)) = V2 at *
    obtain ⟨wo, hwo⟩ : ∃ wo, wo = wr := ⟨_, rfl⟩
    clear hwo HBW
    go_loopw [7] (fun vk wr => ∃ (q : Nat) (v : Int), vk = .int .i64 (q : Int) /\ q <= i /\ Hid (Own wr g0 (sl g0 n n) n (rowZ n (thF R n i v))) /\ Hid ((v = -1 /\ ∀ j, j < q -> R j i = false) \/ (v = ((labF R n i : Nat) : Int) /\ ∃ j, j < i /\ R j i = true)) /\ Hid (Below g0 W1 wr)) (fun vk _ => i - (intOf vk).toNat)
    case atStart => exact ⟨0, -1, rfl, Nat.zero_le _, HO2, Lib.hid (.inl ⟨rfl, fun j hj => absurd hj (Nat.not_lt_zero j)⟩), HBZ⟩
    case round =>
     clear HO2 HBZ
     obtain ⟨q, v, rfl, hq, HO, HV, HBW⟩ := hrel
     have q0 : (0 : Int) <= (q : Int) := Int.natCast_nonneg _
     obtain ⟨_, _, ei, _, ci⟩ := HO.out.readsI.at i hlt
     simp only [sl, Option.some.injEq, Addr.mk.injEq, and_true] at ei
     obtain ⟨rfl, rfl⟩ := ei
     rw [rowZ_get _ hlt, thF_at, Nat.zero_add] at ci
     have kf := World.ownsRow.frozenAt HO.out i
     rcases HV.out with ⟨rfl, hno⟩ | ⟨hv, j, hj, hyes⟩
     ·by_cases hlq : q < i
      ·have qi : (q : Int) < (i : Int) := by omega
       have t2 : decide (q < i) = true := by simpa using hlq
       have hqn : q < n := by omega
       have q1 : (q : Int) < (n : Int) := by omega
       obtain ⟨_, _, eq, _, cq⟩ := HO.out.readsI.at q hqn
       simp only [sl, Option.some.injEq, Addr.mk.injEq, and_true] at eq
       obtain ⟨rfl, rfl⟩ := eq
       rw [rowZ_get _ hqn, thF_lt _ _ _ hlq, Nat.zero_add] at cq
       have hbw : Below W0.heap.size W0 wr := HBA.out.trans (HBW.out.mono (Nat.le_of_eq HG0.out.symm))
       have c11 := (Blk.below HX1.out hbw HX1.out.lt).cell 1
       simp only [List.getElem?_toArray, List.getElem?_cons_zero, List.getElem?_cons_succ] at c11
       have hp := HOR.out.below hbw
       obtain ⟨g3, o3, A3, m3, c3, e3, hm3, d3, r3, l3, l3'⟩ := hp.at_ (i := q) (by rw [HEL.out]; exact hqn)
       obtain ⟨g4, o4, A4, m4, c4, e4, hm4, d4, r4, l4, l4'⟩ := hp.at_ (i := i) (by rw [HEL.out]; exact hlt)
       subst e3
       simp only [Option.some.injEq, Addr.mk.injEq, and_true] at e4
       obtain ⟨rfl, rfl⟩ := e4
       rw [HQ0.out q hqn] at hm3
       rw [HQ0.out i hlt] at hm4
       subst hm3
       subst hm4
       rw [HG.out] at r3 r4
       have hr := HR0.out q i
       have HCG : Hid (R q i = true -> labF R n q = labF R n i) := Lib.hid (fun e => lab_congr HRE.out e)
       have HNO := Lib.hid hno
       obtain ⟨bb, hbb⟩ : ∃ bb, R q i = bb := ⟨_, rfl⟩
       have HAG := Lib.hid (vecs_dec_quiet (b := bb) r3 r4 (by rw [<- hbb, hr]; simp))
       have HBB := Lib.hid hbb
       clear hno hbw hp HV r3 r4 hr hbb
       obtain ⟨lq, hlqe⟩ : ∃ y, labF R n q = y := ⟨_, rfl⟩
       rw [hlqe] at cq HCG
       clear hlqe
       cases bb with
       | true =>
         go_wp2_with fail
         go_quiet ((go_at_call 26; exact HAG.out _))
         go_wp2_with fail
         refine ⟨⟨q + 1, ((lq : Nat) : Int), by go_num, by omega, Lib.hid ?_, Lib.hid (.inr ⟨by rw [HCG.out HBB.out], q, hlq, HBB.out⟩), Lib.hid ((below_drewN HBW.out nq).setCell (p := ⟨g0, i, none⟩) (Nat.le_refl _) _)⟩, by simp [intOf]; omega⟩
         have h := (Own.stored (w := wr.drewN nq) (l := rowZ n (thF R n i (-1))) HO.out i (lq : Int)).1
         rw [thF_set] at h
         exact h
       | false =>
         go_wp2_with fail
         go_quiet ((go_at_call 26; exact HAG.out _))
         go_wp2_with fail
         refine ⟨⟨q + 1, -1, by go_num, by omega, HO, Lib.hid (.inl ⟨rfl, fun j hj => ?_⟩), Lib.hid (below_drewN HBW.out nq)⟩, by simp [intOf]; omega⟩
         rcases Nat.lt_or_ge j q with z | z
         ·exact HNO.out j z
         ·obtain rfl : j = q := by omega
          exact HBB.out
      ·obtain rfl : i = q := by omega
       obtain ⟨hn1, hn2⟩ := lab_new HRE.out hlt hno
       rw [HCN.out] at hn1 hn2
       have HN1 := Lib.hid hn1; have HN2 := Lib.hid hn2
       have t2 : decide (i < i) = false := by simp
       obtain ⟨kv, kc⟩ : ∃ x, wr.cell? ⟨g0, i, none⟩ = some x := ⟨_, ci⟩
       have cn0 : (0 : Int) <= (cn : Int) := Int.natCast_nonneg _
       clear hn1 hn2 hno HV kc
       go_wp2_with fail
       refine ⟨⟨i + 1, by go_num, by omega, by rw [HN2.out]; go_num, Lib.hid ?_, Lib.hid (HBW.out.setCell (p := ⟨g0, i, none⟩) (Nat.le_refl _) _)⟩, by simp [intOf]; omega⟩
       have h := (Own.stored HO.out i (cn : Int)).1
       rw [thF_set, thF_done R n i (by rw [HN1.out])] at h
       exact h
     ·have hv0 : ¬ v < 0 := by rw [hv]; omega
      have hv1 : decide (v < 0) = false := by simpa using hv0
      have HVE := Lib.hid hv
      have HOL := Lib.hid (lab_old HRE.out hj hyes)
      rw [HCN.out] at HOL
      clear hv hyes HV
      have hqi : q < i \/ ¬ q < i := by omega
      rcases hqi with hqi | hqi
      ·have t2 : decide (q < i) = true := by simpa using hqi
       have t3 : (q : Int) < (i : Int) := by omega
       go_wp2_with fail
       refine ⟨⟨i + 1, by go_num, by omega, by rw [HOL.out], Lib.hid ?_, HBW⟩, by simp [intOf]; omega⟩
       rw [<- thF_done R n i HVE.out]
       exact HO.out
      ·have t2 : decide (q < i) = false := by simpa using hqi
       have t3 : ¬ (q : Int) < (i : Int) := by omega
       go_wp2_with fail
       refine ⟨⟨i + 1, by go_num, by omega, by rw [HOL.out], Lib.hid ?_, HBW⟩, by simp [intOf]; omega⟩
       rw [<- thF_done R n i HVE.out]
       exact HO.out
   ·obtain rfl : n = i := by omega
    have hO := HO.out
    rw [thF_all] at hO
    have hbw : Below W0.heap.size W0 wr := HBA.out.trans (HBW.out.mono (Nat.le_of_eq HG0.out.symm))
    have hro : ReadsI wr (sl g0 n n) n (rowN n (labF (lvR T k g 0) n)) := by rw [HRR.out]; exact hO.readsI
    have hnr := HNR.out.below hbw
    have HKF : Hid (∀ rr, (∀ x y, x < n -> y < n -> (lvR T k g rr x y = true ↔ AlikeN T k g x y)) -> ∀ x y, x < T.length -> y < T.length -> (labF (lvR T k g rr) n x = labF (lvR T k g rr) n y ↔ AlikeN T k g x y)) := Lib.hid (fun rr hr x y hx hy => by
     rw [HL.out] at hx hy
     rw [lab_iff (lvR_eqv rr) hx hy]
     exact hr x y hx hy)
    have HPA := Lib.hid (fun V (hV : Below wr.heap.size wr V) => parts_any (g := g) (hnr.below hV) HL.out HT.out (hro.below hV) hn)
    have HNM := Lib.hid (fun V (hV : Below wr.heap.size wr V) (PA : Option Addr) (pc rr : Nat) (hp : ReadsI V (.slice PA n pc) n (rowN n (labF (lvR T k g rr) n))) (hr : ∀ x y, x < n -> y < n -> (lvR T k g rr x y = true ↔ AlikeN T k g x y)) => names_any (hnr.below hV) HL.out HT.out hp (EF.step HT.out (HKF.out rr hr)) hn hk)
    have HKS : Hid (∀ W : World, Below wr.heap.size wr W -> (fun W : World => W.cell? ⟨b1, 0, none⟩ = some (.slice NA n nc) /\ W.cell? ⟨b1, 1, none⟩ = some (.slice OA n oc)) W) := Lib.hid (fun W hW => by
     have hx := Blk.below HX1.out (hbw.trans (hW.mono hbw.size)) HX1.out.lt
     have y0 := hx.cell 0
     have y1 := hx.cell 1
     exact ⟨by simpa using y0, by simpa using y1⟩)
    have HBWW := Lib.hid hbw
    clear hO hbw hro hnr HO HBW HRE HR0
    go_wp2_with fail
    have hb : Below wr.heap.size wr wr.drew := (Below.refl _ _).drew
    have hS := HKS.out _ hb
    refine region_x 13 (fun W : World => W.cell? ⟨b1, 0, none⟩ = some (.slice NA n nc) /\ W.cell? ⟨b1, 1, none⟩ = some (.slice OA n oc)) (by kernel_rfl) ?_
    generalize wr.drew = V0 at *
    refine tkx (i := 0) (v := ?_) hS ?_ ?_
    rotate_left
    ·rintro w' ⟨s0', s1'⟩
     go_simp
     try with_reducible rfl
    try simp only [Act.put, zq1, zq2, zq3, zq4, zq5, zq6]
    refine tkx (i := 1) (v := ?_) hS ?_ ?_
    rotate_left
    ·rintro w' ⟨s0', s1'⟩
     go_simp
     try with_reducible rfl
    try simp only [Act.put, zq1, zq2, zq3, zq4, zq5, zq6]
    refine tkx (i := 2) (v := ?_) hS ?_ ?_
    rotate_left
    ·rintro w' ⟨s0', s1'⟩
     go_simp
     try with_reducible rfl
    try simp only [Act.put, zq1, zq2, zq3, zq4, zq5, zq6]
    refine tkx (i := 3) (v := ?_) hS ?_ ?_
    rotate_left
    ·rintro w' ⟨s0', s1'⟩
     go_simp
     try with_reducible rfl
    try simp only [Act.put, zq1, zq2, zq3, zq4, zq5, zq6]
    refine tkx (i := 4) (v := ?_) hS ?_ ?_
    rotate_left
    ·rintro w' ⟨s0', s1'⟩
     go_simp
     try with_reducible rfl
    try simp only [Act.put, zq1, zq2, zq3, zq4, zq5, zq6]
    refine anyX_g (i := 5) (by kernel_rfl) (by decide) rfl (by rfl) ?_
    intro K hK
    try simp only [zq1, zq2, zq3]
    refine wp_enterE #[.slice NA n nc, sl g0 n n] Try.func36 (by kernel_rfl) (by kernel_rfl) ?_ (HPA.out V0 hb) ?_
    ·go_simp
    rintro e V1 ⟨PA, pc, rr, rfl, hpr, hker, hpc, hpc2, hbn⟩
    refine ⟨_, rfl, ?_⟩
    replace hb := hb.trans (hbn.mono hb.size)
    clear hbn
    have hS := HKS.out _ hb
    have hnm := HNM.out V1 hb PA pc rr hpr hker
    obtain ⟨F, hF⟩ : ∃ F, labF (lvR T k g rr) n = F := ⟨_, rfl⟩
    have hKF : ∀ x y, x < T.length -> y < T.length -> (F x = F y ↔ AlikeN T k g x y) := fun x y hx hy => by rw [<- hF]; exact HKF.out rr hker x y hx hy
    rw [hF] at hnm
    clear hF hker hpr
    refine hK _ _ hS ?_
    clear hK
    try simp only [Act.put, zq1, zq2, zq3, zq4, zq5, zq6]
    refine anyX_g (i := 6) (by kernel_rfl) (by decide) rfl (by rfl) ?_
    intro K hK
    try simp only [zq1, zq2, zq3]
    refine wp_enterE #[.slice NA n nc, .slice PA n pc] Try.func35 (by kernel_rfl) (by kernel_rfl) ?_ hnm ?_
    ·go_simp
    rintro e V2 ⟨gn, v9, v10, vals, r, rfl, hrl, hgB, hns⟩
    refine ⟨_, rfl, ?_⟩
    have hle := hb.size
    have hb1 := hb
    replace hb := hb.trans (hns.fr.mono hb.size)
    have hS := HKS.out _ hb
    clear hnm
    refine hK _ _ hS ?_
    clear hK
    try simp only [Act.put, zq1, zq2, zq3, zq4, zq5, zq6]
    refine tkx (i := 7) (v := ?_) hS ?_ ?_
    rotate_left
    ·rintro w' ⟨s0', s1'⟩
     go_simp
     try with_reducible rfl
    try simp only [Act.put, zq1, zq2, zq3, zq4, zq5, zq6]
    refine tkx (i := 8) (v := ?_) hS ?_ ?_
    rotate_left
    ·rintro w' ⟨s0', s1'⟩
     go_simp
     try with_reducible rfl
    try simp only [Act.put, zq1, zq2, zq3, zq4, zq5, zq6]
    refine tkx (i := 9) (v := ?_) hS ?_ ?_
    rotate_left
    ·rintro w' ⟨s0', s1'⟩
     go_simp
     try with_reducible rfl
    try simp only [Act.put, zq1, zq2, zq3, zq4, zq5, zq6]
    refine tkx (i := 10) (v := ?_) hS ?_ ?_
    rotate_left
    ·rintro w' ⟨s0', s1'⟩
     go_simp
     try with_reducible rfl
    try simp only [Act.put, zq1, zq2, zq3, zq4, zq5, zq6]
    refine tkx (i := 11) (v := ?_) hS ?_ ?_
    rotate_left
    ·rintro w' ⟨s0', s1'⟩
     go_simp
     try with_reducible rfl
    try simp only [Act.put, zq1, zq2, zq3, zq4, zq5, zq6]
    refine tkx (i := 12) (v := ?_) hS ?_ ?_
    rotate_left
    ·rintro w' ⟨s0', s1'⟩
     go_simp
     try with_reducible rfl
    try simp only [Act.put, zq1, zq2, zq3, zq4, zq5, zq6]
    refine anyX_last (by kernel_rfl) (by kernel_rfl) rfl rfl ?_
    try simp only [zq1, zq2, zq3]
    go_simp
    try apply_assumption
    have hMF : MachF T k g F r := ⟨HT.out, hKF, hrl⟩
    have hr0 : 0 < r := by rw [<- hrl]; exact rep_pos
    have hll := hns.ll (fun q hq => by
     have := (quo_rect HT.out (EF.eqv F) hMF.step).len q (by rw [quo_len, hrl]; exact hq)
     exact this)
    obtain ⟨XA, xr, xc, e10⟩ := hll.formS
    obtain ⟨-, A9, c9, e9, -, -, -, -⟩ := id hns.fi.readsI
    have hxr : xr = r := by
     obtain ⟨a', c', e, -, -⟩ := (hll.nextR (T := quoN T (EF F)) (by rw [quo_len]; exact hrl) (fun i hi => xssT_at _ hi)).form
     rw [e10] at e
     simp only [Value.slice.injEq] at e
     rw [e.2.1, quo_len]
     exact hrl
    subst hxr
    subst e10
    rw [hrl] at e9
    subst e9
    have hbw2 : Below W0.heap.size W0 V2 := HBWW.out.trans (hb.mono HBWW.out.size)
    obtain ⟨b3, hb3⟩ : ∃ b, b = V2.heap.size := ⟨_, rfl⟩
    obtain ⟨W3, hW3⟩ : ∃ W, V2.alloc (.cells #[.slice XA xr xc, .slice none 0 0] 30) = W := ⟨_, rfl⟩
    have hb23 : Below V2.heap.size V2 W3 := by rw [<- hW3]; exact (Below.refl _ _).alloc (Nat.le_refl _) _
    have hx3 : Blk W3 b3 30 #[.slice XA xr xc, .slice none 0 0] := by rw [<- hW3, hb3]; exact Blk.new _ _ _
    have HMF := Lib.hid hMF; have HLL := Lib.hid (hll.below hb23); have HN9 : Hid (ReadsI W3 (.slice A9 xr c9) xr (intsN (repN T (EF F)))) := Lib.hid (by have h := hns.fi.readsI.below hb23; rw [hrl] at h; exact h); have HN9B : Hid (∀ gg oo, A9 = some ⟨gg, oo, none⟩ -> gg ≠ b3) := Lib.hid (fun gg oo e => by
     have hf := hns.fi.readsI
     rw [hrl] at hf
     obtain ⟨z, o, e2, hz, -⟩ := hf.at 0 hr0
     rw [e] at e2
     simp only [Option.some.injEq, Addr.mk.injEq, and_true] at e2
     omega); have HAT := Lib.hid (hns.at_.below_top hb23); have HBW2 := Lib.hid hbw2; have HB23 := Lib.hid hb23; have HX3 := Lib.hid hx3; have HB3 := Lib.hid hb3; have HW3 := Lib.hid hW3
    have hg3 : gn < b3 := by rw [hb3]; exact (hns.at_.lt gn rfl).2
    have h03 : W0.heap.size <= b3 := by rw [hb3]; exact hbw2.size
    have HSTL := Lib.hid (EF.step HT.out hMF.kern)
    have hrn : xr <= n := by rw [<- hrl, <- HL.out]; exact rep_len HT.out (EF.eqv F)
    have HRL := Lib.hid hrl
    have HST : Hid (RFk 30 W3 W3 b3 (.slice XA xr xc) (.slice none 0 0) 0 (xssV E ((repN T (EF F)).take 0))) := Lib.hid ⟨hx3, OwnLL.nil _ _ _ _ _, Fr.refl _ _⟩
    clear hMF hll hns hbw2 hb23 hx3 hW3 hb hb1 hle HBWW HKS HPA HNM HKF hgB hrl hKF hS
    clear hb3
    go_wp2_with fail
    rw [<- HB3.out, HW3.out]
    go_loopw [12] (fun vi wr => ∃ (i : Nat) (YA : Option Addr) (yc : Nat), vi = .int .i64 (i : Int) /\ i <= xr /\ Hid (RFk 30 W3 wr b3 (.slice XA xr xc) (.slice YA i yc) i (xssV E ((repN T (EF F)).take i)))) (fun vi _ => xr - (intOf vi).toNat)
    case atStart => exact ⟨0, none, 0, rfl, Nat.zero_le _, HST⟩
    case round =>
     clear HST
     obtain ⟨i, YA, yc, rfl, hi, HJ⟩ := hrel
     have i0 : (0 : Int) <= (i : Int) := Int.natCast_nonneg _
     have hbw : Below W0.heap.size W0 wr := (HBW2.out.trans (HB23.out.mono HBW2.out.size)).trans (HJ.out.fr.below (Nat.le_trans HBW2.out.size HB23.out.size) (fun k hk e => by omega))
     by_cases hlt : i < xr
     ·have i1 : (i : Int) < (xr : Int) := by omega
      have t1 : decide (i < xr) = true := by simpa using hlt
      obtain ⟨u, hu⟩ : ∃ u, (repN T (EF F))[i]? = some u := ⟨_, List.getElem?_eq_getElem (by rw [HRL.out]; exact hlt)⟩
      have hun : u < n := by rw [<- HL.out]; exact bfs_lt HT.out _ _ (List.mem_of_getElem? hu)
      have HTK : Hid (xssV E ((repN T (EF F)).take (i + 1)) = xssV E ((repN T (EF F)).take i) ++ [(q0, (g u).flatMap encV)]) := Lib.hid (by
       rw [List.take_add_one, hu]
       unfold xssV
       rw [List.map_append]
       have hgl : (g u).length = q0 := by rw [<- HG.out]; exact HQ0.out u hun
       simp only [Option.toList_some, List.map_cons, List.map_nil, HG.out, hgl])
      obtain ⟨g9, o9, e9, hg9, d9⟩ := HN9.out.at i hlt
      subst e9
      have hg9n : g9 ≠ b3 := fun e => by
       have h1 := World.block_lt_of_cell? W3 _ d9
       exact HN9B.out g9 o9 rfl e
      rw [intsN_at, List.getD_eq_getElem?_getD, hu] at d9
      obtain ⟨go, oo, A1, m1, c1, eO, hm1, dO, rO, l1, l1'⟩ := HOR.out.at_ (i := u) (by rw [HEL.out]; exact hun)
      subst eO
      rw [HQ0.out u hun] at hm1
      subst hm1
      rw [HG.out] at rO
      have hgo := World.block_lt_of_cell? W0 _ dO
      have HRW : Hid (∀ W, Below wr.heap.size wr W -> ReadsE encV 3 W (.slice A1 m1 c1) m1 (g u)) := Lib.hid (fun W hW => rO.below (hbw.trans (hW.mono hbw.size)))
      have hg3l : b3 < W3.heap.size := HX3.out.lt
      have hb1l : b1 < W0.heap.size := HX1.out.lt
      have h0l : W0.heap.size <= W3.heap.size := by omega
      have d9' := HJ.out.fr.cell d9 (X := fun q => q = b3) hg9n
      have HKS : Hid (∀ W : World, Below wr.heap.size wr W -> (fun W : World => W.cell? ⟨b3, 1, none⟩ = some (.slice YA i yc) /\ W.cell? ⟨b1, 1, none⟩ = some (.slice (some ⟨go, oo, none⟩) n oc) /\ W.cell? ⟨g9, o9 + i, none⟩ = some (.int .i64 (u : Int)) /\ W.cell? ⟨go, oo + u, none⟩ = some (.slice A1 m1 c1)) W) := Lib.hid (fun W hW => by
       have x3 := Blk.below HJ.out.box hW HJ.out.box.lt
       have x1 := Blk.below HX1.out (hbw.trans (hW.mono hbw.size)) HX1.out.lt
       have y0 := x3.cell 1
       have y1 := x1.cell 1
       exact ⟨by simpa using y0, by simpa using y1, bel_m hW d9', bel_m hW (bel_m hbw dO)⟩)
      have HKG : Hid (∀ V W : World, Below wr.heap.size wr V -> V.grownBy W (Value.slice YA i yc).ownBlock -> (fun W : World => W.cell? ⟨b3, 1, none⟩ = some (.slice YA i yc) /\ W.cell? ⟨b1, 1, none⟩ = some (.slice (some ⟨go, oo, none⟩) n oc) /\ W.cell? ⟨g9, o9 + i, none⟩ = some (.int .i64 (u : Int)) /\ W.cell? ⟨go, oo + u, none⟩ = some (.slice A1 m1 c1)) W) := Lib.hid (fun V W hV hG => by
       have hy := HJ.out.row.below hV
       have hne : ∀ b : Nat, b < W3.heap.size -> some b ≠ (Value.slice YA i yc).ownBlock := fun b hb e => by
        have := (hy.lt b e.symm).1; omega
       obtain ⟨s0, s1, s2, s3⟩ := HKS.out V hV
       exact ⟨hG.cell s0 (hne b3 hg3l), hG.cell s1 (hne b1 (Nat.lt_of_lt_of_le hb1l h0l)), hG.cell s2 (hne g9 hg9), hG.cell s3 (hne go (Nat.lt_of_lt_of_le hgo h0l))⟩)
      obtain ⟨gu, hgu⟩ : ∃ y, g u = y := ⟨_, rfl⟩
      obtain ⟨L, hL⟩ : ∃ L, ((repN T (EF F)).take i).map g = L := ⟨_, rfl⟩
      rw [hgu] at HRW HTK
      obtain ⟨xss, hxs⟩ : ∃ l, xssV E ((repN T (EF F)).take i) = l := ⟨_, rfl⟩
      rw [hxs] at HJ HTK
      have u0 : (0 : Int) <= (u : Int) := Int.natCast_nonneg _
      have u1 : (u : Int) < (n : Int) := by omega
      have hi9 : i <= 1000000 := by omega
      have HSZ : Hid (W3.heap.size <= wr.heap.size) := Lib.hid HJ.out.fr.size
      clear d9 d9' dO rO hbw hu hgu hxs
      go_wp2_with fail
      have hb : Below wr.heap.size wr wr.drew := (Below.refl _ _).drew
      have hS := HKS.out _ hb
      refine region_x 15 (fun W : World => W.cell? ⟨b3, 1, none⟩ = some (.slice YA i yc) /\ W.cell? ⟨b1, 1, none⟩ = some (.slice (some ⟨go, oo, none⟩) n oc) /\ W.cell? ⟨g9, o9 + i, none⟩ = some (.int .i64 (u : Int)) /\ W.cell? ⟨go, oo + u, none⟩ = some (.slice A1 m1 c1)) (by kernel_rfl) ?_
      generalize wr.drew = V0 at *
      refine tkx (i := 0) (v := ?_) hS ?_ ?_
      rotate_left
      ·rintro w' ⟨s0', s1', s2', s3'⟩
       go_simp
       try with_reducible rfl
      try simp only [Act.put, zq1, zq2, zq3, zq4, zq5, zq6]
      refine tkx (i := 1) (v := ?_) hS ?_ ?_
      rotate_left
      ·rintro w' ⟨s0', s1', s2', s3'⟩
       go_simp
       try with_reducible rfl
      try simp only [Act.put, zq1, zq2, zq3, zq4, zq5, zq6]
      refine tkx (i := 3) (v := ?_) hS ?_ ?_
      rotate_left
      ·rintro w' ⟨s0', s1', s2', s3'⟩
       go_simp
       try with_reducible rfl
      try simp only [Act.put, zq1, zq2, zq3, zq4, zq5, zq6]
      refine tkx (i := 4) (v := ?_) hS ?_ ?_
      rotate_left
      ·rintro w' ⟨s0', s1', s2', s3'⟩
       go_simp
       try with_reducible rfl
      try simp only [Act.put, zq1, zq2, zq3, zq4, zq5, zq6]
      refine tkx (i := 5) (v := ?_) hS ?_ ?_
      rotate_left
      ·rintro w' ⟨s0', s1', s2', s3'⟩
       go_simp
       try with_reducible rfl
      try simp only [Act.put, zq1, zq2, zq3, zq4, zq5, zq6]
      refine tkx (i := 6) (v := ?_) hS ?_ ?_
      rotate_left
      ·rintro w' ⟨s0', s1', s2', s3'⟩
       go_simp
       try with_reducible rfl
      try simp only [Act.put, zq1, zq2, zq3, zq4, zq5, zq6]
      refine tkx (i := 7) (v := ?_) hS ?_ ?_
      rotate_left
      ·rintro w' ⟨s0', s1', s2', s3'⟩
       go_simp
       try with_reducible rfl
      try simp only [Act.put, zq1, zq2, zq3, zq4, zq5, zq6]
      refine tkx (i := 8) (v := ?_) hS ?_ ?_
      rotate_left
      ·rintro w' ⟨s0', s1', s2', s3'⟩
       go_simp
       try with_reducible rfl
      try simp only [Act.put, zq1, zq2, zq3, zq4, zq5, zq6]
      refine tkx (i := 9) (v := ?_) hS ?_ ?_
      rotate_left
      ·rintro w' ⟨s0', s1', s2', s3'⟩
       go_simp
       try with_reducible rfl
      try simp only [Act.put, zq1, zq2, zq3, zq4, zq5, zq6]
      refine tkx (i := 10) (v := ?_) hS ?_ ?_
      rotate_left
      ·rintro w' ⟨s0', s1', s2', s3'⟩
       go_simp
       try with_reducible rfl
      try simp only [Act.put, zq1, zq2, zq3, zq4, zq5, zq6]
      refine anyX_g (i := 2) (by kernel_rfl) (by decide) rfl (by rfl) ?_
      intro K hK
      try simp only [zq1, zq2, zq3]
      go_simp
      obtain ⟨V1, eV⟩ : ∃ W', V0.alloc (.cells #[] 53) = W' := ⟨_, rfl⟩
      have hbn : Below V0.heap.size V0 V1 := by rw [<- eV]; exact (Below.refl _ _).alloc (Nat.le_refl _) _
      have xe : OwnE encV 53 3 V1 V0.heap.size (sl V0.heap.size 0 0) 0 [] := by rw [<- eV]; exact own_box _ _ 3 0 _ (by omega) rfl
      rw [eV]
      clear eV
      have hp0 : wr.heap.size <= V0.heap.size := hb.size
      replace hb := hb.trans (hbn.mono hb.size)
      have hpz : V0.heap.size <= V1.heap.size := hbn.size
      clear hbn
      replace hS := HKS.out _ hb
      obtain ⟨p0, hp⟩ : ∃ p, p = V0.heap.size := ⟨_, rfl⟩
      rw [<- hp] at xe hp0 hpz ⊢
      clear hp
      refine hK _ _ hS ?_
      clear hK
      try simp only [Act.put, zq1, zq2, zq3, zq4, zq5, zq6]
      refine anyX_g (i := 11) (by kernel_rfl) (by decide) rfl (by rfl) ?_
      intro K hK
      try simp only [zq1, zq2, zq3]
      refine wp_concatV rfl (.tmp 88) (.tmp 96) rfl p0 (sl p0 0 0) 0 [] (by rfl) xe (.slice A1 m1 c1) m1 gu (by rfl) (HRW.out _ hb) (by omega) hpz ?_
      intro u8 V2' xr hbn q2
      obtain ⟨UA, uc, e8, -, -, -⟩ := (xr.reads encV_len (by decide)).form
      subst e8
      rw [Nat.zero_add, List.nil_append] at xr
      simp only [Nat.zero_add]
      replace hb := hb.trans (hbn.mono hp0)
      replace hpz := Nat.le_trans hpz hbn.size
      clear hbn q2 xe
      replace hS := HKS.out _ hb
      refine hK _ _ hS ?_
      clear hK
      try simp only [Act.put, zq1, zq2, zq3, zq4, zq5, zq6]
      refine anyX_g (i := 12) (by kernel_rfl) (by decide) rfl (by rfl) ?_
      intro K hK
      try simp only [zq1, zq2, zq3]
      go_simp
      obtain ⟨V3, eV⟩ : ∃ W', V2'.alloc (.cells #[.slice UA m1 uc] 42) = W' := ⟨_, rfl⟩
      have hbn : Below V2'.heap.size V2' V3 := by rw [<- eV]; exact (Below.refl _ _).alloc (Nat.le_refl _) _
      have xb : Blk V3 V2'.heap.size 42 #[.slice UA m1 uc] := by rw [<- eV]; exact Blk.new _ _ _
      rw [eV]
      clear eV
      replace xr := xr.below_top hbn
      replace hb := hb.trans (hbn.mono hb.size)
      clear hbn
      replace hS := HKS.out _ hb
      obtain ⟨p1, hp1⟩ : ∃ p, p = V2'.heap.size := ⟨_, rfl⟩
      rw [<- hp1] at xb ⊢
      clear hp1
      refine hK _ _ hS ?_
      clear hK
      try simp only [Act.put, zq1, zq2, zq3, zq4, zq5, zq6]
      refine anyX_g (i := 13) (by kernel_rfl) (by decide) rfl (by rfl) ?_
      intro K hK
      try simp only [zq1, zq2, zq3]
      have hO := HJ.out.row.below hb
      have hx0 := Blk.below HJ.out.box hb HJ.out.box.lt
      have hFV : Fr (fun q => q = b3) W3 V3 := HJ.out.fr.then_ (Fr.of_below (X := fun _ => False) hb) (fun _ _ e => e.elim)
      have hBV : W3.heap.size <= V3.heap.size := hFV.size
      obtain ⟨vals, hvals, hpush⟩ := hO.pushV
      have hvals1 := hvals
      unfold OwnE at hvals1
      rw [flat1] at hvals1
      have hu : V3.ownsRow W3.heap.size 53 3 (.slice UA m1 uc) m1 (gu.flatMap encV) := ownsRow_any xr (Nat.le_trans HSZ.out hp0)
      have hap : Apart (.slice YA i yc) (.slice UA m1 uc) := by
       cases hv : (Value.slice YA i yc).ownBlock with
       | none => exact .inl hv
       | some z => exact .inr (.inr (fun e => rows_ne hvals1 hu (by decide) z hv (by rw [<- e]; exact hv)))
      refine wp_pushK rfl (.tmp 87) (.tmp 98) 28 42 rfl 1 24 _ Try.underlying28 info_vrow rfl (by omega) (by omega) W3.heap.size (.slice YA i yc) i vals (by rfl) hvals1 p1 (by rfl) #[.slice UA m1 uc] rfl xb (by simp [Value.oneCell']) hi9 hBV ?_
      intro g7 cap7 V4 q1 q2 q3
      have hP : PushedE (fun u : Value => [u]) 42 1 W3.heap.size V3 V4 (.slice YA i yc) g7 cap7 i vals (.slice UA m1 uc) := pushedE_of hvals1 q1 q2 q3
      have hll := hpush _ _ _ _ _ _ hP hu hap
      have hS : (fun W : World => W.cell? ⟨b3, 1, none⟩ = some (.slice YA i yc) /\ W.cell? ⟨b1, 1, none⟩ = some (.slice (some ⟨go, oo, none⟩) n oc) /\ W.cell? ⟨g9, o9 + i, none⟩ = some (.int .i64 (u : Int)) /\ W.cell? ⟨go, oo + u, none⟩ = some (.slice A1 m1 c1)) V4 := HKG.out _ _ hb q2
      have hE := RFk.push hx0 HX3.out.lt hFV hvals1 hll q2 (by decide) (by decide)
      have hx3 := hE.2
      have HE := hE.1
      rw [<- HTK.out] at HE
      replace HE := Lib.hid HE
      have k1 := Blk.cell hx3 1; have f1 := Blk.frozen hx3 1
      simp only [List.getElem?_toArray, List.getElem?_cons_zero, List.getElem?_cons_succ] at k1
      clear hb hO hx0 hFV hvals hpush hvals1 hu hap q1 q2 q3 hP hll hE hx3 xb xr hBV hp0 hpz
      refine hK _ _ hS ?_
      clear hK
      try simp only [Act.put, zq1, zq2, zq3, zq4, zq5, zq6]
      refine tkx (i := 14) (v := ?_) hS ?_ ?_
      rotate_left
      ·rintro w' ⟨s0', s1', s2', s3'⟩
       go_simp
       try with_reducible rfl
      try simp only [Act.put, zq1, zq2, zq3, zq4, zq5, zq6]
      refine anyX_last (by kernel_rfl) (by kernel_rfl) rfl rfl ?_
      try simp only [zq1, zq2, zq3]
      go_simp
      try apply_assumption
      clear hS
      clear k1 f1
      go_wp2_with fail
      exact ⟨⟨i + 1, some ⟨g7, 0, none⟩, cap7, by go_num, by omega, HE⟩, by simp [intOf]; omega⟩
     ·obtain rfl : xr = i := by omega
      have t1 : decide (xr < xr) = false := by simp
      have hnr := HNR.out.below hbw
      have hat : Own wr _ (sl gn n n) n _ := HJ.out.fr.own HAT.out (fun k hk e => by
       have : gn = k := by simpa [Value.ownBlock] using hk
       omega)
      have HKS : Hid (∀ W : World, Below wr.heap.size wr W -> (fun W : World => W.cell? ⟨b3, 0, none⟩ = some (.slice XA xr xc) /\ W.cell? ⟨b3, 1, none⟩ = some (.slice YA xr yc) /\ W.cell? ⟨b1, 0, none⟩ = some (.slice NA n nc)) W) := Lib.hid (fun W hW => by
       have x3 := Blk.below HJ.out.box hW HJ.out.box.lt
       have x1 := Blk.below HX1.out (hbw.trans (hW.mono hbw.size)) HX1.out.lt
       have y0 := x3.cell 0
       have y1 := x3.cell 1
       have y2 := x1.cell 0
       exact ⟨by simpa using y0, by simpa using y1, by simpa using y2⟩)
      have HNRW := Lib.hid hnr; have HATW := Lib.hid hat; have HBWW := Lib.hid hbw
      have HLLW := Lib.hid (HLL.out.keepT HJ.out.fr (fun q e => e) HX3.out (by decide) (by decide))
      clear hbw hnr hat
      go_wp2_with fail
      have hb : Below wr.heap.size wr wr.drew := (Below.refl _ _).drew
      have hS := HKS.out _ hb
      refine region_y 6 (fun W : World => W.cell? ⟨b3, 0, none⟩ = some (.slice XA xr xc) /\ W.cell? ⟨b3, 1, none⟩ = some (.slice YA xr yc) /\ W.cell? ⟨b1, 0, none⟩ = some (.slice NA n nc)) (by kernel_rfl) ?_
      generalize wr.drew = V0 at *
      refine tky (i := 0) (v := ?_) hS ?_ ?_
      rotate_left
      ·rintro w' ⟨s0', s1', s2'⟩
       go_simp
       try with_reducible rfl
      try simp only [Act.put, zq1, zq2, zq3, zq4, zq5, zq6]
      refine tkyg [5] (i := 1) (v := ?_) hS ?_ ?_
      rotate_left
      ·rintro w' ⟨s0', s1', s2'⟩
       go_simp
       try with_reducible rfl
      try simp only [Act.put, zq1, zq2, zq3, zq4, zq5, zq6]
      refine tkyg [5, 4, 3] (i := 2) (v := ?_) hS ?_ ?_
      rotate_left
      ·rintro w' ⟨s0', s1', s2'⟩
       go_simp
       try with_reducible rfl
      try simp only [Act.put, zq1, zq2, zq3, zq4, zq5, zq6]
      refine tkyg [5, 4] (i := 3) (v := ?_) hS ?_ ?_
      rotate_left
      ·rintro w' ⟨s0', s1', s2'⟩
       go_simp
       try with_reducible rfl
      try simp only [Act.put, zq1, zq2, zq3, zq4, zq5, zq6]
      refine anyY_g (i := 4) (by kernel_rfl) rfl rfl ?_
      intro K hK
      try simp only [zq1, zq2, zq3]
      refine wp_enterE #[.slice NA n nc] Try.func38 (by kernel_rfl) (by kernel_rfl) ?_ (met_any (HNRW.out.below hb) HL.out HT.out hn hk hk0) ?_
      ·go_simp
      rintro e V1 ⟨gb, rfl, hmb, hbn⟩
      refine ⟨_, rfl, ?_⟩
      replace hb := hb.trans (hbn.mono hb.size)
      clear hbn
      have hS := HKS.out _ hb
      refine hK _ _ hS ?_
      clear hK
      try simp only [Act.put, zq1, zq2, zq3, zq4, zq5, zq6]
      refine anyY_g (i := 5) (by kernel_rfl) rfl rfl ?_
      intro K hK
      try simp only [zq1, zq2, zq3]
      refine wp_enterE #[sl gn n n, sl gb n n] Try.func37 (by kernel_rfl) (by kernel_rfl) ?_ (only_any (HATW.out.below_top hb).readsI hmb hn hpos) ?_
      ·go_simp
      rintro e V2' ⟨vv, rfl, hov, hbn⟩
      refine ⟨_, rfl, ?_⟩
      replace hb := hb.trans (hbn.mono hb.size)
      clear hbn hmb
      have hS := HKS.out _ hb
      obtain ⟨-, GA, gc, ev, -, -, -, -⟩ := id hov.readsI
      subst ev
      refine hK _ _ hS ?_
      clear hK
      try simp only [Act.put, zq1, zq2, zq3, zq4, zq5, zq6]
      have hx2 := Blk.below HX2.out (HBWW.out.trans (hb.mono HBWW.out.size)) HX2.out.lt
      have k0 := Blk.cell hx2 0; have k1 := Blk.cell hx2 1; have f0 := Blk.frozen hx2 0; have f1 := Blk.frozen hx2 1
      simp only [List.getElem?_toArray, List.getElem?_cons_zero, List.getElem?_cons_succ] at k0 k1
      have HXE := Lib.hid hx2; have HBE := Lib.hid hb; have HOV := Lib.hid hov
      clear hx2 hb hov hS
      refine anyY_h (i := 6) (by kernel_rfl) (by kernel_rfl) rfl rfl ?_
      intro K hK
      try simp only [zq1, zq2, zq3]
      go_simp
      refine hK _ _ ?_
      clear hK
      try simp only [Act.put, zq1, zq2, zq3, zq4, zq5, zq6]
      refine anyY_last (i := 7) (by kernel_rfl) (by kernel_rfl) (by kernel_rfl) rfl rfl ?_
      try simp only [zq1, zq2, zq3]
      go_simp
      try apply_assumption
      clear k0 k1 f0 f1
      go_wp2_with fail
      have hH2 : Fr (fun q => q = b2) V2' ((V2'.setCell ⟨b2, 0, none⟩ (.slice XA xr xc)).setCell ⟨b2, 1, none⟩ (.slice YA xr yc)) := ((Fr.refl (fun q => q = b2) V2').set_ (p := ⟨b2, 0, none⟩) (.inl rfl) _).set_ (p := ⟨b2, 1, none⟩) (.inl rfl) _
      have xb2 := (HXE.out.set_ 0 (.slice XA xr xc)).set_ 1 (.slice YA xr yc)
      have hb2w : Below wr.heap.size wr V2' := HBE.out
      have hll := (HLLW.out.below hb2w).keepT hH2 (fun q e => e) HXE.out (by decide) (by decide)
      have hyo := HJ.out.row.below hb2w
      have hyo2 := hyo.keepT3 hH2 (fun q e => e) HXE.out (by decide) (by decide)
      have hov2 := rowFr HOV.out hH2 (fun q hq e => by subst e; exact blk_ne HXE.out HOV.out (by decide) hq)
      generalize (V2'.setCell ⟨b2, 0, none⟩ (.slice XA xr xc)).setCell ⟨b2, 1, none⟩ (.slice YA xr yc) = V3 at *
      have q0 := Blk.cell xb2 0; have q1' := Blk.cell xb2 1
      simp only [List.getElem?_toArray, List.setIfInBounds_toArray, List.set_cons_zero, List.set_cons_succ, List.getElem?_cons_zero, List.getElem?_cons_succ] at q0 q1'
      refine bodyPost_ret (v := .tuple #[.agg #[.slice XA xr xc, .slice YA xr yc], .slice GA n gc]) (by simp [results, Try.results19, go_sem, q0, q1']) rfl ?_
      have hq : NextR V3 (.slice XA xr xc) (quoN T (EF F)) := hll.nextR (by rw [quo_len]; exact HRL.out) (fun i hi => xssT_at _ hi)
      have hqo : EmitR V3 (.slice YA xr yc) (quoE T F E) := by
       rw [<- HRL.out, List.take_length] at hyo2
       have h1 := hyo2.emitR (quoE_len T F E) (fun i hi => xssV_at E _ hi)
       rw [HRL.out] at h1
       exact h1
      have hno : ReadsI V3 (.slice GA n gc) n (rowZ n (nameN T (EF F))) := by
       rw [<- names_rowZ HT.out (EF.eqv F) HSTL.out]; exact Own.readsI hov2
      have hlq := hq.form
      obtain ⟨a', c', e, l1, l2⟩ := hlq
      rw [quo_len, HRL.out] at e l1
      simp only [Value.slice.injEq, true_and] at e
      obtain ⟨rfl, rfl⟩ := e
      obtain ⟨a', c', e, l3, l4⟩ := hqo.form
      rw [quoE_len, HRL.out] at e l3
      simp only [Value.slice.injEq, true_and] at e
      obtain ⟨rfl, rfl⟩ := e
      refine ⟨_, _, _, _, GA, gc, F, xr, rfl, ?_, hq, hqo, hno, l1, l2, l3, l4, ?_⟩
      ·rw [HGE.out]; exact HMF.out
      ·have h1 := HBWW.out.trans (hb2w.mono HBWW.out.size)
       have h2 := HB0.out.trans (h1.mono HB0.out.size)
       exact h2.trans (hH2.below h2.size (fun q hq e => by omega))
end Go.Proofs.Ytdcokkgdahbinaa
