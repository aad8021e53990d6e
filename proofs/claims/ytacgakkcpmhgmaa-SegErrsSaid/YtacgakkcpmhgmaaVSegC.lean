/- Contracts of seg: the row of costs; the cursor. Contracts of seg: the cheapest of a window. Contracts of seg: the cursor's Len, Seek, Next, Prev, At, Best. Contracts of seg: the cursor's At, Best. -/
import Derived.Test.YtacgakkcpmhgmaaVTableH
import Derived.Test.YtacgakkcpmhgmaaVTableP
import Derived.Deep.QuietTactic
import Derived.BigQuiet
set_option linter.unusedVariables false
set_option linter.unusedSimpArgs false
set_option maxRecDepth 100000
set_option maxHeartbeats 4000000
namespace Go.Proofs.Ytacgakkcpmhgmaa
open Go Go.RowKit Go.Proofs
def InRow (n : Nat) (x : Int) : Prop := 0 <= x /\ x < (n : Int)
def HasO (n : Nat) (xs : List Int) (w : World) (e : Ending) (w' : World) : Prop := ∃ b, e = .returned (.bool b) /\ (b = true ↔ ∀ x ∈ xs, InRow n x) /\ w' = w
theorem sblk_new (w : World) {b : Nat} (hb : w.heap.size = b) (cs : Array Value) (t : TypeId) : Blk (w.alloc (.cells cs t)) b t cs := by rw [<- hb]; exact Blk.new _ _ _
theorem shas_any {w : World} {A : Option Addr} {n cap m : Nat} {v : Value} {xs : List Int} (h : ReadsI w v m xs) (hm : m <= 1000) :
  Calls Try.prog 55 #[.slice A n cap, v] w (HasO n xs w) := by
  obtain ⟨B, bc, rfl, l1, l2, l3⟩ := h.form
  have HH := Lib.hid h; have HL := Lib.hid l3
  clear h l3
  go_enter Try.func55, Try.ntmps55
  go_wp2_with fail
  go_loopw [9] (fun vi wr => ∃ i : Nat, vi = .int .i64 (i : Int) /\ i <= m /\ Hid (∀ j, j < i -> InRow n (xs.getD j 0)) /\ Hid (wr = w)) (fun vi _ => m - (intOf vi).toNat)
  case atStart => exact ⟨0, rfl, Nat.zero_le _, Lib.hid (fun j hj => absurd hj (Nat.not_lt_zero j)), Lib.hid rfl⟩
  case round =>
   obtain ⟨i, rfl, hi, HJ, HW⟩ := hrel
   have i0 : (0 : Int) <= (i : Int) := Int.natCast_nonneg _
   by_cases hlt : i < m
   ·have i1 : (i : Int) < (m : Int) := by omega
    have t1 : decide (i < m) = true := by simpa using hlt
    have t2 : decide (m <= i) = false := by simpa using hlt
    obtain ⟨g, o, e, -, c⟩ := HH.out.at i hlt
    subst e
    rw [<- HW.out] at c
    have hmem : xs.getD i 0 ∈ xs := getD_memL (by rw [HL.out]; exact hlt)
    obtain ⟨y, hy⟩ : ∃ y, xs.getD i 0 = y := ⟨_, rfl⟩
    rw [hy] at c hmem
    have HY := Lib.hid hy; have HM := Lib.hid hmem
    clear hy hmem
    have n0 : (0 : Int) <= (n : Int) := Int.natCast_nonneg _
    rcases Int.lt_or_le y 0 with g1 | g1
    ·go_wp2_with fail
     go_ret
     unfold HasO
     exact ⟨false, rfl, ⟨(fun e => by cases e), fun e => by have := (e _ HM.out).1; omega⟩, HW.out⟩
    ·have g1' : ¬ y < 0 := by omega
     rcases Int.lt_or_le y (n : Int) with g2 | g2
     ·have g2' : ¬ (n : Int) <= y := by omega
      go_wp2_with fail
      exact ⟨⟨i + 1, by go_num, by omega, Lib.hid (fun j hj => by
       by_cases e : j = i
       ·rw [e, HY.out]; exact ⟨g1, g2⟩
       ·exact HJ.out j (by omega)), HW⟩, by simp [intOf]; omega⟩
     ·go_wp2_with fail
      go_ret
      unfold HasO
      exact ⟨false, rfl, ⟨(fun e => by cases e), fun e => by have := (e _ HM.out).2; omega⟩, HW.out⟩
   ·obtain rfl : m = i := by omega
    go_wp2_with fail
    go_ret
    unfold HasO
    refine ⟨true, rfl, ⟨fun _ x hx => ?_, fun _ => rfl⟩, HW.out⟩
    obtain ⟨j, hj, rfl⟩ := List.getElem_of_mem hx
    have := HJ.out j (by rw [<- HL.out]; exact hj)
    rw [List.getD_eq_getElem?_getD, List.getElem?_eq_getElem hj] at this
    exact this
def noneV : V3 := (1152921504606846976, 1152921504606846976, 1152921504606846976)
def vcV (u : V3) : Value := .agg #[.int .i64 u.1, .int .i64 u.2.1, .int .i64 u.2.2]
theorem tnone_any (w : World) : Calls Try.prog 69 #[] w fun e w' => e = .returned (vcV noneV) /\ Below w.heap.size w w' := by
 go_enter Try.func69, Try.ntmps69
 go_wp2_with fail
 refine bodyPost_ret (v := vcV noneV) (by simp [results, Try.results69, go_sem, vcV, noneV]) rfl ?_
 exact ⟨rfl, (Below.refl _ _).alloc (Nat.le_refl _) _⟩
def rowAt (l : List V3) (x : Int) : V3 := if 0 <= x /\ x < (l.length : Int) then l.getD x.toNat (0, 0, 0) else noneV
theorem readsI_cell1 {w : World} {b : Nat} {x : Int} (h : w.cell? ⟨b, 0, none⟩ = some (.int .i64 x)) : ReadsI w (.slice (some ⟨b, 0, none⟩) 1 1) 1 [x] :=
 ⟨rfl, _, 1, rfl, Nat.le_refl _, by unfold maxLen; omega, (fun e => by cases e), fun i hi => ⟨b, 0, rfl, fun j hj => by
  obtain rfl : j = 0 := by omega
  exact h⟩⟩
theorem svec_any {w : World} {A : Option Addr} {n cap : Nat} {l : List V3} {x : Int} (h : ReadsE encV 3 w (.slice A n cap) n l) :
  Calls Try.prog 53 #[.slice A n cap, .int .i64 x] w fun e w' => e = .returned (vcV (rowAt l x)) /\ Below w.heap.size w w' := by
  have hll : l.length = n := h.1
  obtain ⟨W0, hW0⟩ : ∃ W, (w.alloc (.cells #[.int .i64 0, .int .i64 0, .int .i64 0] 51)).alloc (.cells #[.int .i64 x] 3) = W := ⟨_, rfl⟩
  obtain ⟨b, hb⟩ : ∃ b, w.heap.size = b := ⟨_, rfl⟩
  have hb0 : Below w.heap.size w W0 := by rw [<- hW0]; exact ((Below.refl _ _).alloc (Nat.le_refl _) _).alloc (by simp) _
  have hx1 : Blk W0 b 51 #[.int .i64 0, .int .i64 0, .int .i64 0] := by rw [<- hW0]; exact Blk.alloc (sblk_new _ hb _ _) _
  have hx2 : Blk W0 (b + 1) 3 #[.int .i64 x] := by rw [<- hW0]; exact sblk_new _ (by rw [World.size_alloc, hb]) _ _
  have HH := Lib.hid (h.below hb0); have HX := Lib.hid hx1; have HB := Lib.hid hb0; have HL := Lib.hid hll
  have HR := Lib.hid (readsI_cell1 (hx2.cell 0))
  have HW0 := Lib.hid hW0; have HBE := Lib.hid hb
  clear h hx1 hx2 hb0 hW0 hb hll
  go_enter Try.func53, Try.ntmps53
  go_wp2_with fail
  rw [HW0.out]
  try simp only [HBE.out]
  refine (shas_any HR.out (by omega)).mono ?_
  intro e w1 hho
  unfold HasO at hho
  obtain ⟨r, rfl, hr, hw⟩ := hho
  subst w1
  have c0 := HX.out.cell 0; have c1 := HX.out.cell 1; have c2 := HX.out.cell 2; have f0 := HX.out.frozen 0; have f1 := HX.out.frozen 1; have f2 := HX.out.frozen 2
  simp only [List.getElem?_toArray, List.getElem?_cons_zero, List.getElem?_cons_succ] at c0 c1 c2
  cases r with
  | false =>
    have hno : ¬ (0 <= x /\ x < (l.length : Int)) := fun q => by
     have := hr.2 (fun y hy => by simp only [List.mem_singleton] at hy; subst hy; rw [HL.out] at q; exact q)
     cases this
    have HRA : Hid (rowAt l x = noneV) := Lib.hid (if_neg hno)
    clear hr hno
    go_wp2_with fail
    refine (tnone_any _).mono ?_
    rintro e w2 ⟨rfl, hb2⟩
    have HX2 := Lib.hid (Blk.below HX.out hb2 HX.out.lt)
    have HB2 := Lib.hid (HB.out.trans (hb2.mono HB.out.size))
    have hbw := HBE.out
    clear hb2 c0 c1 c2 f0 f1 f2
    have c0 := HX2.out.cell 0; have c1 := HX2.out.cell 1; have c2 := HX2.out.cell 2; have f0 := HX2.out.frozen 0; have f1 := HX2.out.frozen 1; have f2 := HX2.out.frozen 2
    simp only [List.getElem?_toArray, List.getElem?_cons_zero, List.getElem?_cons_succ] at c0 c1 c2
    have HBW := Lib.hid hbw
    clear hbw
    unfold vcV noneV
    go_wp2_with fail
    refine bodyPost_ret (v := vcV noneV) (by simp [results, Try.results53, go_sem, vcV, noneV, c0, c1, c2]) rfl ?_
    rw [HRA.out]
    exact ⟨rfl, ((HB2.out.setCell (p := ⟨b, 0, none⟩) (by rw [HBW.out]; exact Nat.le_refl _) _).setCell (p := ⟨b, 1, none⟩) (by rw [HBW.out]; exact Nat.le_refl _) _).setCell (p := ⟨b, 2, none⟩) (by rw [HBW.out]; exact Nat.le_refl _) _⟩
  | true =>
    have hyes : 0 <= x /\ x < (l.length : Int) := by rw [HL.out]; exact hr.1 rfl x (by simp)
    obtain ⟨i, hi⟩ : ∃ i : Nat, x = (i : Int) := ⟨x.toNat, by omega⟩
    subst hi
    have hil : i < l.length := by omega
    have hin : i < n := by rw [<- HL.out]; exact hil
    obtain ⟨⟨p, q, s⟩, hu⟩ : ∃ u, l.getD i (0, 0, 0) = u := ⟨_, rfl⟩
    have HRA : Hid (rowAt l (i : Int) = (p, q, s)) := Lib.hid (by unfold rowAt; rw [if_pos hyes, Int.toNat_natCast, hu])
    have hx : l[i]? = some (p, q, s) := by rw [<- hu, List.getD_eq_getElem?_getD, List.getElem?_eq_getElem hil]; rfl
    obtain ⟨g, o, e, -, hc⟩ := HH.out.at encV_len (by decide) i _ hx
    subst e
    have d0 := hc 0 (.int .i64 p) rfl; have d1 := hc 1 (.int .i64 q) rfl; have d2 := hc 2 (.int .i64 s) rfl
    rw [Nat.add_zero] at d0
    have i0 : (0 : Int) <= (i : Int) := Int.natCast_nonneg _
    have i1 : (i : Int) < (n : Int) := by omega
    have HBW := Lib.hid HBE.out
    clear hr hyes hil hu hx hc
    go_wp2_with fail
    refine bodyPost_ret (v := vcV (p, q, s)) (by simp [results, Try.results53, go_sem, vcV, c0, c1, c2]) rfl ?_
    rw [HRA.out]
    exact ⟨rfl, ((HB.out.setCell (p := ⟨b, 0, none⟩) (by rw [HBW.out]; exact Nat.le_refl _) _).setCell (p := ⟨b, 1, none⟩) (by rw [HBW.out]; exact Nat.le_refl _) _).setCell (p := ⟨b, 2, none⟩) (by rw [HBW.out]; exact Nat.le_refl _) _⟩
end Go.Proofs.Ytacgakkcpmhgmaa
namespace Go.Proofs.Ytacgakkcpmhgmaa
open Go Go.RowKit Go.Proofs
def costAt (l : List V3) (c i : Nat) : Int := (enVec (l.getD i (0, 0, 0))).getD c 0
def cheapO (l : List V3) (c lo n : Nat) (w : World) (e : Ending) (w' : World) : Prop :=
 e = .returned (.tuple #[.int .i64 ((cheapI (costAt l c) 1152921504606846976 lo n).1 : Int), .bool (decide ((cheapI (costAt l c) 1152921504606846976 lo n).2 < 1152921504606846976))]) /\ w' = w
theorem scheap_any {w : World} {A : Option Addr} {n cap lo hi c : Nat} {l : List V3} (h : ReadsE encV 3 w (.slice A n cap) n l) (h1 : lo <= hi) (h2 : hi < n) (hc : c < 3) (hn : n <= 1000000) :
  Calls Try.prog 56 #[.slice A n cap, .int .i64 (lo : Int), .int .i64 (hi : Int), .int .i64 (c : Int)] w (cheapO l c lo (hi + 1 - lo) w) := by
  have hll : l.length = n := h.1
  have HH := Lib.hid h; have HL := Lib.hid hll
  have c0 : (0 : Int) <= (c : Int) := Int.natCast_nonneg _
  have c1 : (c : Int) < 3 := by omega
  clear h hll
  go_enter Try.func56, Try.ntmps56
  go_wp2_with fail
  go_loopw [10, 11, 12] (fun vb vl vi wr => ∃ j : Nat, vi = .int .i64 ((lo + j : Nat) : Int) /\ j <= hi + 1 - lo /\ vb = .int .i64 ((cheapI (costAt l c) 1152921504606846976 lo j).1 : Int) /\ vl = .int .i64 (cheapI (costAt l c) 1152921504606846976 lo j).2 /\ Hid (wr = w)) (fun _ _ vi _ => hi + 1 - (intOf vi).toNat)
  case atStart => exact ⟨0, by simp, Nat.zero_le _, rfl, rfl, Lib.hid rfl⟩
  case round =>
   obtain ⟨j, rfl, hj, rfl, rfl, HW⟩ := hrel
   obtain ⟨i, hi9⟩ : ∃ i, lo + j = i := ⟨_, rfl⟩
   rw [hi9]
   have i0 : (0 : Int) <= (i : Int) := Int.natCast_nonneg _
   have hle := cheapI_le (costAt l c) 1152921504606846976 lo j
   by_cases hlt : i <= hi
   ·have i1 : (i : Int) <= (hi : Int) := by omega
    have i2 : (i : Int) < (n : Int) := by omega
    have hin : i < n := by omega
    have hil : i < l.length := by rw [HL.out]; exact hin
    obtain ⟨u, hu⟩ : ∃ u, l.getD i (0, 0, 0) = u := ⟨_, rfl⟩
    have hx : l[i]? = some u := by rw [<- hu, List.getD_eq_getElem?_getD, List.getElem?_eq_getElem hil]; rfl
    obtain ⟨g, o, e, -, hcc⟩ := HH.out.at encV_len (by decide) i _ hx
    subst e
    obtain ⟨y, hy⟩ : ∃ y, (enVec u).getD c 0 = y := ⟨_, rfl⟩
    have d0 := hcc c (.int .i64 y) (by
     subst hy
     rcases (show c = 0 \/ c = 1 \/ c = 2 by omega) with rfl | rfl | rfl <;> rfl)
    rw [<- HW.out] at d0
    have hcy : costAt l c (lo + j) = y := by unfold costAt; rw [hi9, hu, hy]
    have hstep : cheapI (costAt l c) 1152921504606846976 lo (j + 1) = if y < 1152921504606846976 /\ y <= (cheapI (costAt l c) 1152921504606846976 lo j).2 then (lo + j, y) else cheapI (costAt l c) 1152921504606846976 lo j := by
     show (if costAt l c (lo + j) < _ /\ costAt l c (lo + j) <= _ then (lo + j, costAt l c (lo + j)) else _) = _
     rw [hcy]
    obtain ⟨⟨p, z⟩, hp⟩ : ∃ q, cheapI (costAt l c) 1152921504606846976 lo j = q := ⟨_, rfl⟩
    rw [hp] at hstep hle ⊢
    have HST := Lib.hid hstep; have HI9 := Lib.hid hi9
    clear hstep hcy hx hcc hu hy hp hi9
    rcases Int.lt_or_le y 1152921504606846976 with g1 | g1
    ·rcases Int.lt_or_le z y with g2 | g2
     ·have g2' : ¬ y <= z := by omega
      have HS2 : Hid (cheapI (costAt l c) 1152921504606846976 lo (j + 1) = (p, z)) := Lib.hid (by rw [HST.out, if_neg (by omega)])
      go_wp2_with fail
      exact ⟨⟨j + 1, by rw [<- HI9.out]; go_num, by have := HI9.out; omega, by rw [HS2.out], by rw [HS2.out], HW⟩, by have := HI9.out; simp [intOf]; omega⟩
     ·have HS2 : Hid (cheapI (costAt l c) 1152921504606846976 lo (j + 1) = (i, y)) := Lib.hid (by rw [HST.out, if_pos ⟨g1, g2⟩, HI9.out])
      go_wp2_with fail
      exact ⟨⟨j + 1, by rw [<- HI9.out]; go_num, by have := HI9.out; omega, by rw [HS2.out], by rw [HS2.out], HW⟩, by have := HI9.out; simp [intOf]; omega⟩
    ·have g1' : ¬ y < 1152921504606846976 := by omega
     have HS2 : Hid (cheapI (costAt l c) 1152921504606846976 lo (j + 1) = (p, z)) := Lib.hid (by rw [HST.out, if_neg (by omega)])
     go_wp2_with fail
     exact ⟨⟨j + 1, by rw [<- HI9.out]; go_num, by have := HI9.out; omega, by rw [HS2.out], by rw [HS2.out], HW⟩, by have := HI9.out; simp [intOf]; omega⟩
   ·obtain rfl : j = hi + 1 - lo := by omega
    have i3 : ¬ (i : Int) <= (hi : Int) := by omega
    obtain ⟨⟨p, z⟩, hp⟩ : ∃ q, cheapI (costAt l c) 1152921504606846976 lo (hi + 1 - lo) = q := ⟨_, rfl⟩
    rw [hp]
    have HP := Lib.hid hp
    clear hp hle
    go_wp2_with fail
    refine bodyPost_ret (v := .tuple #[.int .i64 (p : Int), .bool (decide (z < 1152921504606846976))]) (by simp [results, Try.results56, go_sem]) rfl ?_
    unfold cheapO
    rw [HP.out]
    exact ⟨rfl, HW.out⟩
end Go.Proofs.Ytacgakkcpmhgmaa
namespace Go.Proofs.Ytacgakkcpmhgmaa
open Go Go.RowKit Go.Proofs
structure CurS (w : World) (b : Nat) (A : Option Addr) (cap : Nat) (l : List V3) (at_ : Int) : Prop where
 x : Blk w b 83 #[.slice A l.length cap, .int .i64 at_]
 r : ReadsE encV 3 w (.slice A l.length cap) l.length l
 far : ∀ p, A = some p -> p.block ≠ b
theorem CurS.below {w w' : World} {b cap : Nat} {A : Option Addr} {l : List V3} {at_ : Int} (h : CurS w b A cap l at_) (hb : Below w.heap.size w w') : CurS w' b A cap l at_ := ⟨Blk.below h.x hb h.x.lt, h.r.below hb, h.far⟩
theorem CurS.move {w : World} {b cap : Nat} {A : Option Addr} {l : List V3} {at_ : Int} (h : CurS w b A cap l at_) (y : Int) : CurS (w.setCell ⟨b, 1, none⟩ (.int .i64 y)) b A cap l y := by
 refine ⟨by simpa using h.x.set_ 1 (.int .i64 y), ?_, h.far⟩
 have hfar := h.far
 obtain ⟨h1, a, c, h2, h5, h6, h3, h4⟩ := h.r
 simp only [Value.slice.injEq, true_and] at h2
 obtain ⟨rfl, rfl⟩ := h2
 refine ⟨h1, A, cap, rfl, h5, h6, h3, fun i x hi => ?_⟩
 obtain ⟨g, off, e, hc⟩ := h4 i x hi
 refine ⟨g, off, e, fun j u hj => ?_⟩
 rw [<- hc j u hj]
 exact World.cell?_of_block (a := ⟨g, off + i * 3 + j, none⟩) (Below.heap_setCell w ⟨b, 1, none⟩ _ g (hfar _ e))
theorem ssize_any {w : World} {A : Option Addr} {n cap : Nat} : Calls Try.prog 54 #[.slice A n cap] w fun e w' => e = .returned (.int .i64 (n : Int)) /\ w' = w := by
 go_enter Try.func54, Try.ntmps54
 go_wp2_with fail
 go_ret
 exact ⟨rfl, rfl⟩
theorem slen_any {w : World} {b cap : Nat} {A : Option Addr} {l : List V3} {at_ : Int} (h : CurS w b A cap l at_) :
  Calls Try.prog 26 #[.pointer (some ⟨b, 0, none⟩)] w fun e w' => e = .returned (.int .i64 (l.length : Int)) /\ w' = w := by
  have c0 := h.x.cell 0
  simp only [List.getElem?_toArray, List.getElem?_cons_zero, List.getElem?_cons_succ] at c0
  go_enter Try.func26, Try.ntmps26
  go_wp2_with fail
  refine ssize_any.mono ?_
  rintro e w1 ⟨rfl, hw⟩
  subst w1
  go_wp2_with fail
  go_ret
  exact ⟨rfl, rfl⟩
def SeekO (w : World) (b : Nat) (A : Option Addr) (cap : Nat) (l : List V3) (at_ y : Int) (e : Ending) (w' : World) : Prop :=
 ∃ r, e = .returned (.bool r) /\ (r = true ↔ InRow l.length y) /\ CurS w' b A cap l (if r then y else at_) /\ Fr (fun q => q = b) w w'
theorem sseek_any {w : World} {b cap : Nat} {A : Option Addr} {l : List V3} {at_ y : Int} (h : CurS w b A cap l at_) :
  Calls Try.prog 31 #[.pointer (some ⟨b, 0, none⟩), .int .i64 y] w (SeekO w b A cap l at_ y) := by
  have c0 := h.x.cell 0
  simp only [List.getElem?_toArray, List.getElem?_cons_zero, List.getElem?_cons_succ] at c0
  obtain ⟨W0, hW0⟩ : ∃ W, w.alloc (.cells #[.int .i64 y] 3) = W := ⟨_, rfl⟩
  have hb0 : Below w.heap.size w W0 := by rw [<- hW0]; exact (Below.refl _ _).alloc (Nat.le_refl _) _
  have hx2 : Blk W0 w.heap.size 3 #[.int .i64 y] := by rw [<- hW0]; exact Blk.new _ _ _
  have HR := Lib.hid (readsI_cell1 (hx2.cell 0)); have HC := Lib.hid (h.below hb0); have HB := Lib.hid hb0; have HW0 := Lib.hid hW0; have HBL := Lib.hid h.x.lt
  clear h hb0 hx2 hW0
  go_enter Try.func31, Try.ntmps31
  go_wp2_with fail
  rw [HW0.out]
  refine (shas_any HR.out (by omega)).mono ?_
  intro e w1 hho
  unfold HasO at hho
  obtain ⟨r, rfl, hr, hw⟩ := hho
  subst w1
  have c1 := HC.out.x.cell 1; have f1 := HC.out.x.frozen 1
  simp only [List.getElem?_toArray, List.getElem?_cons_zero, List.getElem?_cons_succ] at c1
  have HRR : Hid (r = true ↔ InRow l.length y) := Lib.hid (by rw [hr]; simp)
  clear hr c0
  cases r with
  | false =>
    have HIN : Hid (¬ InRow l.length y) := Lib.hid (fun e => by have := HRR.out.2 e; cases this)
    clear HRR
    go_wp2_with fail
    go_ret
    unfold SeekO
    exact ⟨false, rfl, ⟨(fun e => by cases e), fun e => absurd e HIN.out⟩, HC.out, Fr.of_below (HB.out)⟩
  | true =>
    have HIN := Lib.hid (HRR.out.1 rfl)
    clear HRR
    go_wp2_with fail
    go_ret
    unfold SeekO
    exact ⟨true, rfl, ⟨fun _ => HIN.out, fun _ => rfl⟩, HC.out.move y, (Fr.of_below (X := fun q => q = b) HB.out).set_ (p := ⟨b, 1, none⟩) (.inl rfl) _⟩
theorem snext_any {w : World} {b cap : Nat} {A : Option Addr} {l : List V3} {at_ : Int} (h : CurS w b A cap l at_) (h0 : 0 <= at_) (h1 : at_ <= 1000000) :
  Calls Try.prog 29 #[.pointer (some ⟨b, 0, none⟩)] w (SeekO w b A cap l at_ (at_ + 1)) := by
  have c1 := h.x.cell 1
  simp only [List.getElem?_toArray, List.getElem?_cons_zero, List.getElem?_cons_succ] at c1
  have HH := Lib.hid h
  have W1 : IntKind.i64.wrap (at_ + 1) = at_ + 1 := IntWalk.i64_in _ (by omega)
  clear h
  go_enter Try.func29, Try.ntmps29
  go_wp2_with fail
  refine (sseek_any HH.out).mono ?_
  intro e w1 hso
  unfold SeekO at hso
  obtain ⟨r, rfl, h1, h2, h3⟩ := hso
  have H1 := Lib.hid h1; have H2 := Lib.hid h2; have H3 := Lib.hid h3
  clear h1 h2 h3
  go_wp2_with fail
  go_ret
  unfold SeekO
  exact ⟨r, rfl, H1.out, H2.out, H3.out⟩
theorem sprev_any {w : World} {b cap : Nat} {A : Option Addr} {l : List V3} {at_ : Int} (h : CurS w b A cap l at_) (h0 : 0 <= at_) (h1 : at_ <= 1000000) :
  Calls Try.prog 30 #[.pointer (some ⟨b, 0, none⟩)] w (SeekO w b A cap l at_ (at_ - 1)) := by
  have c1 := h.x.cell 1
  simp only [List.getElem?_toArray, List.getElem?_cons_zero, List.getElem?_cons_succ] at c1
  have HH := Lib.hid h
  have W1 : IntKind.i64.wrap (at_ - 1) = at_ - 1 := IntWalk.i64_in _ (by omega)
  clear h
  go_enter Try.func30, Try.ntmps30
  go_wp2_with fail
  refine (sseek_any HH.out).mono ?_
  intro e w1 hso
  unfold SeekO at hso
  obtain ⟨r, rfl, h1, h2, h3⟩ := hso
  have H1 := Lib.hid h1; have H2 := Lib.hid h2; have H3 := Lib.hid h3
  clear h1 h2 h3
  go_wp2_with fail
  go_ret
  unfold SeekO
  exact ⟨r, rfl, H1.out, H2.out, H3.out⟩
end Go.Proofs.Ytacgakkcpmhgmaa
namespace Go.Proofs.Ytacgakkcpmhgmaa
open Go Go.RowKit Go.Proofs
theorem sat_any {w : World} {b cap : Nat} {A : Option Addr} {l : List V3} {at_ : Int} (h : CurS w b A cap l at_) :
  Calls Try.prog 25 #[.pointer (some ⟨b, 0, none⟩)] w fun e w' => e = .returned (.tuple #[.int .i64 at_, vcV (rowAt l at_)]) /\ Below w.heap.size w w' := by
  obtain ⟨b3, hbe⟩ : ∃ q, w.heap.size = q := ⟨_, rfl⟩
  obtain ⟨W0, hW0⟩ : ∃ W, w.alloc (.cells #[.int .i64 0, .int .i64 0, .int .i64 0] 51) = W := ⟨_, rfl⟩
  have hb0 : Below w.heap.size w W0 := by rw [<- hW0]; exact (Below.refl _ _).alloc (Nat.le_refl _) _
  have HX : Hid (Blk W0 b3 51 #[.int .i64 0, .int .i64 0, .int .i64 0]) := Lib.hid (by rw [<- hW0]; exact sblk_new _ hbe _ _)
  have HC := Lib.hid (h.below hb0); have HB := Lib.hid hb0; have HW0 := Lib.hid hW0; have HBE := Lib.hid hbe
  obtain ⟨n, hn⟩ : ∃ n, l.length = n := ⟨_, rfl⟩
  have hr := HC.out.r
  rw [hn] at hr
  have HR := Lib.hid hr
  have hc := HC.out
  have HC2 : Hid (Blk W0 b 83 #[.slice A n cap, .int .i64 at_]) := Lib.hid (by rw [<- hn]; exact hc.x)
  clear h hb0 hW0 hbe hr hn hc HC
  go_enter Try.func25, Try.ntmps25
  go_wp2_with fail
  rw [HW0.out]
  try simp only [HBE.out]
  have hb : Below W0.heap.size W0 W0.drew := (Below.refl _ _).drew
  have hS : (fun W : World => W.cell? ⟨b, 0, none⟩ = some (.slice A n cap) /\ W.cell? ⟨b, 1, none⟩ = some (.int .i64 at_)) W0.drew := ⟨bel_m hb (HC2.out.cell 0), bel_m hb (HC2.out.cell 1)⟩
  refine region_x 14 (fun W : World => W.cell? ⟨b, 0, none⟩ = some (.slice A n cap) /\ W.cell? ⟨b, 1, none⟩ = some (.int .i64 at_)) (by kernel_rfl) ?_
  generalize W0.drew = V0 at *
  refine tkx (i := 0) (v := ?_) hS ?_ ?_
  rotate_left
  ·rintro w' ⟨s0', s1'⟩
   go_simp
   try with_reducible rfl
  try simp only [Act.put, zq1, zq2, zq3, zq4, zq5, zq6]
  refine tkx (i := 1) (v := ?_) hS ?_ ?_
  rotate_left
  ·rintro w' ⟨s0', s1'⟩
   go_simp
   try with_reducible rfl
  try simp only [Act.put, zq1, zq2, zq3, zq4, zq5, zq6]
  refine tkx (i := 2) (v := ?_) hS ?_ ?_
  rotate_left
  ·rintro w' ⟨s0', s1'⟩
   go_simp
   try with_reducible rfl
  try simp only [Act.put, zq1, zq2, zq3, zq4, zq5, zq6]
  refine tkx (i := 3) (v := ?_) hS ?_ ?_
  rotate_left
  ·rintro w' ⟨s0', s1'⟩
   go_simp
   try with_reducible rfl
  try simp only [Act.put, zq1, zq2, zq3, zq4, zq5, zq6]
  refine tkx (i := 4) (v := ?_) hS ?_ ?_
  rotate_left
  ·rintro w' ⟨s0', s1'⟩
   go_simp
   try with_reducible rfl
  try simp only [Act.put, zq1, zq2, zq3, zq4, zq5, zq6]
  refine tkx (i := 5) (v := ?_) hS ?_ ?_
  rotate_left
  ·rintro w' ⟨s0', s1'⟩
   go_simp
   try with_reducible rfl
  try simp only [Act.put, zq1, zq2, zq3, zq4, zq5, zq6]
  refine tkx (i := 6) (v := ?_) hS ?_ ?_
  rotate_left
  ·rintro w' ⟨s0', s1'⟩
   go_simp
   try with_reducible rfl
  try simp only [Act.put, zq1, zq2, zq3, zq4, zq5, zq6]
  refine tkx (i := 7) (v := ?_) hS ?_ ?_
  rotate_left
  ·rintro w' ⟨s0', s1'⟩
   go_simp
   try with_reducible rfl
  try simp only [Act.put, zq1, zq2, zq3, zq4, zq5, zq6]
  refine tkx (i := 8) (v := ?_) hS ?_ ?_
  rotate_left
  ·rintro w' ⟨s0', s1'⟩
   go_simp
   try with_reducible rfl
  try simp only [Act.put, zq1, zq2, zq3, zq4, zq5, zq6]
  refine tkx (i := 9) (v := ?_) hS ?_ ?_
  rotate_left
  ·rintro w' ⟨s0', s1'⟩
   go_simp
   try with_reducible rfl
  try simp only [Act.put, zq1, zq2, zq3, zq4, zq5, zq6]
  refine tkx (i := 10) (v := ?_) hS ?_ ?_
  rotate_left
  ·rintro w' ⟨s0', s1'⟩
   go_simp
   try with_reducible rfl
  try simp only [Act.put, zq1, zq2, zq3, zq4, zq5, zq6]
  refine tkx (i := 11) (v := ?_) hS ?_ ?_
  rotate_left
  ·rintro w' ⟨s0', s1'⟩
   go_simp
   try with_reducible rfl
  try simp only [Act.put, zq1, zq2, zq3, zq4, zq5, zq6]
  refine anyX_g (i := 12) (by kernel_rfl) (by decide) rfl (by rfl) ?_
  intro K hK
  try simp only [zq1, zq2, zq3]
  refine wp_enterE #[.slice A n cap, .int .i64 at_] Try.func53 (by kernel_rfl) (by kernel_rfl) ?_ (svec_any (HR.out.below hb)) ?_
  ·go_simp
  rintro e V1 ⟨rfl, hbn⟩
  replace hb := hb.trans (hbn.mono hb.size)
  clear hbn
  replace hS : (fun W : World => W.cell? ⟨b, 0, none⟩ = some (.slice A n cap) /\ W.cell? ⟨b, 1, none⟩ = some (.int .i64 at_)) V1 := ⟨bel_m hb (HC2.out.cell 0), bel_m hb (HC2.out.cell 1)⟩
  refine ⟨_, rfl, ?_⟩
  refine hK _ _ hS ?_
  clear hK
  try simp only [Act.put, zq1, zq2, zq3, zq4, zq5, zq6]
  refine tkx (i := 13) (v := ?_) hS ?_ ?_
  rotate_left
  ·rintro w' ⟨s0', s1'⟩
   go_simp
   try with_reducible rfl
  try simp only [Act.put, zq1, zq2, zq3, zq4, zq5, zq6]
  have x3 := Blk.below HX.out hb HX.out.lt
  have c0 := x3.cell 0; have c1 := x3.cell 1; have c2 := x3.cell 2; have f0 := x3.frozen 0; have f1 := x3.frozen 1; have f2 := x3.frozen 2
  simp only [List.getElem?_toArray, List.getElem?_cons_zero, List.getElem?_cons_succ] at c0 c1 c2
  have HB2 := Lib.hid (HB.out.trans (hb.mono HB.out.size))
  obtain ⟨⟨p, q, s⟩, hu⟩ : ∃ u, rowAt l at_ = u := ⟨_, rfl⟩
  rw [hu]
  have HU := Lib.hid hu
  unfold vcV
  clear hS hb x3 hu
  refine anyX_last (by kernel_rfl) (by kernel_rfl) rfl rfl ?_
  try simp only [zq1, zq2, zq3]
  go_simp
  try apply_assumption
  go_wp2_with fail
  refine bodyPost_ret (v := .tuple #[.int .i64 at_, vcV (p, q, s)]) (by simp [results, Try.results25, go_sem, vcV, c0, c1, c2]) rfl ?_
  rw [HU.out]
  exact ⟨rfl, ((HB2.out.setCell (p := ⟨b3, 0, none⟩) (by rw [HBE.out]; exact Nat.le_refl _) _).setCell (p := ⟨b3, 1, none⟩) (by rw [HBE.out]; exact Nat.le_refl _) _).setCell (p := ⟨b3, 2, none⟩) (by rw [HBE.out]; exact Nat.le_refl _) _⟩
def bestI (l : List V3) (lo hi cat : Int) : Nat × Bool :=
 if lo <= hi /\ (0 <= lo /\ lo < (l.length : Int)) /\ (0 <= hi /\ hi < (l.length : Int)) /\ 0 <= cat /\ cat < 3 then
  ((cheapI (costAt l cat.toNat) 1152921504606846976 lo.toNat (hi.toNat + 1 - lo.toNat)).1, decide ((cheapI (costAt l cat.toNat) 1152921504606846976 lo.toNat (hi.toNat + 1 - lo.toNat)).2 < 1152921504606846976))
 else (0, false)
def BestO (l : List V3) (lo hi cat : Int) (w : World) (e : Ending) (w' : World) : Prop := e = .returned (.tuple #[.int .i64 ((bestI l lo hi cat).1 : Int), .bool (bestI l lo hi cat).2]) /\ Below w.heap.size w w'
theorem readsI_two {w : World} {b : Nat} {x y : Int} (h : w.cell? ⟨b, 0, none⟩ = some (.int .i64 x)) (h' : w.cell? ⟨b, 1, none⟩ = some (.int .i64 y)) : ReadsI w (.slice (some ⟨b, 0, none⟩) 2 2) 2 [x, y] :=
 ⟨rfl, _, 2, rfl, Nat.le_refl _, by unfold maxLen; omega, (fun e => by cases e), fun i hi => ⟨b, 0, rfl, fun j hj => by
  rcases (show j = 0 \/ j = 1 by omega) with rfl | rfl
  ·exact h
  ·exact h'⟩⟩
theorem sbest_any {w : World} {b cap : Nat} {A : Option Addr} {l : List V3} {at_ lo hi cat : Int} (h : CurS w b A cap l at_) (hl : l.length <= 1000000) :
  Calls Try.prog 27 #[.pointer (some ⟨b, 0, none⟩), .int .i64 lo, .int .i64 hi, .int .i64 cat] w (BestO l lo hi cat w) := by
  have c0 := h.x.cell 0
  simp only [List.getElem?_toArray, List.getElem?_cons_zero, List.getElem?_cons_succ] at c0
  obtain ⟨W0, hW0⟩ : ∃ W, w.alloc (.cells #[.int .i64 lo, .int .i64 hi] 3) = W := ⟨_, rfl⟩
  have hb0 : Below w.heap.size w W0 := by rw [<- hW0]; exact (Below.refl _ _).alloc (Nat.le_refl _) _
  have hx2 : Blk W0 w.heap.size 3 #[.int .i64 lo, .int .i64 hi] := by rw [<- hW0]; exact Blk.new _ _ _
  have HR := Lib.hid (readsI_two (hx2.cell 0) (hx2.cell 1)); have HC := Lib.hid (h.below hb0); have HB := Lib.hid hb0; have HW0 := Lib.hid hW0
  clear h hb0 hx2 hW0
  go_enter Try.func27, Try.ntmps27
  have hno : ¬ (lo <= hi /\ (0 <= lo /\ lo < (l.length : Int)) /\ (0 <= hi /\ hi < (l.length : Int)) /\ 0 <= cat /\ cat < 3) -> bestI l lo hi cat = (0, false) := fun q => if_neg q
  have HNO := Lib.hid hno
  clear hno
  rcases Int.lt_or_le hi lo with g1 | g1
  ·go_wp2_with fail
   refine bodyPost_ret (v := .tuple #[.int .i64 0, .bool false]) (by simp [results, Try.results27, go_sem]) rfl ?_
   unfold BestO
   rw [HNO.out (by omega)]
   exact ⟨rfl, Below.refl _ _⟩
  have g1' : ¬ hi < lo := by omega
  go_wp2_with fail
  rw [HW0.out]
  refine (shas_any HR.out (by omega)).mono ?_
  intro e w1 hho
  unfold HasO at hho
  obtain ⟨r, rfl, hr, hw⟩ := hho
  subst w1
  have HRR := Lib.hid hr
  clear hr c0
  have c0 := HC.out.x.cell 0
  simp only [List.getElem?_toArray, List.getElem?_cons_zero, List.getElem?_cons_succ] at c0
  cases r with
  | false =>
    have HN2 : Hid (bestI l lo hi cat = (0, false)) := Lib.hid (HNO.out (fun q => by have := HRR.out.2 (fun y hy => by simp only [List.mem_cons, List.not_mem_nil, or_false] at hy; rcases hy with rfl | rfl; exact q.2.1; exact q.2.2.1); cases this))
    clear HRR
    go_wp2_with fail
    refine bodyPost_ret (v := .tuple #[.int .i64 0, .bool false]) (by simp [results, Try.results27, go_sem]) rfl ?_
    unfold BestO
    rw [HN2.out]
    exact ⟨rfl, HB.out⟩
  | true =>
    have hin1 := HRR.out.1 rfl lo (by simp)
    have hin2 := HRR.out.1 rfl hi (by simp)
    have HI1 := Lib.hid hin1; have HI2 := Lib.hid hin2
    clear HRR
    rcases Int.lt_or_le cat 0 with g2 | g2
    ·clear hin1 hin2
     go_wp2_with fail
     refine bodyPost_ret (v := .tuple #[.int .i64 0, .bool false]) (by simp [results, Try.results27, go_sem]) rfl ?_
     unfold BestO
     rw [HNO.out (by omega)]
     exact ⟨rfl, HB.out⟩
    have g2' : ¬ cat < 0 := by omega
    rcases Int.lt_or_le cat 3 with g3 | g3
    rotate_left
    ·clear hin1 hin2
     go_wp2_with fail
     refine bodyPost_ret (v := .tuple #[.int .i64 0, .bool false]) (by simp [results, Try.results27, go_sem]) rfl ?_
     unfold BestO
     rw [HNO.out (by omega)]
     exact ⟨rfl, HB.out⟩
    have g3' : ¬ 3 <= cat := by omega
    obtain ⟨a1, a2⟩ := hin1
    obtain ⟨a3, a4⟩ := hin2
    obtain ⟨i, hi1⟩ : ∃ i : Nat, lo = (i : Int) := ⟨lo.toNat, by omega⟩
    obtain ⟨j, hj1⟩ : ∃ j : Nat, hi = (j : Int) := ⟨hi.toNat, by omega⟩
    obtain ⟨c, hc1⟩ : ∃ c : Nat, cat = (c : Int) := ⟨cat.toNat, by omega⟩
    subst hi1 hj1 hc1
    have HY : Hid (bestI l i j c = ((cheapI (costAt l c) 1152921504606846976 i (j + 1 - i)).1, decide ((cheapI (costAt l c) 1152921504606846976 i (j + 1 - i)).2 < 1152921504606846976))) := Lib.hid (by
     unfold bestI
     rw [if_pos ⟨g1, HI1.out, HI2.out, g2, g3⟩]
     simp only [Int.toNat_natCast])
    clear a1 a3
    go_wp2_with fail
    refine (scheap_any (n := l.length) (lo := i) (hi := j) (c := c) HC.out.r (by omega) (by omega) (by omega) hl).mono ?_
    intro e w2 hco
    unfold cheapO at hco
    obtain ⟨rfl, hw⟩ := hco
    subst w2
    obtain ⟨⟨p, z⟩, hp⟩ : ∃ q, cheapI (costAt l c) 1152921504606846976 i (j + 1 - i) = q := ⟨_, rfl⟩
    rw [hp] at HY ⊢
    clear hp
    go_wp2_with fail
    refine bodyPost_ret (v := .tuple #[.int .i64 (p : Int), .bool (decide (z < 1152921504606846976))]) (by simp [results, Try.results27, go_sem]) rfl ?_
    unfold BestO
    rw [HY.out]
    exact ⟨rfl, HB.out⟩
end Go.Proofs.Ytacgakkcpmhgmaa
