/- The reference's cursor. Two cursors side by side. -/
import Derived.Test.YtacgakkcpmhgmaaVSegU
import Derived.Test.YtacgakkcpmhgmaaVSegV
set_option linter.unusedVariables false
set_option linter.unusedSimpArgs false
set_option maxRecDepth 100000
set_option maxHeartbeats 8000000
namespace Go.Proofs.Ytacgakkcpmhgmaa
open Go Go.RowKit Go.Proofs
structure RCurS (w : World) (b : Nat) (A : Option Addr) (cap : Nat) (l : List V3) (at_ : Int) : Prop where
 x : Blk w b 89 #[.slice A l.length cap, .int .i64 at_]
 r : ReadsE encV 3 w (.slice A l.length cap) l.length l
 far : ∀ p, A = some p -> p.block ≠ b
theorem RCurS.below {w w' : World} {b cap : Nat} {A : Option Addr} {l : List V3} {at_ : Int} (h : RCurS w b A cap l at_) (hb : Below w.heap.size w w') : RCurS w' b A cap l at_ := ⟨Blk.below h.x hb h.x.lt, h.r.below hb, h.far⟩
theorem RCurS.move {w : World} {b cap : Nat} {A : Option Addr} {l : List V3} {at_ : Int} (h : RCurS w b A cap l at_) (y : Int) : RCurS (w.setCell ⟨b, 1, none⟩ (.int .i64 y)) b A cap l y := by
 refine ⟨by simpa using h.x.set_ 1 (.int .i64 y), ?_, h.far⟩
 have hfar := h.far
 obtain ⟨h1, a, c, h2, h5, h6, h3, h4⟩ := h.r
 simp only [Value.slice.injEq, true_and] at h2
 obtain ⟨rfl, rfl⟩ := h2
 refine ⟨h1, A, cap, rfl, h5, h6, h3, fun i x hi => ?_⟩
 obtain ⟨g, off, e, hc⟩ := h4 i x hi
 refine ⟨g, off, e, fun j u hj => ?_⟩
 rw [<- hc j u hj]
 exact World.cell?_of_block (a := ⟨g, off + i * 3 + j, none⟩) (Below.heap_setCell w ⟨b, 1, none⟩ _ g (hfar _ e))
theorem rlen_any {w : World} {b cap : Nat} {A : Option Addr} {l : List V3} {at_ : Int} (h : RCurS w b A cap l at_) :
  Calls Try.prog 38 #[.pointer (some ⟨b, 0, none⟩)] w fun e w' => e = .returned (.int .i64 (l.length : Int)) /\ w' = w := by
  have c0 := h.x.cell 0; have c1 := h.x.cell 1
  simp only [List.getElem?_toArray, List.getElem?_cons_zero, List.getElem?_cons_succ] at c0 c1
  go_enter Try.func38, Try.ntmps38
  go_wp2_with fail
  go_ret
  exact ⟨rfl, rfl⟩
def RSeekO (w : World) (b : Nat) (A : Option Addr) (cap : Nat) (l : List V3) (at_ y : Int) (e : Ending) (w' : World) : Prop :=
 ∃ r, e = .returned (.bool r) /\ (r = true ↔ InRow l.length y) /\ RCurS w' b A cap l (if r then y else at_) /\ Fr (fun q => q = b) w w'
theorem rseek_any {w : World} {b cap : Nat} {A : Option Addr} {l : List V3} {at_ y : Int} (h : RCurS w b A cap l at_) :
  Calls Try.prog 35 #[.pointer (some ⟨b, 0, none⟩), .int .i64 y] w (RSeekO w b A cap l at_ y) := by
  have c0 := h.x.cell 0; have c1 := h.x.cell 1
  simp only [List.getElem?_toArray, List.getElem?_cons_zero, List.getElem?_cons_succ] at c0 c1
  have f1 := h.x.frozen 1
  obtain ⟨n, hn⟩ : ∃ n, l.length = n := ⟨_, rfl⟩
  have hm := h.move y
  have HH := Lib.hid h; have HN := Lib.hid hn; have HM := Lib.hid hm
  rw [hn] at c0
  clear h hn hm
  go_enter Try.func35, Try.ntmps35
  by_cases h0 : y < 0
  ·go_wp2_with fail
   go_ret
   refine ⟨false, rfl, ⟨(fun e => by cases e), fun e => by have := e.1; omega⟩, HH.out, Fr.refl _ _⟩
  ·have h0' : 0 <= y := by omega
   by_cases h1 : y < (n : Int)
   ·have h1' : ¬ (n : Int) <= y := by omega
    go_wp2_with fail
    go_ret
    refine ⟨true, rfl, ⟨fun _ => ⟨h0', by rw [HN.out]; exact h1⟩, fun _ => rfl⟩, HM.out, (Fr.refl (fun q => q = b) w).set_ (p := ⟨b, 1, none⟩) (.inl rfl) _⟩
   ·have h1' : (n : Int) <= y := by omega
    go_wp2_with fail
    go_ret
    refine ⟨false, rfl, ⟨(fun e => by cases e), fun e => by have := e.2; rw [HN.out] at this; omega⟩, HH.out, Fr.refl _ _⟩
theorem rnext_any {w : World} {b cap : Nat} {A : Option Addr} {l : List V3} {at_ : Int} (h : RCurS w b A cap l at_) (h0 : 0 <= at_) (h1 : at_ <= 1000000) :
  Calls Try.prog 33 #[.pointer (some ⟨b, 0, none⟩)] w (RSeekO w b A cap l at_ (at_ + 1)) := by
  have c1 := h.x.cell 1
  simp only [List.getElem?_toArray, List.getElem?_cons_zero, List.getElem?_cons_succ] at c1
  have HH := Lib.hid h
  have W1 : IntKind.i64.wrap (at_ + 1) = at_ + 1 := IntWalk.i64_in _ (by omega)
  clear h
  go_enter Try.func33, Try.ntmps33
  go_wp2_with fail
  refine (rseek_any (y := at_ + 1) HH.out).mono ?_
  intro e w1 hse
  unfold RSeekO at hse
  obtain ⟨r, rfl, hr, hc, hf⟩ := hse
  have HR := Lib.hid hr; have HC := Lib.hid hc; have HF := Lib.hid hf
  clear hr hc hf
  go_wp2_with fail
  go_ret
  exact ⟨r, rfl, HR.out, HC.out, HF.out⟩
theorem rprev_any {w : World} {b cap : Nat} {A : Option Addr} {l : List V3} {at_ : Int} (h : RCurS w b A cap l at_) (h0 : 0 <= at_) (h1 : at_ <= 1000000) :
  Calls Try.prog 34 #[.pointer (some ⟨b, 0, none⟩)] w (RSeekO w b A cap l at_ (at_ - 1)) := by
  have c1 := h.x.cell 1
  simp only [List.getElem?_toArray, List.getElem?_cons_zero, List.getElem?_cons_succ] at c1
  have HH := Lib.hid h
  have W1 : IntKind.i64.wrap (at_ - 1) = at_ - 1 := IntWalk.i64_in _ (by omega)
  clear h
  go_enter Try.func34, Try.ntmps34
  go_wp2_with fail
  refine (rseek_any (y := at_ - 1) HH.out).mono ?_
  intro e w1 hse
  unfold RSeekO at hse
  obtain ⟨r, rfl, hr, hc, hf⟩ := hse
  have HR := Lib.hid hr; have HC := Lib.hid hc; have HF := Lib.hid hf
  clear hr hc hf
  go_wp2_with fail
  go_ret
  exact ⟨r, rfl, HR.out, HC.out, HF.out⟩
def RNewF (w : World) (l : List V3) (e : Ending) (w' : World) : Prop := ∃ b A cap, e = .returned (.pointer (some ⟨b, 0, none⟩)) /\ RCurS w' b A cap l 0 /\ w.heap.size <= b /\ (∀ p, A = some p -> w.heap.size <= p.block) /\ Below w.heap.size w w'
def RNewO (w : World) (l : List V3) (e : Ending) (w' : World) : Prop := ∃ b A cap, e = .returned (.pointer (some ⟨b, 0, none⟩)) /\ RCurS w' b A cap l 0 /\ w.heap.size <= b /\ Below w.heap.size w w'
theorem rnew_fresh {w : World} {vc vl vbn vbo vfn vfe : Value} {t : Tab} (ht : TabR w vc vl vbn vbo vfn vfe t) (hT : RightT t) (s : ByteArray) (hs : s.size <= 4000) :
  Calls Try.prog 32 #[tabV vc vl vbn vbo vfn vfe, .string s] w (RNewF w (segT t s)) := by
  obtain ⟨A0, k0, e0, p0, q0, -⟩ := ht.c.form
  obtain ⟨A1, k1, e1, p1, q1, -⟩ := ht.l.form
  obtain ⟨n2, A2, k2, e2, p2, q2⟩ : ∃ n A k, vbn = .slice A n k /\ n <= k /\ k <= 9223372036854775807 := by obtain ⟨A, k, h⟩ := ht.bn.form; exact ⟨_, A, k, h⟩
  obtain ⟨n3, A3, k3, e3, p3, q3⟩ : ∃ n A k, vbo = .slice A n k /\ n <= k /\ k <= 9223372036854775807 := by obtain ⟨A, k, h1, h2, h3, -⟩ := ht.bo.form; exact ⟨_, A, k, h1, h2, h3⟩
  obtain ⟨n4, A4, k4, e4, p4, q4⟩ : ∃ n A k, vfn = .slice A n k /\ n <= k /\ k <= 9223372036854775807 := by obtain ⟨A, k, h⟩ := ht.fn.form; exact ⟨_, A, k, h⟩
  obtain ⟨n5, A5, k5, e5, p5, q5⟩ : ∃ n A k, vfe = .slice A n k /\ n <= k /\ k <= 9223372036854775807 := by obtain ⟨A, k, h⟩ := ht.fe.form; exact ⟨_, A, k, h⟩
  obtain ⟨n0, hn0⟩ : ∃ n, t.cuts.length = n := ⟨_, rfl⟩
  obtain ⟨n1, hn1⟩ : ∃ n, t.letters.length = n := ⟨_, rfl⟩
  rw [hn0] at e0; rw [hn1] at e1
  subst e0 e1 e2 e3 e4 e5
  obtain ⟨B, hB⟩ : ∃ B, w.heap.size = B := ⟨_, rfl⟩
  obtain ⟨W0, hW0⟩ : ∃ W, w.alloc (.cells #[.slice A0 n0 k0, .slice A1 n1 k1, .slice A2 n2 k2, .slice A3 n3 k3, .slice A4 n4 k4, .slice A5 n5 k5] 32) = W := ⟨_, rfl⟩
  have hx0 : Blk W0 B 32 #[.slice A0 n0 k0, .slice A1 n1 k1, .slice A2 n2 k2, .slice A3 n3 k3, .slice A4 n4 k4, .slice A5 n5 k5] := by rw [<- hW0]; exact sblk_new _ hB _ _
  have hb0 : Below w.heap.size w W0 := by rw [<- hW0]; exact (Below.refl _ _).alloc (Nat.le_refl _) _
  have hcall := rsegment_fresh (ht.below hb0) hT s hs
  obtain ⟨L, hL⟩ : ∃ r, segT t s = r := ⟨_, rfl⟩
  rw [hL] at hcall ⊢
  obtain ⟨n, hn⟩ : ∃ n, L.length = n := ⟨_, rfl⟩
  have hpos : 0 < n := by rw [<- hn, <- hL]; exact (segT_len t s).1
  have HPOS := Lib.hid hpos
  clear hpos
  unfold tabV at hcall
  have HW0 := Lib.hid hW0; have HX0 := Lib.hid hx0; have HB0 := Lib.hid hb0; have HB := Lib.hid hB; have HCALL := Lib.hid hcall; have HN := Lib.hid hn
  clear ht hW0 hx0 hb0 hB hcall hn0 hn1 hL hn hT
  go_enter Try.func32, Try.ntmps32
  unfold tabV
  go_wp2_with fail
  rw [HW0.out]
  simp only [HB.out]
  have c0 := HX0.out.cell 0; have c1 := HX0.out.cell 1; have c2 := HX0.out.cell 2; have c3 := HX0.out.cell 3; have c4 := HX0.out.cell 4; have c5 := HX0.out.cell 5
  simp only [List.getElem?_toArray, List.getElem?_cons_zero, List.getElem?_cons_succ] at c0 c1 c2 c3 c4 c5
  go_wp2_with fail
  refine HCALL.out.mono ?_
  rintro e w1 ⟨A, cap, rfl, hr, hfa, hb1⟩
  have hbw1 : Below w.heap.size w w1 := HB0.out.trans (hb1.mono HB0.out.size)
  have hf1 : ∀ p, A = some p -> n ≠ 0 -> p.block ≠ w1.heap.size := fun p hp h0 e => by
   obtain ⟨g, o, e2, -, hc⟩ := hr.at encV_len (by decide) 0 _ (sgetD_at (d := ((0, 0, 0) : Int × Int × Int)) (by rw [HN.out]; omega))
   have := World.block_lt_of_cell? w1 _ (hc 0 _ rfl)
   rw [e2] at hp
   cases hp
   dsimp only at this e
   omega
  have HR := Lib.hid hr; have HBW := Lib.hid hbw1; have HF := Lib.hid hf1; have HFA := Lib.hid (fun p (hp : A = some p) => Nat.le_trans HB0.out.size (hfa p hp))
  rw [HN.out]
  clear hr hb1 hbw1 hf1 hfa c0 c1 c2 c3 c4 c5
  go_wp2_with fail
  go_ret
  refine ⟨w1.heap.size, A, cap, rfl, ⟨?_, HR.out.alloc _, fun p hp => HF.out p hp (by have := HPOS.out; omega)⟩, HBW.out.size, HFA.out, HBW.out.alloc HBW.out.size _⟩
  rw [HN.out]
  exact Blk.new _ _ _
theorem rnew_any {w : World} {vc vl vbn vbo vfn vfe : Value} {t : Tab} (ht : TabR w vc vl vbn vbo vfn vfe t) (hT : RightT t) (s : ByteArray) (hs : s.size <= 4000) :
  Calls Try.prog 32 #[tabV vc vl vbn vbo vfn vfe, .string s] w (RNewO w (segT t s)) := by
  refine (rnew_fresh ht hT s hs).mono ?_
  rintro e w' ⟨b, A, cap, h1, h2, h3, -, h4⟩
  exact ⟨b, A, cap, h1, h2, h3, h4⟩
theorem rat_any {w : World} {b cap : Nat} {A : Option Addr} {l : List V3} {x : Nat} (h : RCurS w b A cap l (x : Int)) (hl : x < l.length) :
  Calls Try.prog 37 #[.pointer (some ⟨b, 0, none⟩)] w fun e w' => e = .returned (.tuple #[.int .i64 (x : Int), vcV (l.getD x (0, 0, 0))]) /\ Below w.heap.size w w' := by
  obtain ⟨b3, hbe⟩ : ∃ q, w.heap.size = q := ⟨_, rfl⟩
  obtain ⟨W0, hW0⟩ : ∃ W, w.alloc (.cells #[.int .i64 0, .int .i64 0, .int .i64 0] 51) = W := ⟨_, rfl⟩
  have hb0 : Below w.heap.size w W0 := by rw [<- hW0]; exact (Below.refl _ _).alloc (Nat.le_refl _) _
  have hx3 : Blk W0 b3 51 #[.int .i64 0, .int .i64 0, .int .i64 0] := by rw [<- hW0]; exact sblk_new _ hbe _ _
  obtain ⟨⟨p, q, s⟩, hu⟩ : ∃ u, l.getD x (0, 0, 0) = u := ⟨_, rfl⟩
  obtain ⟨n, hn⟩ : ∃ n, l.length = n := ⟨_, rfl⟩
  have hc := h.below hb0
  have hr := hc.r
  have hx := hc.x
  rw [hn] at hr hx hl
  have hs := sgetD_at (d := ((0, 0, 0) : Int × Int × Int)) (show x < l.length by rw [hn]; exact hl)
  rw [hu] at hs
  obtain ⟨g, o, e, -, hcc⟩ := hr.at encV_len (by decide) x _ hs
  subst e
  have d0 := hcc 0 (.int .i64 p) rfl; have d1 := hcc 1 (.int .i64 q) rfl; have d2 := hcc 2 (.int .i64 s) rfl
  rw [Nat.add_zero] at d0
  have x0 : (0 : Int) <= (x : Int) := Int.natCast_nonneg _
  have x1 : (x : Int) < (n : Int) := by omega
  have n0 : ¬ (n : Int) = 0 := by omega
  have n1 : ¬ n = 0 := by omega
  have c0 := hx.cell 0; have c1 := hx.cell 1
  simp only [List.getElem?_toArray, List.getElem?_cons_zero, List.getElem?_cons_succ] at c0 c1
  have y0 := hx3.cell 0; have y1 := hx3.cell 1; have y2 := hx3.cell 2; have f0 := hx3.frozen 0; have f1 := hx3.frozen 1; have f2 := hx3.frozen 2
  simp only [List.getElem?_toArray, List.getElem?_cons_zero, List.getElem?_cons_succ] at y0 y1 y2
  have hS : (fun W : World => (W.cell? ⟨b, 0, none⟩ = some (.slice (some ⟨g, o, none⟩) n cap) /\ W.cell? ⟨b, 1, none⟩ = some (.int .i64 (x : Int))) /\ W.cell? ⟨g, o + x * 3, none⟩ = some (.int .i64 p) /\ W.cell? ⟨g, o + x * 3 + 1, none⟩ = some (.int .i64 q) /\ W.cell? ⟨g, o + x * 3 + 2, none⟩ = some (.int .i64 s)) W0.drew := ⟨⟨c0, c1⟩, d0, d1, d2⟩
  have HU := Lib.hid hu; have HB := Lib.hid hb0; have HW0 := Lib.hid hW0; have HBE := Lib.hid hbe
  have a0 : (w.alloc (.cells #[.int .i64 0, .int .i64 0, .int .i64 0] 51)).cell? ⟨b, 0, none⟩ = some (.slice (some ⟨g, o, none⟩) n cap) := by rw [hW0]; exact c0
  clear h hb0 hx3 hu hn hc hr hx hs hcc d0 d1 d2 hW0 hbe
  go_enter Try.func37, Try.ntmps37
  go_wp2_with fail
  rw [HW0.out]
  try simp only [HBE.out]
  try go_wp2_with fail
  clear c0 c1 a0
  refine region_x 15 (fun W : World => (W.cell? ⟨b, 0, none⟩ = some (.slice (some ⟨g, o, none⟩) n cap) /\ W.cell? ⟨b, 1, none⟩ = some (.int .i64 (x : Int))) /\ W.cell? ⟨g, o + x * 3, none⟩ = some (.int .i64 p) /\ W.cell? ⟨g, o + x * 3 + 1, none⟩ = some (.int .i64 q) /\ W.cell? ⟨g, o + x * 3 + 2, none⟩ = some (.int .i64 s)) (by kernel_rfl) ?_
  have HB2 := Lib.hid HB.out.drew
  replace y0 : W0.drew.cell? ⟨b3, 0, none⟩ = _ := y0
  replace y1 : W0.drew.cell? ⟨b3, 1, none⟩ = _ := y1
  replace y2 : W0.drew.cell? ⟨b3, 2, none⟩ = _ := y2
  replace f0 : W0.drew.frozen? ⟨b3, 0, none⟩ = _ := f0
  replace f1 : W0.drew.frozen? ⟨b3, 1, none⟩ = _ := f1
  replace f2 : W0.drew.frozen? ⟨b3, 2, none⟩ = _ := f2
  generalize W0.drew = V0 at *
  refine tkx (i := 0) (v := ?_) hS ?_ ?_
  rotate_left
  ·rintro w' ⟨⟨s0', s1'⟩, s2', s3', s4'⟩
   go_simp
   try with_reducible rfl
  try simp only [Act.put, zq1, zq2, zq3, zq4, zq5, zq6]
  refine tkx (i := 1) (v := ?_) hS ?_ ?_
  rotate_left
  ·rintro w' ⟨⟨s0', s1'⟩, s2', s3', s4'⟩
   go_simp
   try with_reducible rfl
  try simp only [Act.put, zq1, zq2, zq3, zq4, zq5, zq6]
  refine tkx (i := 2) (v := ?_) hS ?_ ?_
  rotate_left
  ·rintro w' ⟨⟨s0', s1'⟩, s2', s3', s4'⟩
   go_simp
   try with_reducible rfl
  try simp only [Act.put, zq1, zq2, zq3, zq4, zq5, zq6]
  refine tkx (i := 3) (v := ?_) hS ?_ ?_
  rotate_left
  ·rintro w' ⟨⟨s0', s1'⟩, s2', s3', s4'⟩
   go_simp
   try with_reducible rfl
  try simp only [Act.put, zq1, zq2, zq3, zq4, zq5, zq6]
  refine tkx (i := 4) (v := ?_) hS ?_ ?_
  rotate_left
  ·rintro w' ⟨⟨s0', s1'⟩, s2', s3', s4'⟩
   go_simp
   try with_reducible rfl
  try simp only [Act.put, zq1, zq2, zq3, zq4, zq5, zq6]
  refine tkx (i := 5) (v := ?_) hS ?_ ?_
  rotate_left
  ·rintro w' ⟨⟨s0', s1'⟩, s2', s3', s4'⟩
   go_simp
   try with_reducible rfl
  try simp only [Act.put, zq1, zq2, zq3, zq4, zq5, zq6]
  refine tkx (i := 6) (v := ?_) hS ?_ ?_
  rotate_left
  ·rintro w' ⟨⟨s0', s1'⟩, s2', s3', s4'⟩
   go_simp
   try with_reducible rfl
  try simp only [Act.put, zq1, zq2, zq3, zq4, zq5, zq6]
  refine tkx (i := 7) (v := ?_) hS ?_ ?_
  rotate_left
  ·rintro w' ⟨⟨s0', s1'⟩, s2', s3', s4'⟩
   go_simp
   try with_reducible rfl
  try simp only [Act.put, zq1, zq2, zq3, zq4, zq5, zq6]
  refine tkx (i := 8) (v := ?_) hS ?_ ?_
  rotate_left
  ·rintro w' ⟨⟨s0', s1'⟩, s2', s3', s4'⟩
   go_simp
   try with_reducible rfl
  try simp only [Act.put, zq1, zq2, zq3, zq4, zq5, zq6]
  refine tkx (i := 9) (v := ?_) hS ?_ ?_
  rotate_left
  ·rintro w' ⟨⟨s0', s1'⟩, s2', s3', s4'⟩
   go_simp
   try with_reducible rfl
  try simp only [Act.put, zq1, zq2, zq3, zq4, zq5, zq6]
  refine tkx (i := 10) (v := ?_) hS ?_ ?_
  rotate_left
  ·rintro w' ⟨⟨s0', s1'⟩, s2', s3', s4'⟩
   go_simp
   try with_reducible rfl
  try simp only [Act.put, zq1, zq2, zq3, zq4, zq5, zq6]
  refine tkx (i := 11) (v := ?_) hS ?_ ?_
  rotate_left
  ·rintro w' ⟨⟨s0', s1'⟩, s2', s3', s4'⟩
   go_simp
   try with_reducible rfl
  try simp only [Act.put, zq1, zq2, zq3, zq4, zq5, zq6]
  refine tkx (i := 12) (v := ?_) hS ?_ ?_
  rotate_left
  ·rintro w' ⟨⟨s0', s1'⟩, s2', s3', s4'⟩
   go_simp
   try with_reducible rfl
  try simp only [Act.put, zq1, zq2, zq3, zq4, zq5, zq6]
  refine tkx (i := 13) (v := ?_) hS ?_ ?_
  rotate_left
  ·rintro w' ⟨⟨s0', s1'⟩, s2', s3', s4'⟩
   go_simp
   try with_reducible rfl
  try simp only [Act.put, zq1, zq2, zq3, zq4, zq5, zq6]
  refine tkx (i := 14) (v := ?_) hS ?_ ?_
  rotate_left
  ·rintro w' ⟨⟨s0', s1'⟩, s2', s3', s4'⟩
   go_simp
   try with_reducible rfl
  try simp only [Act.put, zq1, zq2, zq3, zq4, zq5, zq6]
  refine anyX_last (by kernel_rfl) (by kernel_rfl) rfl rfl ?_
  try simp only [zq1, zq2, zq3]
  go_simp
  try apply_assumption
  go_wp2_with fail
  refine bodyPost_ret (v := .tuple #[.int .i64 (x : Int), vcV (p, q, s)]) (by simp [results, Try.results37, go_sem, vcV, y0, y1, y2]) rfl ?_
  rw [HU.out]
  exact ⟨rfl, ((HB2.out.setCell (p := ⟨b3, 0, none⟩) (by rw [HBE.out]; exact Nat.le_refl _) _).setCell (p := ⟨b3, 1, none⟩) (by rw [HBE.out]; exact Nat.le_refl _) _).setCell (p := ⟨b3, 2, none⟩) (by rw [HBE.out]; exact Nat.le_refl _) _⟩
def LastI (f : Nat -> Int) (inf : Int) (lo n bst : Nat) : Prop := ((cheapI f inf lo n).2 < inf /\ (cheapI f inf lo n).1 = bst /\ f bst = (cheapI f inf lo n).2) \/ ((cheapI f inf lo n).2 = inf /\ inf <= f bst) \/ (n = 0 /\ bst = lo)
theorem lastI_step (f : Nat -> Int) (inf : Int) {lo n x bst : Nat} (hx : lo + n = x) (h : LastI f inf lo n bst) : LastI f inf lo (n + 1) (if f x <= f bst then x else bst) := by
 have hle := cheapI_le f inf lo n
 unfold LastI at h ⊢
 simp only [cheapI, hx]
 rcases h with ⟨h1, h2, h3⟩ | ⟨h1, h2⟩ | ⟨rfl, rfl⟩
 ·rw [h3]
  by_cases hv : f x <= (cheapI f inf lo n).2
  ·rw [if_pos hv, if_pos ⟨by omega, hv⟩]
   exact .inl ⟨by dsimp only; omega, rfl, rfl⟩
  ·rw [if_neg hv, if_neg (fun q => hv q.2)]
   exact .inl ⟨h1, h2, h3⟩
 ·by_cases hv : f x < inf
  ·have e1 : f x <= f bst := by omega
   rw [if_pos e1, if_pos ⟨hv, by omega⟩]
   exact .inl ⟨hv, rfl, rfl⟩
  ·rw [if_neg (fun q => hv q.1)]
   refine .inr (.inl ⟨h1, ?_⟩)
   split <;> omega
 ·have hx' : bst = x := by omega
  subst hx'
  rw [if_pos (Int.le_refl _)]
  by_cases hv : f bst < inf
  ·rw [if_pos ⟨hv, by simp [cheapI]; omega⟩]
   exact .inl ⟨hv, rfl, rfl⟩
  ·rw [if_neg (fun q => hv q.1)]
   exact .inr (.inl ⟨rfl, by omega⟩)
theorem bestI_in {l : List V3} {i j c : Nat} (hj : j < l.length) (hij : i <= j) (hc : c < 3) : bestI l (i : Int) (j : Int) (c : Int) = ((cheapI (costAt l c) 1152921504606846976 i (j + 1 - i)).1, decide ((cheapI (costAt l c) 1152921504606846976 i (j + 1 - i)).2 < 1152921504606846976)) := by
 unfold bestI
 rw [if_pos ⟨by omega, ⟨by omega, by omega⟩, ⟨by omega, by omega⟩, by omega, by omega⟩]
 simp only [Int.toNat_natCast]
theorem rcost_cells {w : World} {A : Option Addr} {n cap c : Nat} {l : List V3} (h : ReadsE encV 3 w (.slice A n cap) n l) (hl : l.length = n) (hn : 1 <= n) (hc : c < 3) : ∃ g o, A = some ⟨g, o, none⟩ /\ ∀ x, x < n -> w.cell? ⟨g, o + x * 3 + c, none⟩ = some (.int .i64 (costAt l c x)) := by
 obtain ⟨g, o, e, -, -⟩ := h.at encV_len (by decide) 0 _ (sgetD_at (d := ((0, 0, 0) : V3)) (by omega))
 refine ⟨g, o, e, fun x hx => ?_⟩
 obtain ⟨g', o', e', -, hcc⟩ := h.at encV_len (by decide) x _ (sgetD_at (d := ((0, 0, 0) : V3)) (by omega))
 rw [e] at e'
 cases e'
 refine hcc c _ ?_
 unfold costAt
 rcases (show c = 0 \/ c = 1 \/ c = 2 by omega) with rfl | rfl | rfl <;> rfl
theorem rbest_any {w : World} {b cap : Nat} {A : Option Addr} {l : List V3} {at_ lo hi cat : Int} (h : RCurS w b A cap l at_) (hl : l.length <= 1000000) :
  Calls Try.prog 36 #[.pointer (some ⟨b, 0, none⟩), .int .i64 lo, .int .i64 hi, .int .i64 cat] w (BestO l lo hi cat w) := by
  have c0 := h.x.cell 0
  simp only [List.getElem?_toArray, List.getElem?_cons_zero, List.getElem?_cons_succ] at c0
  obtain ⟨n, hn⟩ : ∃ n, l.length = n := ⟨_, rfl⟩
  rw [hn] at c0 hl
  have hr := h.r
  rw [hn] at hr
  have hout : (lo < 0 \/ (n : Int) <= hi \/ hi < lo \/ cat < 0 \/ 2 < cat) -> bestI l lo hi cat = (0, false) := fun q => by
   unfold bestI
   rw [if_neg (by rw [hn]; omega)]
  have HO := Lib.hid hout; have HN := Lib.hid hn; have HR := Lib.hid hr
  clear h hn hr hout
  go_enter Try.func36, Try.ntmps36
  by_cases g1 : lo < 0
  ·go_wp2_with fail
   refine bodyPost_ret (v := .tuple #[.int .i64 0, .bool false]) (by simp [results, Try.results36, go_sem]) rfl ?_
   unfold BestO
   rw [HO.out (by omega)]
   exact ⟨rfl, Below.refl _ _⟩
  have g1' : 0 <= lo := by omega
  by_cases g2 : (n : Int) <= hi
  ·go_wp2_with fail
   refine bodyPost_ret (v := .tuple #[.int .i64 0, .bool false]) (by simp [results, Try.results36, go_sem]) rfl ?_
   unfold BestO
   rw [HO.out (by omega)]
   exact ⟨rfl, Below.refl _ _⟩
  have g2' : hi < (n : Int) := by omega
  by_cases g3 : hi < lo
  ·go_wp2_with fail
   refine bodyPost_ret (v := .tuple #[.int .i64 0, .bool false]) (by simp [results, Try.results36, go_sem]) rfl ?_
   unfold BestO
   rw [HO.out (by omega)]
   exact ⟨rfl, Below.refl _ _⟩
  have g3' : lo <= hi := by omega
  by_cases g4 : cat < 0
  ·go_wp2_with fail
   refine bodyPost_ret (v := .tuple #[.int .i64 0, .bool false]) (by simp [results, Try.results36, go_sem]) rfl ?_
   unfold BestO
   rw [HO.out (by omega)]
   exact ⟨rfl, Below.refl _ _⟩
  have g4' : 0 <= cat := by omega
  by_cases g5 : 2 < cat
  ·go_wp2_with fail
   refine bodyPost_ret (v := .tuple #[.int .i64 0, .bool false]) (by simp [results, Try.results36, go_sem]) rfl ?_
   unfold BestO
   rw [HO.out (by omega)]
   exact ⟨rfl, Below.refl _ _⟩
  have g5' : cat <= 2 := by omega
  obtain ⟨i, hi1⟩ : ∃ i : Nat, lo = (i : Int) := ⟨lo.toNat, by omega⟩
  obtain ⟨j, hj1⟩ : ∃ j : Nat, hi = (j : Int) := ⟨hi.toNat, by omega⟩
  obtain ⟨c, hc1⟩ : ∃ c : Nat, cat = (c : Int) := ⟨cat.toNat, by omega⟩
  subst hi1 hj1 hc1
  have hij : i <= j := by omega
  have hjn : j < n := by omega
  have hc3 : c < 3 := by omega
  have hbi := bestI_in (l := l) (i := i) (j := j) (c := c) (by rw [HN.out]; exact hjn) hij hc3
  have HBI := Lib.hid hbi
  clear hbi HO
  obtain ⟨g, o, eA, hcl⟩ : ∃ g o, A = some ⟨g, o, none⟩ /\ ∀ x, x < n -> w.cell? ⟨g, o + x * 3 + c, none⟩ = some (.int .i64 (costAt l c x)) := rcost_cells HR.out HN.out (by omega) hc3
  subst eA
  have HCL := Lib.hid hcl
  clear hcl
  have k0 : (0 : Int) <= (c : Int) := Int.natCast_nonneg _
  have k3 : (c : Int) < 3 := by omega
  have k4 : ¬ (c : Int) < 0 := by omega
  have k5 : ¬ 3 <= (c : Int) := by omega
  have k6 : decide (3 <= c) = false := by simp; omega
  go_wp2_with fail
  go_loopw [10, 11] (fun vb vi wr => ∃ (x bst : Nat), vi = .int .i64 (x : Int) /\ vb = .int .i64 (bst : Int) /\ i <= x /\ x <= j + 1 /\ bst <= j /\ Hid (LastI (costAt l c) 1152921504606846976 i (x - i) bst) /\ Hid (∃ d, wr = w.drewN d)) (fun _ vi _ => j + 1 - (intOf vi).toNat)
  case atStart => exact ⟨i, i, rfl, rfl, Nat.le_refl _, by omega, hij, Lib.hid (.inr (.inr ⟨Nat.sub_self _, rfl⟩)), Lib.hid ⟨0, rfl⟩⟩
  case round =>
   obtain ⟨x, bst, rfl, rfl, hx1, hx2, hbj, HL, HD⟩ := hrel
   have c9 : wr.cell? ⟨b, 0, none⟩ = some (.slice (some ⟨g, o, none⟩) n cap) := by obtain ⟨dn, hw⟩ := HD.out; rw [hw]; exact c0
   clear c0
   have hwc : ∀ p : Addr, wr.cell? p = w.cell? p := fun p => by obtain ⟨dn, hw⟩ := HD.out; rw [hw]; rfl
   have HWC := Lib.hid hwc
   clear hwc
   have x0 : (0 : Int) <= (x : Int) := Int.natCast_nonneg _
   have b0 : (0 : Int) <= (bst : Int) := Int.natCast_nonneg _
   have b1 : (bst : Int) < (n : Int) := by omega
   have b2 : ¬ (n : Int) <= (bst : Int) := by omega
   have b3 : decide (n <= bst) = false := by simp; omega
   have q1 := HCL.out bst (by omega)
   obtain ⟨y, hy⟩ : ∃ y, costAt l c bst = y := ⟨_, rfl⟩
   rw [hy] at q1
   rw [<- HWC.out] at q1
   by_cases hlt : x <= j
   ·have x1 : (x : Int) <= (j : Int) := by omega
    have x2 : (x : Int) < (n : Int) := by omega
    have x3 : ¬ (n : Int) <= (x : Int) := by omega
    have x4 : decide (n <= x) = false := by simp; omega
    have q2 := HCL.out x (by omega)
    have hst := lastI_step (costAt l c) 1152921504606846976 (lo := i) (n := x - i) (x := x) (bst := bst) (by omega) HL.out
    rw [show x - i + 1 = x + 1 - i by omega] at hst
    obtain ⟨z, hz⟩ : ∃ z, costAt l c x = z := ⟨_, rfl⟩
    rw [hz, hy] at hst
    rw [hz] at q2
    rw [<- HWC.out] at q2
    by_cases hzy : z <= y
    ·have HS2 : Hid (LastI (costAt l c) 1152921504606846976 i (x + 1 - i) x) := Lib.hid (by rw [if_pos hzy] at hst; exact hst)
     clear hst hy hz HL
     go_wp2_with fail
     go_big_quiet (fail)
     go_wp2_with fail
     have HD2 : Hid (∃ d, wr.drewN nq = w.drewN d) := Lib.hid (by obtain ⟨dn, hw⟩ := HD.out; rw [hw]; exact ⟨_, World.drewN_drewN _ _ _⟩)
     first | exact ⟨⟨x + 1, x, by go_num, rfl, by omega, by omega, by omega, HS2, HD2⟩, by simp [intOf]; omega⟩ | exact ⟨⟨x + 1, by go_num, by omega, by omega, by omega, HS2⟩, by simp [intOf]; omega⟩ | exact ⟨⟨x + 1, by go_num, x, rfl, by omega, by omega, by omega, HS2, HD2⟩, by simp [intOf]; omega⟩ | exact ⟨⟨x + 1, by go_num, by omega, by omega, by omega, HS2, HD2⟩, by simp [intOf]; omega⟩ | exact ⟨⟨⟨x + 1, by go_num, by omega, by omega, by omega, HS2⟩, HD2⟩, by simp [intOf]; omega⟩
    ·have HS2 : Hid (LastI (costAt l c) 1152921504606846976 i (x + 1 - i) bst) := Lib.hid (by rw [if_neg hzy] at hst; exact hst)
     clear hst hy hz HL
     go_wp2_with fail
     go_big_quiet (fail)
     go_wp2_with fail
     have HD2 : Hid (∃ d, wr.drewN nq = w.drewN d) := Lib.hid (by obtain ⟨dn, hw⟩ := HD.out; rw [hw]; exact ⟨_, World.drewN_drewN _ _ _⟩)
     first | exact ⟨⟨x + 1, bst, by go_num, rfl, by omega, by omega, by omega, HS2, HD2⟩, by simp [intOf]; omega⟩ | exact ⟨⟨x + 1, by go_num, by omega, by omega, by omega, HS2⟩, by simp [intOf]; omega⟩ | exact ⟨⟨x + 1, by go_num, bst, rfl, by omega, by omega, by omega, HS2, HD2⟩, by simp [intOf]; omega⟩ | exact ⟨⟨x + 1, by go_num, by omega, by omega, by omega, HS2, HD2⟩, by simp [intOf]; omega⟩ | exact ⟨⟨⟨x + 1, by go_num, by omega, by omega, by omega, HS2⟩, HD2⟩, by simp [intOf]; omega⟩
   ·have x1 : ¬ (x : Int) <= (j : Int) := by omega
    have hx9 : x - i = j + 1 - i := by omega
    have hL := HL.out
    unfold LastI at hL
    rw [hx9, hy] at hL
    obtain ⟨⟨p, z⟩, hp⟩ : ∃ q, cheapI (costAt l c) 1152921504606846976 i (j + 1 - i) = q := ⟨_, rfl⟩
    rw [hp] at hL
    have hbi := HBI.out
    rw [hp] at hbi
    dsimp only at hL hbi
    have HZ0 : Hid (¬ z < 1152921504606846976 -> p = 0) := Lib.hid (fun h => by
     have h2 := cheapI_at (costAt l c) 1152921504606846976 i (j + 1 - i)
     rw [hp] at h2
     rcases h2 with ⟨h3, -⟩ | ⟨h3, -⟩
     ·exact absurd h3 h
     ·exact (Prod.mk.inj h3).1)
    have HBI2 := Lib.hid hbi
    have HBW : Hid (Below w.heap.size w wr) := Lib.hid (by obtain ⟨dn, hw⟩ := HD.out; rw [hw]; exact sbel_drewN (Below.refl _ _) _)
    clear hp hbi HBI HL hx1 hx2 hx9 hlt hy
    by_cases hy9 : y < 1152921504606846976
    ·have hy8 : ¬ 1152921504606846976 <= y := by omega
     have hpz : p = bst /\ z < 1152921504606846976 := by
      rcases hL with ⟨q1, q2, q3⟩ | ⟨q1, q2⟩ | ⟨q1, q2⟩
      ·exact ⟨q2, q1⟩
      ·omega
      ·omega
     clear hL
     go_wp2_with fail
     refine bodyPost_ret (v := .tuple #[.int .i64 (bst : Int), .bool true]) (by simp [results, Try.results36, go_sem]) rfl ?_
     unfold BestO
     rw [HBI2.out, hpz.1]
     exact ⟨by simp [hpz.2], HBW.out⟩
    ·have hy8 : 1152921504606846976 <= y := by omega
     have hpz : ¬ z < 1152921504606846976 := by
      rcases hL with ⟨q1, q2, q3⟩ | ⟨q1, q2⟩ | ⟨q1, q2⟩
      ·omega
      ·omega
      ·omega
     clear hL
     go_wp2_with fail
     refine bodyPost_ret (v := .tuple #[.int .i64 0, .bool false]) (by simp [results, Try.results36, go_sem]) rfl ?_
     unfold BestO
     have hb0 : bestI l (i : Int) (j : Int) (c : Int) = (0, false) := by rw [HBI2.out]; simp [hpz]; exact HZ0.out hpz
     rw [hb0]
     exact ⟨rfl, HBW.out⟩
end Go.Proofs.Ytacgakkcpmhgmaa
namespace Go.Proofs.Ytacgakkcpmhgmaa
open Go Go.RowKit Go.Proofs
theorem vrow_far {w : World} {A : Option Addr} {n cap b : Nat} {l : List V3} {t : TypeId} {cs : Array Value} (h : ReadsE encV 3 w (.slice A n cap) n l) (hn : 1 <= n) (hx : Blk w b t cs) (hc : cs.size = 2) : ∀ p, A = some p -> p.block ≠ b := fun p hp e => by
 have hl : l.length = n := h.1
 obtain ⟨g, o, e2, -, hcc⟩ := h.at encV_len (by decide) 0 _ (sgetD_at (d := ((0, 0, 0) : Int × Int × Int)) (by omega))
 rw [e2] at hp
 cases hp
 dsimp only at e
 subst e
 have h2 := hcc 2 _ rfl
 have h3 := hx.cell (o + 0 * 3 + 2)
 rw [h2] at h3
 have h4 := (Array.getElem?_eq_some_iff.1 h3.symm).1
 omega
theorem ReadsE.frV {w w' : World} {A : Option Addr} {n cap b : Nat} {l : List V3} (h : ReadsE encV 3 w (.slice A n cap) n l) (hf : Fr (fun q => q = b) w w') (hA : ∀ p, A = some p -> p.block ≠ b) : ReadsE encV 3 w' (.slice A n cap) n l := by
 obtain ⟨h1, a, c, h2, h5, h6, h3, h4⟩ := h
 simp only [Value.slice.injEq, true_and] at h2
 obtain ⟨rfl, rfl⟩ := h2
 refine ⟨h1, A, cap, rfl, h5, h6, h3, fun i x hi => ?_⟩
 obtain ⟨g, off, e, hc⟩ := h4 i x hi
 exact ⟨g, off, e, fun j u hj => hf.cell (hc j u hj) (hA _ e)⟩
theorem RCurS.other {w w' : World} {b b' cap : Nat} {A : Option Addr} {l : List V3} {at_ : Int} (h : RCurS w b A cap l at_) (hf : Fr (fun q => q = b') w w') (hne : ¬ b = b') (hA : ∀ p, A = some p -> p.block ≠ b') : RCurS w' b A cap l at_ := ⟨hf.blk h.x hne, h.r.frV hf hA, h.far⟩
theorem CurS.other {w w' : World} {b b' cap : Nat} {A : Option Addr} {l : List V3} {at_ : Int} (h : CurS w b A cap l at_) (hf : Fr (fun q => q = b') w w') (hne : ¬ b = b') (hA : ∀ p, A = some p -> p.block ≠ b') : CurS w' b A cap l at_ := ⟨hf.blk h.x hne, h.r.frV hf hA, h.far⟩
theorem bool_same {r s : Bool} {P : Prop} (h1 : r = true ↔ P) (h2 : s = true ↔ P) : r = s := by
 cases r <;> cases s <;> simp_all
theorem place_in {N : Nat} {r : Bool} {y : Int} {k : Nat} (hr : r = true ↔ InRow N y) (hk : k < N) : ∃ k' : Nat, (if r then y else (k : Int)) = (k' : Int) /\ k' < N := by
 cases r with
 | true =>
   obtain ⟨h1, h2⟩ := hr.1 rfl
   exact ⟨y.toNat, by simp; omega, by omega⟩
 | false => exact ⟨k, rfl, hk⟩
end Go.Proofs.Ytacgakkcpmhgmaa
