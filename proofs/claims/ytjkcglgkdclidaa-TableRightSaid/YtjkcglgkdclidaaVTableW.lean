/- The reader by what is left: vecs. The reader by what is left: emits. -/
import Derived.Test.YtjkcglgkdclidaaVTableO
import Derived.Test.YtjkcglgkdclidaaVTk
set_option linter.unusedVariables false
set_option linter.unusedSimpArgs false
set_option maxRecDepth 100000
set_option maxHeartbeats 4000000
namespace Go.Proofs.Ytjkcglgkdclidaa
open Go Go.RowKit Go.Proofs
def itV (rest : Option (List Int)) : Nat -> Option (List Int)
 | 0 => (manyN rest).2
 | i + 1 => (takeN (takeN (takeN (itV rest i)).2).2).2
def vecV (rest : Option (List Int)) (i : Nat) : V3 := ((takeN (itV rest i)).1, (takeN (takeN (itV rest i)).2).1, (takeN (takeN (takeN (itV rest i)).2).2).1)
def vecsN (rest : Option (List Int)) : List V3 × Option (List Int) := ((List.range (manyN rest).1.toNat).map (vecV rest), itV rest (manyN rest).1.toNat)
def vcells (N : Nat) (f : Nat -> V3) : Array Value := (((List.range N).map f).flatMap encV).toArray
theorem vcells_size (N : Nat) (f : Nat -> V3) : (vcells N f).size = N * 3 := by unfold vcells; rw [List.size_toArray, flatE_len encV 3 encV_len]; simp
theorem vcells_at {N : Nat} (f : Nat -> V3) {i c : Nat} (hi : i < N) (hc : c < 3) : (vcells N f)[i * 3 + c]? = (encV (f i))[c]? := by
 unfold vcells
 rw [List.getElem?_toArray, flatE_at encV 3 encV_len _ i c (by simpa using hi) hc]
 simp
theorem vcell_some {N : Nat} (f : Nat -> V3) {i : Nat} (hi : i < N) {c : Nat} (hc : c < 3) : ∃ y, (vcells N f)[i * 3 + c]? = some (.int .i64 y) := by
 rw [vcells_at f hi hc]
 rcases (show c = 0 \/ c = 1 \/ c = 2 by omega) with rfl | rfl | rfl <;> exact ⟨_, rfl⟩
theorem vcells_set {N : Nat} (f : Nat -> V3) {i : Nat} (hi : i < N) (x y z : Int) :
  (((vcells N f).setIfInBounds (i * 3) (.int .i64 x)).setIfInBounds (i * 3 + 1) (.int .i64 y)).setIfInBounds (i * 3 + 2) (.int .i64 z) = vcells N (fun j => if j = i then (x, y, z) else f j) := by
  apply Array.ext
  ·simp [vcells_size]
  ·intro k h1 h2
   rw [vcells_size] at h2
   have hq : k = k / 3 * 3 + k % 3 := by omega
   have hqN : k / 3 < N := by omega
   have e1 := vcells_at f hqN (c := k % 3) (by omega)
   have e2 := vcells_at (fun j => if j = i then (x, y, z) else f j) hqN (c := k % 3) (by omega)
   rw [<- hq] at e1 e2
   have hk1 : k < (vcells N f).size := by rw [vcells_size]; exact h2
   have hk2 : k < (vcells N (fun j => if j = i then (x, y, z) else f j)).size := by rw [vcells_size]; exact h2
   rw [Array.getElem?_eq_getElem hk1] at e1
   rw [Array.getElem?_eq_getElem hk2] at e2
   apply Option.some.inj
   rw [e2]
   rw [Array.getElem_setIfInBounds, Array.getElem_setIfInBounds, Array.getElem_setIfInBounds]
   by_cases e : k / 3 = i
   ·subst e
    simp only [if_pos]
    rcases (show k % 3 = 0 \/ k % 3 = 1 \/ k % 3 = 2 by omega) with h | h | h
    ·rw [if_neg (by omega), if_neg (by omega), if_pos (by omega), h]; rfl
    ·rw [if_neg (by omega), if_pos (by omega), h]; rfl
    ·rw [if_pos (by omega), h]; rfl
   ·rw [if_neg e, if_neg (by omega), if_neg (by omega), if_neg (by omega)]
    exact e1
   all_goals
    simp only [Array.size_setIfInBounds]
    exact hk1
section
variable {w : World} {b g N n cap i : Nat} {A : Option Addr} {bs : List Int} {rest : Option (List Int)} {f : Nat -> V3}
theorem vset (h : Blk w g 45 (vcells N f)) (hi : i < N) (x y z : Int) : Blk (((w.setCell ⟨g, i * 3, none⟩ (.int .i64 x)).setCell ⟨g, i * 3 + 1, none⟩ (.int .i64 y)).setCell ⟨g, i * 3 + 2, none⟩ (.int .i64 z)) g 45 (vcells N (fun j => if j = i then (x, y, z) else f j)) := by
 rw [<- vcells_set f hi x y z]
 exact ((h.set_ _ _).set_ _ _).set_ _ _
theorem RdSt.ints {t : TypeId} {cs : Array Value} {k : Nat} {u : Value} (h : RdSt w b A n cap bs rest) (hg : Blk w g t cs) (ht : t ≠ 77) (hf : ∀ (q : Nat) (u : Value), cs[q]? = some u -> ∃ y, u = Value.int .i64 y) : RdSt (w.setCell ⟨g, k, none⟩ u) b A n cap bs rest := by
 obtain ⟨a, br, hc, h2⟩ := h
 refine ⟨a, br, ⟨blkSet hc.x hg ht, ⟨hc.r.1.far ((Fr.refl (fun q => q = g) w).set_ (p := ⟨g, k, none⟩) (.inl rfl) _) hg (fun z _ j u hj q hq => ?_), hc.r.2⟩, hc.le⟩, h2⟩
 have hu : u = .int .u8 z := by
  match j, hj with
  | 0, hj => simpa [encB] using hj.symm
  | j + 1, hj => simp [encB] at hj
 subst hu
 obtain ⟨y, e⟩ := hf q _ hq
 cases e
theorem vcells_int (q : Nat) (u : Value) (h : (vcells N f)[q]? = some u) : ∃ y, u = Value.int .i64 y := by
 have hq : q < N * 3 := by
  rcases Nat.lt_or_ge q (N * 3) with r | r
  ·exact r
  ·rw [Array.getElem?_eq_none (by rw [vcells_size]; exact r)] at h; cases h
 obtain ⟨y, e⟩ := vcell_some (N := N) f (i := q / 3) (by omega) (c := q % 3) (by omega)
 rw [show q / 3 * 3 + q % 3 = q by omega, h] at e
 injection e with e
 exact ⟨y, e⟩
theorem set_int {cs : Array Value} (h : ∀ (q : Nat) (u : Value), cs[q]? = some u -> ∃ y, u = Value.int .i64 y) (k : Nat) (x : Int) : ∀ (q : Nat) (u : Value), (cs.setIfInBounds k (.int .i64 x))[q]? = some u -> ∃ y, u = Value.int .i64 y := by
 intro q u hq
 rw [Array.getElem?_setIfInBounds] at hq
 split at hq
 ·split at hq
  ·injection hq with hq; exact ⟨x, hq.symm⟩
  ·cases hq
 ·exact h q u hq
theorem vrd (h : RdSt w b A n cap bs rest) (hg : Blk w g 45 (vcells N f)) (hi : i < N) (x y z : Int) : RdSt (((w.setCell ⟨g, i * 3, none⟩ (.int .i64 x)).setCell ⟨g, i * 3 + 1, none⟩ (.int .i64 y)).setCell ⟨g, i * 3 + 2, none⟩ (.int .i64 z)) b A n cap bs rest :=
 ((h.ints hg (by decide) (fun q u => vcells_int q u)).ints (hg.set_ _ _) (by decide) (set_int (fun q u => vcells_int q u) _ _)).ints ((hg.set_ _ _).set_ _ _) (by decide) (set_int (set_int (fun q u => vcells_int q u) _ _) _ _)
end
theorem info_vecT : (Try.prog.info? 45).map (fun i => (i.zero, i.size, i.bytes)) = some (some (.agg #[.int .i64 0, .int .i64 0, .int .i64 0]), 3, 24) := by kernel_rfl
theorem made_vcells (N : Nat) : madeCells #[.int .i64 0, .int .i64 0, .int .i64 0] (N * 3) = vcells N (fun _ => (0, 0, 0)) := by
 apply Array.ext
 ·rw [size_madeCells, vcells_size]
 ·intro k h1 h2
  rw [vcells_size] at h2
  obtain ⟨y, e⟩ := vcell_some (N := N) (fun _ => ((0 : Int), (0 : Int), (0 : Int))) (i := k / 3) (by omega) (c := k % 3) (by omega)
  have e2 := vcells_at (N := N) (fun _ => ((0 : Int), (0 : Int), (0 : Int))) (i := k / 3) (by omega) (c := k % 3) (by omega)
  rw [show k / 3 * 3 + k % 3 = k by omega] at e2
  have hk2 : k < (vcells N (fun _ => ((0 : Int), (0 : Int), (0 : Int)))).size := by rw [vcells_size]; exact h2
  rw [Array.getElem?_eq_getElem hk2] at e2
  apply Option.some.inj
  rw [e2]
  rcases (show k % 3 = 0 \/ k % 3 = 1 \/ k % 3 = 2 by omega) with h | h | h <;> simp [madeCells, h, encV]
theorem mkV_big (N : Nat) (hN : N <= 1000000) (W : World) : (Instr.makeSlice 46 (.int .i64 (N : Int)) (.int .i64 (N : Int))).run Try.prog W = .ok (.slice (some ⟨W.heap.size, 0, none⟩) N N) (W.alloc (.cells (vcells N (fun _ => (0, 0, 0))) 45)) := by
 obtain ⟨i0, hi, hz0, hz1, hz2⟩ := info_parts info_vecT
 have h := run_make (P := Try.prog) W 46 45 i0 _ Try.underlying46 hi hz0 .i64 .i64 N N (by omega) (Int.le_refl _) (by rw [hz2]; omega) (by omega)
 rw [h, hz1]
 simp only [Int.toNat_natCast]
 rw [show madeCells (Value.cells (.agg #[.int .i64 0, .int .i64 0, .int .i64 0])) (N * 3) = vcells N (fun _ => (0, 0, 0)) from made_vcells N]
theorem rvecs_any {w : World} {b : Nat} {A : Option Addr} {n cap : Nat} {bs : List Int} {rest : Option (List Int)} (h : RdSt w b A n cap bs rest) (hn : n <= 8000000) :
  Calls Try.prog 67 #[.pointer (some ⟨b, 0, none⟩)] w fun e w' => ∃ g f, e = .returned (sl g (vecsN rest).1.length (vecsN rest).1.length) /\ w.heap.size <= g /\ Blk w' g 45 (vcells (vecsN rest).1.length f) /\ (∀ i, i < (vecsN rest).1.length -> f i = vecV rest i) /\ RdSt w' b A n cap bs (vecsN rest).2 /\ Fr (fun q => q = b) w w' := by
  have hbw : b < w.heap.size := by obtain ⟨a, br, hc, -⟩ := h; exact hc.x.lt
  have HR := Lib.hid h
  clear h
  go_enter Try.func67, Try.ntmps67
  go_wp2_with fail
  refine (many_any HR.out).mono ?_
  rintro e w1 ⟨rfl, hr, hf⟩
  obtain ⟨N, hN⟩ := manyN_nat rest
  have hN9 : N <= 1000000 := by have := manyN_le hr hN; omega
  have hlist : vecsN rest = ((List.range N).map (vecV rest), itV rest N) := by unfold vecsN; rw [hN]; rfl
  have hsz := hf.size
  have HLST := Lib.hid hlist
  rw [hN]
  obtain ⟨W2, hW2⟩ : ∃ W, w1.alloc (.cells (vcells N (fun _ => (0, 0, 0))) 45) = W := ⟨_, rfl⟩
  obtain ⟨g, hg⟩ : ∃ g, g = w1.heap.size := ⟨_, rfl⟩
  have hb2 : Below w1.heap.size w1 W2 := by rw [<- hW2]; exact (Below.refl _ _).alloc (Nat.le_refl _) _
  have HO : Hid (Blk W2 g 45 (vcells N (fun _ => (0, 0, 0)))) := Lib.hid (by rw [<- hW2, hg]; exact Blk.new _ _ _)
  have HRD : Hid (RdSt W2 b A n cap bs (itV rest 0)) := Lib.hid (hr.below hb2)
  have HF : Hid (Fr (fun q => q = b) w W2) := Lib.hid (by rw [<- hW2]; exact hf.alloc _)
  have hmk := mkV_big N hN9 w1
  have HW2 := Lib.hid hW2; have HG := Lib.hid hg
  have hgs : w.heap.size <= g := by omega
  clear hr hf hN hlist hsz hW2 hb2
  go_wp2_with fail
  rw [HW2.out, <- HG.out]
  clear hmk hg
  go_loopw [10] (fun vi wr => ∃ (i : Nat) (f : Nat -> V3), vi = .int .i64 (i : Int) /\ i <= N /\ Hid (Blk wr g 45 (vcells N f)) /\ Hid (∀ j, j < i -> f j = vecV rest j) /\ Hid (RdSt wr b A n cap bs (itV rest i)) /\ Hid (Fr (fun q => q = b) w wr)) (fun vi _ => N - (intOf vi).toNat)
  case atStart => exact ⟨0, _, rfl, Nat.zero_le _, HO, Lib.hid (fun j hj => absurd hj (Nat.not_lt_zero j)), HRD, HF⟩
  case round =>
   clear HO HRD HF
   obtain ⟨i, f, rfl, hi, HO, HJ, HRD, HF⟩ := hrel
   have i0 : (0 : Int) <= (i : Int) := Int.natCast_nonneg _
   by_cases hlt : i < N
   ·have i1 : (i : Int) < (N : Int) := by omega
    have t1 : decide (i < N) = true := by simpa using hlt
    have t2 : decide (N <= i) = false := by simpa using hlt
    go_wp2_with fail
    have hS : (fun _ : World => True) wr := trivial
    refine region_x 16 (fun _ : World => True) (by kernel_rfl) ?_
    have hr0 : RdSt wr.drew b A n cap bs (itV rest i) := HRD.out.below (Below.refl _ _).drew
    have hf0 : Fr (fun q => q = b) wr wr.drew := (Fr.refl _ _).drew
    generalize wr.drew = V0 at *
    refine tkx (i := 0) (v := ?_) hS ?_ ?_
    rotate_left
    ·rintro w' -
     go_simp
     try with_reducible rfl
    try simp only [Act.put, zq1, zq2, zq3, zq4, zq5, zq6]
    refine tkx (i := 1) (v := ?_) hS ?_ ?_
    rotate_left
    ·rintro w' -
     go_simp
     try with_reducible rfl
    try simp only [Act.put, zq1, zq2, zq3, zq4, zq5, zq6]
    refine tkx (i := 2) (v := ?_) hS ?_ ?_
    rotate_left
    ·rintro w' -
     go_simp
     try with_reducible rfl
    try simp only [Act.put, zq1, zq2, zq3, zq4, zq5, zq6]
    refine tkx (i := 3) (v := ?_) hS ?_ ?_
    rotate_left
    ·rintro w' -
     go_simp
     try with_reducible rfl
    try simp only [Act.put, zq1, zq2, zq3, zq4, zq5, zq6]
    refine tkx (i := 4) (v := ?_) hS ?_ ?_
    rotate_left
    ·rintro w' -
     go_simp
     try with_reducible rfl
    try simp only [Act.put, zq1, zq2, zq3, zq4, zq5, zq6]
    refine tkx (i := 6) (v := ?_) hS ?_ ?_
    rotate_left
    ·rintro w' -
     go_simp
     try with_reducible rfl
    try simp only [Act.put, zq1, zq2, zq3, zq4, zq5, zq6]
    refine tkx (i := 7) (v := ?_) hS ?_ ?_
    rotate_left
    ·rintro w' -
     go_simp
     try with_reducible rfl
    try simp only [Act.put, zq1, zq2, zq3, zq4, zq5, zq6]
    refine tkx (i := 8) (v := ?_) hS ?_ ?_
    rotate_left
    ·rintro w' -
     go_simp
     try with_reducible rfl
    try simp only [Act.put, zq1, zq2, zq3, zq4, zq5, zq6]
    refine tkx (i := 10) (v := ?_) hS ?_ ?_
    rotate_left
    ·rintro w' -
     go_simp
     try with_reducible rfl
    try simp only [Act.put, zq1, zq2, zq3, zq4, zq5, zq6]
    refine tkx (i := 11) (v := ?_) hS ?_ ?_
    rotate_left
    ·rintro w' -
     go_simp
     try with_reducible rfl
    try simp only [Act.put, zq1, zq2, zq3, zq4, zq5, zq6]
    refine tkx (i := 12) (v := ?_) hS ?_ ?_
    rotate_left
    ·rintro w' -
     go_simp
     try with_reducible rfl
    try simp only [Act.put, zq1, zq2, zq3, zq4, zq5, zq6]
    refine anyX_g (i := 5) (by kernel_rfl) (by decide) rfl (by rfl) ?_
    intro K hK
    try simp only [zq1, zq2, zq3]
    refine wp_enterE #[.pointer (some ⟨b, 0, none⟩)] Try.func64 (by kernel_rfl) (by kernel_rfl) ?_ (rtake_any hr0) ?_
    ·go_simp
    rintro e V1 ⟨rfl, hr1, hf1⟩
    have hf01 := hf0.trans hf1
    clear hr0 hf0 hf1
    refine ⟨_, rfl, ?_⟩
    refine hK _ _ hS ?_
    clear hK
    try simp only [Act.put, zq1, zq2, zq3, zq4, zq5, zq6]
    refine anyX_g (i := 9) (by kernel_rfl) (by decide) rfl (by rfl) ?_
    intro K hK
    try simp only [zq1, zq2, zq3]
    refine wp_enterE #[.pointer (some ⟨b, 0, none⟩)] Try.func64 (by kernel_rfl) (by kernel_rfl) ?_ (rtake_any hr1) ?_
    ·go_simp
    rintro e V2 ⟨rfl, hr2, hf2⟩
    have hf02 := hf01.trans hf2
    clear hr1 hf01 hf2
    refine ⟨_, rfl, ?_⟩
    refine hK _ _ hS ?_
    clear hK
    try simp only [Act.put, zq1, zq2, zq3, zq4, zq5, zq6]
    refine anyX_g (i := 13) (by kernel_rfl) (by decide) rfl (by rfl) ?_
    intro K hK
    try simp only [zq1, zq2, zq3]
    refine wp_enterE #[.pointer (some ⟨b, 0, none⟩)] Try.func64 (by kernel_rfl) (by kernel_rfl) ?_ (rtake_any hr2) ?_
    ·go_simp
    rintro e V3 ⟨rfl, hr3, hf3⟩
    have hf03 := hf02.trans hf3
    clear hr2 hf02 hf3
    refine ⟨_, rfl, ?_⟩
    refine hK _ _ hS ?_
    clear hK
    try simp only [Act.put, zq1, zq2, zq3, zq4, zq5, zq6]
    obtain ⟨x, hx⟩ : ∃ x, (takeN (itV rest i)).1 = x := ⟨_, rfl⟩
    obtain ⟨y, hy⟩ : ∃ y, (takeN (takeN (itV rest i)).2).1 = y := ⟨_, rfl⟩
    obtain ⟨z, hz⟩ : ∃ z, (takeN (takeN (takeN (itV rest i)).2).2).1 = z := ⟨_, rfl⟩
    rw [hx, hy, hz]
    have hv : vecV rest i = (x, y, z) := by unfold vecV; rw [hx, hy, hz]
    refine tkx (i := 14) (v := ?_) hS ?_ ?_
    rotate_left
    ·rintro w' -
     go_simp
     try with_reducible rfl
    try simp only [Act.put, zq1, zq2, zq3, zq4, zq5, zq6]
    refine tkx (i := 15) (v := ?_) hS ?_ ?_
    rotate_left
    ·rintro w' -
     go_simp
     try with_reducible rfl
    try simp only [Act.put, zq1, zq2, zq3, zq4, zq5, zq6]
    have hO3 := hf03.blk HO.out (fun e => by omega)
    have d0 := hO3.cell (i * 3); have d1 := hO3.cell (i * 3 + 1); have d2 := hO3.cell (i * 3 + 2)
    have z0 := hO3.frozen (i * 3); have z1 := hO3.frozen (i * 3 + 1); have z2 := hO3.frozen (i * 3 + 2)
    obtain ⟨y0, ey0⟩ := vcell_some f hlt (c := 0) (by decide); obtain ⟨y1, ey1⟩ := vcell_some f hlt (c := 1) (by decide); obtain ⟨y2, ey2⟩ := vcell_some f hlt (c := 2) (by decide)
    rw [Nat.add_zero] at ey0
    rw [ey0] at d0
    rw [ey1] at d1
    rw [ey2] at d2
    have HO4 := Lib.hid (vset hO3 hlt x y z)
    have HR4 : Hid (RdSt (((V3.setCell ⟨g, i * 3, none⟩ (.int .i64 x)).setCell ⟨g, i * 3 + 1, none⟩ (.int .i64 y)).setCell ⟨g, i * 3 + 2, none⟩ (.int .i64 z)) b A n cap bs (itV rest (i + 1))) := Lib.hid (vrd hr3 hO3 hlt x y z)
    have HF4 : Hid (Fr (fun q => q = b) w (((V3.setCell ⟨g, i * 3, none⟩ (.int .i64 x)).setCell ⟨g, i * 3 + 1, none⟩ (.int .i64 y)).setCell ⟨g, i * 3 + 2, none⟩ (.int .i64 z))) := Lib.hid ((((HF.out.trans hf03).set_ (p := ⟨g, i * 3, none⟩) (.inr hgs) _).set_ (p := ⟨g, i * 3 + 1, none⟩) (.inr hgs) _).set_ (p := ⟨g, i * 3 + 2, none⟩) (.inr hgs) _)
    have HV := Lib.hid hv
    clear hx hy hz hv hr3 hf03 hO3 ey0 ey1 ey2
    refine anyX_last (by kernel_rfl) (by kernel_rfl) rfl rfl ?_
    try simp only [zq1, zq2, zq3]
    go_simp
    try apply_assumption
    go_wp2_with fail
    refine ⟨⟨i + 1, _, by go_num, by omega, HO4, Lib.hid (fun j hj => ?_), HR4, HF4⟩, by simp [intOf]; omega⟩
    by_cases e : j = i
    ·rw [e, if_pos rfl, HV.out]
    ·rw [if_neg e]; exact HJ.out j (by omega)
   ·obtain rfl : N = i := by omega
    go_wp2_with fail
    go_ret
    rw [HLST.out]
    dsimp only
    have hln : ((List.range N).map (vecV rest)).length = N := by simp
    rw [hln]
    exact ⟨g, f, rfl, hgs, HO.out, HJ.out, HRD.out, HF.out⟩
end Go.Proofs.Ytjkcglgkdclidaa
namespace Go.Proofs.Ytjkcglgkdclidaa
open Go Go.RowKit Go.Proofs
def VecRow (w : World) (B : Nat) (v : Value) (l : List V3) : Prop := ∃ g f, v = sl g l.length l.length /\ B <= g /\ Blk w g 45 (vcells l.length f) /\ ∀ q, q < l.length -> f q = l.getD q (0, 0, 0)
section
variable {w w' : World} {B b g : Nat} {v : Value} {l : List V3}
theorem VecRow.fr (h : VecRow w B v l) (hf : Fr (fun q => q = b) w w') (hb : b < B) : VecRow w' B v l := by
 obtain ⟨g, f, e, hg, hx, hv⟩ := h
 exact ⟨g, f, e, hg, hf.blk hx (fun e => by omega), hv⟩
theorem VecRow.set_ {t : TypeId} {cs : Array Value} {i : Nat} {u : Value} (h : VecRow w B v l) (hg : Blk w g t cs) (ht : t ≠ 45) : VecRow (w.setCell ⟨g, i, none⟩ u) B v l := by
 obtain ⟨g', f, e, hg', hx, hv⟩ := h
 exact ⟨g', f, e, hg', blkSet hx hg ht, hv⟩
end
theorem vecsN_at {rest : Option (List Int)} {q : Nat} (h : q < (vecsN rest).1.length) : (vecsN rest).1.getD q (0, 0, 0) = vecV rest q := by
 have h2 : q < (manyN rest).1.toNat := by simpa [vecsN] using h
 simp [vecsN, List.getD_eq_getElem?_getD, h2]
def itE (rest : Option (List Int)) : Nat -> Option (List Int)
 | 0 => (manyN rest).2
 | i + 1 => (vecsN (itE rest i)).2
def emitsN (rest : Option (List Int)) : List (List V3) × Option (List Int) := ((List.range (manyN rest).1.toNat).map fun i => (vecsN (itE rest i)).1, itE rest (manyN rest).1.toNat)
theorem info_vrowT : (Try.prog.info? 46).map (fun i => (i.zero, i.size, i.bytes)) = some (some (.slice none 0 0), 1, 24) := by kernel_rfl
theorem mkEE_big (N : Nat) (hN : N <= 1000000) (W : World) : (Instr.makeSlice 27 (.int .i64 (N : Int)) (.int .i64 (N : Int))).run Try.prog W = .ok (.slice (some ⟨W.heap.size, 0, none⟩) N N) (W.alloc (.cells (repA N (.slice none 0 0)) 46)) := by
 obtain ⟨i0, hi, hz0, hz1, hz2⟩ := info_parts info_vrowT
 have h := run_make (P := Try.prog) W 27 46 i0 _ Try.underlying27 hi hz0 .i64 .i64 N N (by omega) (Int.le_refl _) (by rw [hz2]; omega) (by omega)
 rw [h]
 simp only [Int.toNat_natCast, hz1, Nat.mul_one]
 have e : madeCells (Value.cells (.slice none 0 0)) N = repA N (.slice none 0 0) := made_repT N (.slice none 0 0)
 rw [e]
theorem emits_any {w : World} {b : Nat} {A : Option Addr} {n cap : Nat} {bs : List Int} {rest : Option (List Int)} (h : RdSt w b A n cap bs rest) (hn : n <= 8000000) :
  Calls Try.prog 63 #[.pointer (some ⟨b, 0, none⟩)] w fun e w' => ∃ g f, e = .returned (sl g (emitsN rest).1.length (emitsN rest).1.length) /\ w.heap.size <= g /\ Blk w' g 46 (valsA (emitsN rest).1.length f) /\ (∀ i, i < (emitsN rest).1.length -> VecRow w' w.heap.size (f i) ((emitsN rest).1.getD i [])) /\ RdSt w' b A n cap bs (emitsN rest).2 /\ Fr (fun q => q = b) w w' := by
  have hbw : b < w.heap.size := by obtain ⟨a, br, hc, -⟩ := h; exact hc.x.lt
  have HR := Lib.hid h
  clear h
  go_enter Try.func63, Try.ntmps63
  go_wp2_with fail
  refine (many_any HR.out).mono ?_
  rintro e w1 ⟨rfl, hr, hf⟩
  obtain ⟨N, hN⟩ := manyN_nat rest
  have hN9 : N <= 1000000 := by have := manyN_le hr hN; omega
  have hlist : emitsN rest = ((List.range N).map (fun i => (vecsN (itE rest i)).1), itE rest N) := by unfold emitsN; rw [hN]; rfl
  have hsz := hf.size
  have HSZ := Lib.hid hsz; have HLST := Lib.hid hlist
  rw [hN]
  obtain ⟨W2, hW2⟩ : ∃ W, w1.alloc (.cells (repA N (.slice none 0 0)) 46) = W := ⟨_, rfl⟩
  obtain ⟨g, hg⟩ : ∃ g, g = w1.heap.size := ⟨_, rfl⟩
  have hb2 : Below w1.heap.size w1 W2 := by rw [<- hW2]; exact (Below.refl _ _).alloc (Nat.le_refl _) _
  have HO : Hid (Blk W2 g 46 (valsA N (fun _ => .slice none 0 0))) := Lib.hid (by rw [<- valsA_rep, <- hW2, hg]; exact Blk.new _ _ _)
  have HRD : Hid (RdSt W2 b A n cap bs (itE rest 0)) := Lib.hid (hr.below hb2)
  have HF : Hid (Fr (fun q => q = b) w W2) := Lib.hid (by rw [<- hW2]; exact hf.alloc _)
  have hmk := mkEE_big N hN9 w1
  have HW2 := Lib.hid hW2; have HG := Lib.hid hg
  have hgs : w.heap.size <= g := by omega
  clear hr hf hN hlist hsz hW2 hb2
  go_wp2_with fail
  rw [HW2.out, <- HG.out]
  clear hmk hg
  go_loopw [10] (fun vi wr => ∃ (i : Nat) (f : Nat -> Value), vi = .int .i64 (i : Int) /\ i <= N /\ Hid (Blk wr g 46 (valsA N f)) /\ Hid (∀ j, ∃ a m c, f j = .slice a m c) /\ Hid (∀ j, j < i -> VecRow wr w.heap.size (f j) (vecsN (itE rest j)).1) /\ Hid (RdSt wr b A n cap bs (itE rest i)) /\ Hid (Fr (fun q => q = b) w wr)) (fun vi _ => N - (intOf vi).toNat)
  case atStart => exact ⟨0, _, rfl, Nat.zero_le _, HO, Lib.hid (fun _ => ⟨_, _, _, rfl⟩), Lib.hid (fun j hj => absurd hj (Nat.not_lt_zero j)), HRD, HF⟩
  case round =>
   clear HO HRD HF
   obtain ⟨i, f, rfl, hi, HO, HSL, HJ, HRD, HF⟩ := hrel
   have i0 : (0 : Int) <= (i : Int) := Int.natCast_nonneg _
   by_cases hlt : i < N
   ·have i1 : (i : Int) < (N : Int) := by omega
    have t1 : decide (i < N) = true := by simpa using hlt
    have t2 : decide (N <= i) = false := by simpa using hlt
    go_wp2_with fail
    refine (rvecs_any HRD.out hn).mono ?_
    rintro e w3 ⟨g3, f3, rfl, hg3, hx3, hv3, hr, hf⟩
    have hws := HF.out.size
    have hws3 := hf.size
    have hgw := HO.out.lt
    have hO3 := hf.blk HO.out (fun e => by omega)
    have hJ3 : ∀ j, j < i -> VecRow w3 w.heap.size (f j) (vecsN (itE rest j)).1 := fun j hj => (HJ.out j hj).fr hf hbw
    obtain ⟨m, hm⟩ : ∃ m, (vecsN (itE rest i)).1.length = m := ⟨_, rfl⟩
    have ho3 : VecRow w3 w.heap.size (sl g3 m m) (vecsN (itE rest i)).1 := ⟨g3, f3, by rw [hm], by omega, hx3, fun q hq => by rw [hv3 q hq]; exact (vecsN_at hq).symm⟩
    rw [hm]
    have hkeep : ∀ {v : Value} {l : List V3}, VecRow w3 w.heap.size v l -> VecRow (w3.setCell ⟨g, i, none⟩ (sl g3 m m)) w.heap.size v l := fun {v l} ho => ho.set_ hO3 (by decide)
    have HO4 : Hid (Blk (w3.setCell ⟨g, i, none⟩ (sl g3 m m)) g 46 (valsA N (fun y => if y = i then sl g3 m m else f y))) := Lib.hid (by have := hO3.set_ i (sl g3 m m); rwa [valsA_set] at this)
    have HSL4 : Hid (∀ j, ∃ a m' c, (fun y => if y = i then sl g3 m m else f y) j = .slice a m' c) := Lib.hid (fun j => by
     by_cases e : j = i
     ·simp only [if_pos e]; exact ⟨_, _, _, rfl⟩
     ·simp only [if_neg e]; exact HSL.out j)
    have HJ4 : Hid (∀ j, j < i + 1 -> VecRow (w3.setCell ⟨g, i, none⟩ (sl g3 m m)) w.heap.size ((fun y => if y = i then sl g3 m m else f y) j) (vecsN (itE rest j)).1) := Lib.hid (fun j hj => by
     by_cases e : j = i
     ·subst e
      simp only [if_pos]
      exact hkeep ho3
     ·simp only [if_neg e]
      exact hkeep (hJ3 j (by omega)))
    have HR4 : Hid (RdSt (w3.setCell ⟨g, i, none⟩ (sl g3 m m)) b A n cap bs (itE rest (i + 1))) := Lib.hid (hr.vals hO3 (by decide) HSL.out)
    have HF4 : Hid (Fr (fun q => q = b) w (w3.setCell ⟨g, i, none⟩ (sl g3 m m))) := Lib.hid ((HF.out.trans hf).set_ (p := ⟨g, i, none⟩) (.inr hgs) _)
    have c := hO3.cell i; have fz := hO3.frozen i
    rw [valsA_at hlt] at c
    obtain ⟨x, hx⟩ : ∃ x, f i = x := ⟨_, rfl⟩
    rw [hx] at c
    clear ho3 hr hf hO3 hJ3 hm hkeep hx hws3 hgw hg3 hx3 hv3
    go_wp2_with fail
    exact ⟨⟨i + 1, _, by go_num, by omega, HO4, HSL4, HJ4, HR4, HF4⟩, by simp [intOf]; omega⟩
   ·obtain rfl : N = i := by omega
    go_wp2_with fail
    go_ret
    rw [HLST.out]
    dsimp only
    have hln : ((List.range N).map (fun i => (vecsN (itE rest i)).1)).length = N := by simp
    rw [hln]
    refine ⟨g, f, rfl, hgs, HO.out, fun j hj => ?_, HRD.out, HF.out⟩
    have e : ((List.range N).map (fun i => (vecsN (itE rest i)).1)).getD j [] = (vecsN (itE rest j)).1 := by simp [List.getD_eq_getElem?_getD, hj]
    rw [e]
    exact HJ.out j hj
end Go.Proofs.Ytjkcglgkdclidaa
