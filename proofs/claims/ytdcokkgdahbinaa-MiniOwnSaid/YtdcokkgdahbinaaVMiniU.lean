/- backward.out, slices.Min, told of a Back. told of a Back. backward.right, of a machine. -/
import Derived.Test.YtdcokkgdahbinaaVMiniS
set_option linter.unusedVariables false
set_option linter.unusedSimpArgs false
set_option maxRecDepth 100000
set_option maxHeartbeats 8000000
namespace Go.Proofs.Ytdcokkgdahbinaa
open Go Go.RowKit Go.Proofs
theorem out_any {w : World} {NA OA : Option Addr} {nc oc n m : Nat} {outs : List Nat} (h : ReadsI w (.slice OA m oc) m (intsN outs)) {x : Nat} (hx : x < m) :
  Calls Try.prog 33 #[.agg #[.slice NA n nc, .slice OA m oc], .int .i64 (x : Int)] w fun e w' => e = .returned (.int .i64 (outs.getD x 0 : Nat)) /\ Below w.heap.size w w' := by
  obtain ⟨-, OA', c', e, hoc, hoc2, -, -⟩ := id h
  simp only [Value.slice.injEq, true_and] at e
  obtain ⟨rfl, rfl⟩ := e
  unfold maxLen at hoc2
  obtain ⟨W0, hW0⟩ : ∃ W0, w.alloc (.cells #[.slice NA n nc, .slice OA m oc] 59) = W0 := ⟨_, rfl⟩
  have hb0 : Below w.heap.size w W0 := by rw [<- hW0]; exact (Below.refl _ _).alloc (Nat.le_refl _) _
  have hx0 : Blk W0 w.heap.size 59 #[.slice NA n nc, .slice OA m oc] := by rw [<- hW0]; exact Blk.new _ _ _
  obtain ⟨nb, hnb⟩ : ∃ nb, nb = w.heap.size := ⟨_, rfl⟩
  rw [<- hnb] at hx0
  have b1 := hx0.cell 1
  simp only [List.getElem?_toArray, List.getElem?_cons_zero, List.getElem?_cons_succ] at b1
  obtain ⟨g, o, hA, -, e2⟩ := (h.below hb0).at x hx
  subst hA
  have ce : (intsN outs).getD x 0 = (outs.getD x 0 : Nat) := by
   simp [intsN, List.getD, List.getElem?_map]
   cases h9 : outs[x]? with
   | none => simp
   | some z => simp
  rw [ce] at e2
  generalize outs.getD x 0 = z at *
  have x0 : (0 : Int) <= (x : Int) := Int.natCast_nonneg _
  have x1 : (x : Int) < (m : Int) := by omega
  have tx : decide (x < m) = true := by simpa using hx
  have HB0 := Lib.hid hb0
  subst hW0 hnb
  clear hb0 hx0 h ce
  go_enter Try.func33, Try.ntmps33
  go_wp2_with fail
  go_ret
  exact ⟨rfl, HB0.out⟩
theorem min_any {w : World} {A : Option Addr} {n c : Nat} {l : List Nat} (h : ReadsI w (.slice A n c) n (intsN l)) (hp : 0 < n) (hn : n <= 1000) :
  Calls Try.prog 49 #[.slice A n c] w fun e w' => (∃ z : Int, e = .returned (.int .i64 z) /\ 0 <= z) /\ Below w.heap.size w w' := by
  obtain ⟨-, A', c', e, hc, hc2, -, -⟩ := id h
  simp only [Value.slice.injEq, true_and] at e
  obtain ⟨rfl, rfl⟩ := e
  unfold maxLen at hc2
  have hat : ∀ j, j < n -> ∃ b off, A = some ⟨b, off, none⟩ /\ ∃ z : Int, 0 <= z /\ w.cell? ⟨b, off + j, none⟩ = some (.int .i64 z) := fun j hj => by
   obtain ⟨b, off, e1, -, e2⟩ := h.at j hj
   refine ⟨b, off, e1, _, ?_, e2⟩
   simp [intsN, List.getD, List.getElem?_map]
   cases h9 : l[j]? with
   | none => simp
   | some z => simp
  obtain ⟨g, o, hA, z0, hz0, e0⟩ := hat 0 hp
  subst hA
  rw [Nat.add_zero] at e0
  have HAT := Lib.hid hat
  have n0 : (0 : Int) < (n : Int) := by omega
  have n1 : ¬ (n : Int) < 1 := by omega
  have n2 : ¬ n < 1 := by omega
  have tn : decide (0 < n) = true := by simpa using hp
  clear hat h
  go_enter Try.func49, Try.ntmps49
  go_wp2_with fail
  go_loopw [3, 4] (fun vm vi wr => ∃ (z : Int) (j : Nat), vm = .int .i64 z /\ vi = .int .i64 (j : Int) /\ 0 <= z /\ j <= n /\ wr = w) (fun _ vi _ => n - (intOf vi).toNat)
  case atStart => exact ⟨z0, 1, rfl, rfl, hz0, hp, by trivial⟩
  case round =>
   clear hz0 e0
   obtain ⟨z, j, rfl, rfl, hz, hj, rfl⟩ := hrel
   have j0 : (0 : Int) <= (j : Int) := Int.natCast_nonneg _
   by_cases hlt : j < n
   ·have j1 : (j : Int) < (n : Int) := by omega
    have tj : decide (j < n) = true := by simpa using hlt
    obtain ⟨g', o', e1, y, hy, e2⟩ := HAT.out j hlt
    simp only [Option.some.injEq, Addr.mk.injEq, and_true] at e1
    obtain ⟨rfl, rfl⟩ := e1
    go_wp2_with fail
    refine ⟨⟨_, j + 1, rfl, by go_num, ?_, by omega, by trivial⟩, by simp [intOf]; omega⟩
    split <;> assumption
   ·obtain rfl : j = n := by omega
    go_wp2_with fail
    go_ret
    exact ⟨⟨z, rfl, hz⟩, Below.refl _ _⟩
end Go.Proofs.Ytdcokkgdahbinaa
namespace Go.Proofs.Ytdcokkgdahbinaa
open Go Go.RowKit Go.Proofs
theorem take_step {ss : List Nat} {j : Nat} (h : j < ss.length) (g : Nat -> Int) : (ss.take (j + 1)).map g = (ss.take j).map g ++ [g (ss.getD j 0)] := by
 rw [List.take_add_one, List.getElem?_eq_getElem h, List.map_append, List.getD_eq_getElem?_getD, List.getElem?_eq_getElem h]
 rfl
theorem intsN_at {ss : List Nat} (j : Nat) : (intsN ss).getD j 0 = (ss.getD j 0 : Nat) := by
 simp [intsN, List.getD, List.getElem?_map]
 cases h9 : ss[j]? with
 | none => simp
 | some z => simp
theorem toldI_any {w : World} {NA OA VA : Option Addr} {nc oc n m0 k kc : Nat} {g : Nat -> Int} {ss : List Nat} (hv : ReadsI w (.slice VA k kc) k (intsN ss)) (hss : ∀ x ∈ ss, x < n) (hk : k <= 1000)
  (hsay : ∀ W, Below w.heap.size w W -> ∀ x, x < n -> Calls Try.prog 33 #[.agg #[.slice NA n nc, .slice OA m0 oc], .int .i64 (x : Int)] W fun e w' => e = .returned (.int .i64 (g x)) /\ Below W.heap.size W w') :
  Calls Try.prog 34 #[.agg #[.slice NA n nc, .slice OA m0 oc], .func (.func 33) #[] #[], .slice VA k kc] w fun e w' => ∃ u, e = .returned u /\ Own w' w.heap.size u k (ss.map g) /\ Below w.heap.size w w' := by
  have hsl : ss.length = k := by have := hv.1; simpa [intsN] using this
  obtain ⟨-, VA', c', e, hvc, hvc2, -, -⟩ := id hv
  simp only [Value.slice.injEq, true_and] at e
  obtain ⟨rfl, rfl⟩ := e
  unfold maxLen at hvc2
  obtain ⟨W0, hW0⟩ : ∃ W0, w.alloc (.cells #[.slice NA n nc, .slice OA m0 oc] 59) = W0 := ⟨_, rfl⟩
  have hb0 : Below w.heap.size w W0 := by rw [<- hW0]; exact (Below.refl _ _).alloc (Nat.le_refl _) _
  have hx0 : Blk W0 w.heap.size 59 #[.slice NA n nc, .slice OA m0 oc] := by rw [<- hW0]; exact Blk.new _ _ _
  obtain ⟨nb, hnb⟩ : ∃ nb, nb = w.heap.size := ⟨_, rfl⟩
  rw [<- hnb] at hx0
  have hnb2 : nb < W0.heap.size := hx0.lt
  have hws : w.heap.size <= W0.heap.size := hb0.size
  have hv0 := hv.below hb0
  have HB0 := Lib.hid hb0; have HX0 := Lib.hid hx0; have HV := Lib.hid hv0; have HSS := Lib.hid hss; have HSL := Lib.hid hsl; have HSAY := Lib.hid hsay; have HW0 := Lib.hid hW0; have HNB := Lib.hid hnb
  have H00 : Hid (Own W0 W0.heap.size (.slice none 0 0) 0 ((ss.take 0).map g)) := Lib.hid (Own.nil _ _)
  clear hb0 hx0 hv hv0 hss hsl hsay hnb hW0
  have k0 : (0 : Int) <= (k : Int) := Int.natCast_nonneg _
  go_enter Try.func34, Try.ntmps34
  go_wp2_with fail
  rw [HW0.out, <- HNB.out]
  go_loopw [7, 12] (fun vl vi wr => ∃ j : Nat, vi = .int .i64 (j : Int) /\ j <= k /\ Hid (Own wr W0.heap.size vl j ((ss.take j).map g)) /\ Hid (Below W0.heap.size W0 wr)) (fun _ vi _ => k - (intOf vi).toNat)
  case atStart => exact ⟨0, rfl, Nat.zero_le _, H00, Lib.hid (Below.refl _ _)⟩
  case round =>
   clear H00
   obtain ⟨j, rfl, hj, HO, HB⟩ := hrel
   have j0 : (0 : Int) <= (j : Int) := Int.natCast_nonneg _
   obtain ⟨-, LA, lc, hvl, hlc, hlc2, -, -⟩ := id HO.out.readsI
   subst hvl
   unfold maxLen at hlc2
   by_cases hlt : j < k
   ·have j1 : (j : Int) < (k : Int) := by omega
    have tj : decide (j < k) = true := by simpa using hlt
    have til : j < ss.length := by rw [HSL.out]; exact hlt
    have hxm : ss.getD j 0 ∈ ss := by rw [List.getD_eq_getElem?_getD, List.getElem?_eq_getElem til]; exact List.getElem_mem _
    have hxn := HSS.out _ hxm
    have hst := take_step til g
    obtain ⟨b, o, hA, -, e2⟩ := (HV.out.below HB.out).at j hlt
    subst hA
    rw [intsN_at] at e2
    have hwr : Below w.heap.size w wr := HB0.out.trans (HB.out.mono HB0.out.size)
    have hsay := HSAY.out wr hwr _ hxn
    obtain ⟨x, hx⟩ : ∃ x, ss.getD j 0 = x := ⟨_, rfl⟩
    rw [hx] at hsay hst e2
    have HSY := Lib.hid hsay; have HST := Lib.hid hst
    have hxb := Blk.below HX0.out HB.out HX0.out.lt
    have b0 := hxb.cell 0; have b1 := hxb.cell 1
    simp only [List.getElem?_toArray, List.getElem?_cons_zero, List.getElem?_cons_succ] at b0 b1
    clear hwr hxb hsay hst hx hxm til
    go_wp2_with fail
    refine HSY.out.mono ?_
    rintro e w2 ⟨rfl, hb2⟩
    have HO2 := Lib.hid (HO.out.below_top hb2)
    have HB2 := Lib.hid (HB.out.trans (hb2.mono HB.out.size))
    have hbs : W0.heap.size <= w2.heap.size := HB2.out.size
    have hj9 : j <= 1000000000 := by omega
    clear hb2 HSY HO HB b0 b1 e2
    go_wp2_with (at_builtin; refine wpList_push rfl (.tmp 16) (.tmp 21) rfl W0.heap.size w2 (.slice LA j lc) j ((ss.take j).map g) (g x) (by rfl) HO2.out (by rfl) hj9 hbs ?_; intro g9 cap9 w9 hp9; have HP := Lib.hid hp9; clear hp9)
    refine ⟨⟨j + 1, by go_num, by omega, Lib.hid ?_, Lib.hid ?_⟩, by simp [intOf]; omega⟩
    ·rw [HST.out]; exact HP.out.own
    ·exact HP.out.below HB2.out (Nat.le_refl _) hbs
   ·obtain rfl : j = k := by omega
    go_wp2_with fail
    go_ret
    refine ⟨_, rfl, ?_, HB0.out.trans (HB.out.mono HB0.out.size)⟩
    have h1 := HO.out
    rw [List.take_of_length_le (Nat.le_of_eq HSL.out)] at h1
    exact ownsRow_more h1 hws
end Go.Proofs.Ytdcokkgdahbinaa
namespace Go.Proofs.Ytdcokkgdahbinaa
open Go Go.RowKit Go.Proofs
theorem right_any {w : World} {NA OA : Option Addr} {nc oc n k : Nat} {T : List (List Nat)} {outs : List Nat} (h : NextR w (.slice NA n nc) T) (hl : T.length = n) (hT : RectN T k) (ho : ReadsI w (.slice OA n oc) n (intsN outs)) (hn : n <= 1000) (hk : k <= 1000) :
  Calls Try.prog 30 #[.agg #[.slice NA n nc, .slice OA n oc]] w fun e w' => e = .returned (.bool true) /\ Below w.heap.size w w' := by
  have hpos : 0 < n := by have := hT.pos; omega
  obtain ⟨-, OA', c', e, hoc, hoc2, -, -⟩ := id ho
  simp only [Value.slice.injEq, true_and] at e
  obtain ⟨rfl, rfl⟩ := e
  unfold maxLen at hoc2
  obtain ⟨W0, hW0⟩ : ∃ W0, w.alloc (.cells #[.slice NA n nc, .slice OA n oc] 59) = W0 := ⟨_, rfl⟩
  have hb0 : Below w.heap.size w W0 := by rw [<- hW0]; exact (Below.refl _ _).alloc (Nat.le_refl _) _
  have hx0 : Blk W0 w.heap.size 59 #[.slice NA n nc, .slice OA n oc] := by rw [<- hW0]; exact Blk.new _ _ _
  obtain ⟨nb, hnb⟩ : ∃ nb, nb = w.heap.size := ⟨_, rfl⟩
  rw [<- hnb] at hx0
  have HKS : Hid (∀ W : World, Below W0.heap.size W0 W -> (fun W : World => W.cell? ⟨nb, 0, none⟩ = some (.slice NA n nc) /\ W.cell? ⟨nb, 1, none⟩ = some (.slice OA n oc)) W) := Lib.hid (fun W hW => by
   have h0 := (Blk.below hx0 hW hx0.lt).cell 0
   have h1 := (Blk.below hx0 hW hx0.lt).cell 1
   exact ⟨by simpa using h0, by simpa using h1⟩)
  have HNR := Lib.hid (h.below hb0); have HO := Lib.hid (ho.below hb0); have HT := Lib.hid hT; have HL := Lib.hid hl; have HB0 := Lib.hid hb0; have HW0 := Lib.hid hW0; have HNB := Lib.hid hnb
  clear h ho hT hl hb0 hx0 hW0 hnb
  go_enter Try.func30, Try.ntmps30
  go_wp2_with fail
  rw [HW0.out, <- HNB.out]
  refine region_x 18 (fun W : World => W.cell? ⟨nb, 0, none⟩ = some (.slice NA n nc) /\ W.cell? ⟨nb, 1, none⟩ = some (.slice OA n oc)) (by kernel_rfl) ?_
  have hb : Below W0.heap.size W0 W0.drew := (Below.refl _ _).drew
  have hS := HKS.out _ hb
  generalize W0.drew = V0 at *
  refine tkx (i := 0) (v := ?_) hS ?_ ?_
  rotate_left
  ·rintro w' ⟨s0', s1'⟩
   go_simp
   try with_reducible rfl
  try simp only [Act.put, zq1, zq2, zq3, zq4, zq5, zq6]
  refine tkx (i := 1) (v := ?_) hS ?_ ?_
  rotate_left
  ·rintro w' ⟨s0', s1'⟩
   go_simp
   try with_reducible rfl
  try simp only [Act.put, zq1, zq2, zq3, zq4, zq5, zq6]
  refine anyX_g (i := 2) (by kernel_rfl) (by decide) rfl (by rfl) ?_
  intro K hK
  try simp only [zq1, zq2, zq3]
  refine wp_enterE #[.agg #[.slice NA n nc]] Try.func47 (by kernel_rfl) (by kernel_rfl) ?_ (leads_any (HNR.out.below hb) HL.out HT.out hn hk) ?_
  ·go_simp
  rintro e V1 ⟨rfl, hbn⟩
  refine ⟨_, rfl, ?_⟩
  replace hb := hb.trans (hbn.mono hb.size)
  clear hbn
  have hS := HKS.out _ hb
  refine hK _ _ hS ?_
  clear hK
  try simp only [Act.put, zq1, zq2, zq3, zq4, zq5, zq6]
  refine tkx (i := 3) (v := .bool true) hS ?_ ?_
  ·rintro w' ⟨s0', s1'⟩
   go_simp
   try with_reducible rfl
  try simp only [Act.put, zq1, zq2, zq3, zq4, zq5, zq6]
  refine tkx (i := 4) (v := ?_) hS ?_ ?_
  rotate_left
  ·rintro w' ⟨s0', s1'⟩
   go_simp
   try with_reducible rfl
  try simp only [Act.put, zq1, zq2, zq3, zq4, zq5, zq6]
  refine tkx (i := 5) (v := ?_) hS ?_ ?_
  rotate_left
  ·rintro w' ⟨s0', s1'⟩
   go_simp
   try with_reducible rfl
  try simp only [Act.put, zq1, zq2, zq3, zq4, zq5, zq6]
  refine tkx (i := 6) (v := ?_) hS ?_ ?_
  rotate_left
  ·rintro w' ⟨s0', s1'⟩
   go_simp
   try with_reducible rfl
  try simp only [Act.put, zq1, zq2, zq3, zq4, zq5, zq6]
  refine tkx (i := 7) (v := ?_) hS ?_ ?_
  rotate_left
  ·rintro w' ⟨s0', s1'⟩
   go_simp
   try with_reducible rfl
  try simp only [Act.put, zq1, zq2, zq3, zq4, zq5, zq6]
  refine tkx (i := 8) (v := ?_) hS ?_ ?_
  rotate_left
  ·rintro w' ⟨s0', s1'⟩
   go_simp
   try with_reducible rfl
  try simp only [Act.put, zq1, zq2, zq3, zq4, zq5, zq6]
  refine anyX_g (i := 9) (by kernel_rfl) (by decide) rfl (by rfl) ?_
  intro K hK
  try simp only [zq1, zq2, zq3]
  refine wp_enterE #[.agg #[.slice NA n nc]] Try.func48 (by kernel_rfl) (by kernel_rfl) ?_ (size_any NA n nc V1) ?_
  ·go_simp
  rintro e V2 ⟨rfl, hbn⟩
  refine ⟨_, rfl, ?_⟩
  replace hb := hb.trans (hbn.mono hb.size)
  clear hbn
  have hS := HKS.out _ hb
  refine hK _ _ hS ?_
  clear hK
  try simp only [Act.put, zq1, zq2, zq3, zq4, zq5, zq6]
  refine tkx (i := 10) (v := .bool true) hS ?_ ?_
  ·rintro w' ⟨s0', s1'⟩
   go_simp
   try with_reducible rfl
  try simp only [Act.put, zq1, zq2, zq3, zq4, zq5, zq6]
  refine tkx (i := 11) (v := .bool true) hS ?_ ?_
  ·rintro w' ⟨s0', s1'⟩
   go_simp
   try with_reducible rfl
  try simp only [Act.put, zq1, zq2, zq3, zq4, zq5, zq6]
  refine tkx (i := 12) (v := .bool true) hS ?_ ?_
  ·rintro w' ⟨s0', s1'⟩
   go_simp
   try with_reducible rfl
  try simp only [Act.put, zq1, zq2, zq3, zq4, zq5, zq6]
  refine tkx (i := 13) (v := ?_) hS ?_ ?_
  rotate_left
  ·rintro w' ⟨s0', s1'⟩
   go_simp
   try with_reducible rfl
  try simp only [Act.put, zq1, zq2, zq3, zq4, zq5, zq6]
  refine tkx (i := 14) (v := ?_) hS ?_ ?_
  rotate_left
  ·rintro w' ⟨s0', s1'⟩
   go_simp
   try with_reducible rfl
  try simp only [Act.put, zq1, zq2, zq3, zq4, zq5, zq6]
  refine anyX_g (i := 15) (by kernel_rfl) (by decide) rfl (by rfl) ?_
  intro K hK
  try simp only [zq1, zq2, zq3]
  refine wp_enterE #[.slice OA n oc] Try.func49 (by kernel_rfl) (by kernel_rfl) ?_ (min_any (HO.out.below hb) hpos hn) ?_
  ·go_simp
  rintro e V3 ⟨⟨z, rfl, hz⟩, hbn⟩
  refine ⟨_, rfl, ?_⟩
  replace hb := hb.trans (hbn.mono hb.size)
  clear hbn
  have hS := HKS.out _ hb
  refine hK _ _ hS ?_
  clear hK
  try simp only [Act.put, zq1, zq2, zq3, zq4, zq5, zq6]
  refine tkx (i := 16) (v := .bool true) hS ?_ ?_
  ·rintro w' ⟨s0', s1'⟩
   go_simp
   try with_reducible rfl
  try simp only [Act.put, zq1, zq2, zq3, zq4, zq5, zq6]
  refine tkx (i := 17) (v := .bool true) hS ?_ ?_
  ·rintro w' ⟨s0', s1'⟩
   go_simp
   try with_reducible rfl
  try simp only [Act.put, zq1, zq2, zq3, zq4, zq5, zq6]
  refine anyX_last (by kernel_rfl) (by kernel_rfl) rfl rfl ?_
  try simp only [zq1, zq2, zq3]
  go_simp
  try apply_assumption
  go_wp2_with fail
  go_ret
  exact ⟨rfl, HB0.out.trans (hb.mono HB0.out.size)⟩
end Go.Proofs.Ytdcokkgdahbinaa
