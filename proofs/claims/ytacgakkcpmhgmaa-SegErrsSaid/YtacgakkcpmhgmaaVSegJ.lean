/- What back.Run's rounds make, plain; rows of numbers by their places. Contract of back: Run. Contract of det: Run. -/
import Derived.Test.YtacgakkcpmhgmaaVSegG
import Derived.Test.YtacgakkcpmhgmaaVSegA
import Derived.Test.YtacgakkcpmhgmaaVTableO
import Derived.Test.YtacgakkcpmhgmaaVTableYd
set_option linter.unusedVariables false
set_option linter.unusedSimpArgs false
set_option maxRecDepth 100000
set_option maxHeartbeats 4000000
namespace Go.Proofs.Ytacgakkcpmhgmaa
open Go Go.RowKit Go.Proofs
def icells (N : Nat) (f : Nat -> Int) : Array Value := ((List.range N).map fun i => Value.int .i64 (f i)).toArray
theorem icells_size (N : Nat) (f : Nat -> Int) : (icells N f).size = N := by simp [icells]
theorem icells_at {N : Nat} (f : Nat -> Int) {i : Nat} (hi : i < N) : (icells N f)[i]? = some (.int .i64 (f i)) := by
 unfold icells
 rw [List.getElem?_toArray, List.getElem?_map, List.getElem?_range hi]
 rfl
theorem icells_set {N : Nat} (f : Nat -> Int) {i : Nat} (hi : i < N) (x : Int) : (icells N f).setIfInBounds i (.int .i64 x) = icells N (fun j => if j = i then x else f j) := by
 apply Array.ext
 ·simp [icells_size]
 ·intro k h1 h2
  have hk : k < N := by simpa [icells_size] using h2
  have e1 := icells_at f hk
  have e2 := icells_at (fun j => if j = i then x else f j) hk
  have hk1 : k < (icells N f).size := by rw [icells_size]; exact hk
  rw [Array.getElem?_eq_getElem hk1] at e1
  rw [Array.getElem?_eq_getElem h2] at e2
  apply Option.some.inj
  rw [e2, Array.getElem_setIfInBounds]
  by_cases e : i = k
  ·rw [if_pos e, if_pos e.symm]
  ·rw [if_neg e, if_neg (fun q => e q.symm)]; exact e1
theorem icells_rep (N : Nat) : repA N (.int .i64 0) = icells N (fun _ => 0) := by
 unfold repA icells
 congr 1
 apply List.ext_getElem?
 intro i
 rcases Nat.lt_or_ge i N with h | h
 ·rw [List.getElem?_replicate, if_pos h, List.getElem?_map, List.getElem?_range h]; rfl
 ·rw [List.getElem?_eq_none (by simpa using h), List.getElem?_eq_none (by simpa using h)]
theorem iset {w : World} {g N i : Nat} {f : Nat -> Int} (h : Blk w g 3 (icells N f)) (hi : i < N) (x : Int) : Blk (w.setCell ⟨g, i, none⟩ (.int .i64 x)) g 3 (icells N (fun j => if j = i then x else f j)) := by
 rw [<- icells_set f hi x]
 exact h.set_ _ _
theorem icells_reads {w : World} {g N : Nat} {f : Nat -> Int} (h : Blk w g 3 (icells N f)) (hN : N <= 1000000) : ReadsI w (sl g N N) N ((List.range N).map f) :=
 ⟨by simp, _, N, rfl, Nat.le_refl _, by unfold maxLen; omega, (fun e => by cases e), fun i hi => ⟨g, 0, rfl, fun j hj => by
  rw [Nat.zero_add, h.cell, icells_at f hj]
  simp [List.getD_eq_getElem?_getD, hj]⟩⟩
def bkStep (T : List (List Int)) (O t : List Int) (p : Int × (Nat -> Int)) (i : Nat) : Int × (Nat -> Int) :=
 (nxI T p.1 (t.getD i 0), fun j => if j = i then O.getD (nxI T p.1 (t.getD i 0)).toNat 0 else p.2 j)
def bkSt (T : List (List Int)) (O t : List Int) (n : Nat) (l : List Nat) : Int × (Nat -> Int) := l.foldl (bkStep T O t) (0, fun j => if j = n then O.getD 0 0 else 0)
theorem bkSt_snoc (T : List (List Int)) (O t : List Int) (n : Nat) (l : List Nat) (i : Nat) : bkSt T O t n (l ++ [i]) = bkStep T O t (bkSt T O t n l) i := by simp [bkSt]
theorem bkSt_in {T : List (List Int)} {O t : List Int} {n k : Nat} (h : LeadI T k) (ht : ∀ a ∈ t, 0 <= a /\ a < (k : Int)) (l : List Nat) (hl : ∀ i ∈ l, i < t.length) : 0 <= (bkSt T O t n l).1 /\ (bkSt T O t n l).1 < (T.length : Int) := by
 unfold bkSt
 have : ∀ (l : List Nat) (p : Int × (Nat -> Int)), (∀ i ∈ l, i < t.length) -> 0 <= p.1 -> p.1 < (T.length : Int) -> 0 <= (l.foldl (bkStep T O t) p).1 /\ (l.foldl (bkStep T O t) p).1 < (T.length : Int) := by
  intro l
  induction l with
  | nil => intro p _ h0 h1; exact ⟨h0, h1⟩
  | cons i l ih =>
    intro p hl h0 h1
    have ha := ht _ (getD_memL (d := 0) (hl i (by simp)))
    have hn := lead_nx h h0 h1 ha.1 ha.2
    exact ih _ (fun j hj => hl j (by simp [hj])) hn.1 hn.2
 exact this l _ hl (Int.le_refl _) (by have := h.1; show (0 : Int) < _; omega)
theorem bkSt_backs (T : List (List Int)) (O t : List Int) {n : Nat} (hn : t.length = n) : ∀ k, k <= n -> (bkSt T O t n ((backsZ n k).map fun x => x.1)).1 = bakI T t (n - k) /\ ∀ j, n - k <= j -> j <= n -> (bkSt T O t n ((backsZ n k).map fun x => x.1)).2 j = O.getD (bakI T t j).toNat 0
 | 0, _ => by
   have e : (backsZ n 0).map (fun x : Fin n => x.1) = [] := by simp [backsZ]
   rw [e]
   have hb : bakI T t n = 0 := by rw [<- hn]; exact bakI_end T t
   refine ⟨by rw [Nat.sub_zero, hb]; rfl, fun j h1 h2 => ?_⟩
   obtain rfl : j = n := by omega
   rw [hb]
   show (if j = j then O.getD 0 0 else 0) = _
   rw [if_pos rfl]; rfl
 | k + 1, hk => by
   obtain ⟨h1, h2⟩ := bkSt_backs T O t hn k (by omega)
   rw [backs_succZ n k (by omega), List.map_append, List.map_cons, List.map_nil, bkSt_snoc]
   have hi : n - 1 - k < t.length := by omega
   have hs := bakI_step T hi
   rw [show n - 1 - k + 1 = n - k by omega, <- h1] at hs
   have hx : (bkStep T O t (bkSt T O t n ((backsZ n k).map fun x => x.1)) (n - 1 - k)).1 = bakI T t (n - 1 - k) := hs.symm
   refine ⟨by rw [show n - (k + 1) = n - 1 - k by omega]; exact hx, fun j q1 q2 => ?_⟩
   show (if j = n - 1 - k then O.getD (nxI T (bkSt T O t n ((backsZ n k).map fun x => x.1)).1 (t.getD (n - 1 - k) 0)).toNat 0 else (bkSt T O t n ((backsZ n k).map fun x => x.1)).2 j) = _
   by_cases e : j = n - 1 - k
   ·rw [if_pos e, e, hs]
   ·rw [if_neg e]; exact h2 j (by omega) q2
end Go.Proofs.Ytacgakkcpmhgmaa
namespace Go.Proofs.Ytacgakkcpmhgmaa
open Go Go.RowKit Go.Proofs Go.Shelf
attribute [local go_sem] Oper.semAt_some
theorem brun_any {w : World} {vn vo : Value} {n tc m k : Nat} {TA : Option Addr} {T : List (List Int)} {O t : List Int} (hn : RowsI w vn T) (ho : ReadsI w vo T.length O) (hT : LeadI T k) (ht : ReadsI w (.slice TA n tc) n t) (hm : m = n + 1) (hta : ∀ a ∈ t, 0 <= a /\ a < (k : Int)) (hn9 : n <= 10000) (hk : k <= 1000000) :
  Calls Try.prog 66 #[.agg #[vn, vo], .slice TA n tc] w fun e w' => ∃ g, e = .returned (sl g m m) /\ w.heap.size <= g /\ Blk w' g 3 (icells m fun i => O.getD (bakI T t i).toNat 0) /\ Below w.heap.size w w' := by
  obtain ⟨NA, nc, rfl, n1, n2⟩ := hn.form
  obtain ⟨OA, oc, rfl, o1, o2, o3⟩ := ho.form
  obtain ⟨TA', tc', e3, t1, t2, t3⟩ := ht.form
  simp only [Value.slice.injEq, true_and] at e3
  obtain ⟨rfl, rfl⟩ := e3
  obtain ⟨N, hN⟩ : ∃ N, T.length = N := ⟨_, rfl⟩
  rw [hN] at hn ho n1 o1 o3 ⊢
  obtain ⟨B, hB⟩ : ∃ B, w.heap.size = B := ⟨_, rfl⟩
  obtain ⟨W0, hW0⟩ : ∃ W, w.alloc (.cells #[.slice NA N nc, .slice OA N oc] 27) = W := ⟨_, rfl⟩
  have hs0 : W0.heap.size = B + 1 := by rw [<- hW0, World.size_alloc, hB]
  have c0 : W0.cell? ⟨B, 0, none⟩ = some (.slice NA N nc) := by rw [<- hW0]; exact (sblk_new _ hB _ _).cell 0
  have c1 : W0.cell? ⟨B, 1, none⟩ = some (.slice OA N oc) := by rw [<- hW0]; exact (sblk_new _ hB _ _).cell 1
  obtain ⟨W1, hW1⟩ : ∃ W, W0.alloc (.cells #[.slice NA N nc, .slice OA N oc, .int .i64 0] 112) = W := ⟨_, rfl⟩
  have hs1 : W1.heap.size = B + 2 := by rw [<- hW1, World.size_alloc, hs0]
  have hx1 : Blk W1 (B + 1) 112 #[.slice NA N nc, .slice OA N oc, .int .i64 0] := by rw [<- hW1]; exact sblk_new _ hs0 _ _
  obtain ⟨g, hg⟩ : ∃ g, g = B + 2 := ⟨_, rfl⟩
  obtain ⟨W2, hW2⟩ : ∃ W, W1.alloc (.cells (icells m (fun _ => 0)) 3) = W := ⟨_, rfl⟩
  have hs2 : W2.heap.size = B + 3 := by rw [<- hW2, World.size_alloc, hs1]
  have hg2 : Blk W2 g 3 (icells m (fun _ => 0)) := by rw [<- hW2, hg, <- hs1]; exact Blk.new _ _ _
  obtain ⟨W3, hW3⟩ : ∃ W, W2.alloc (.cells #[.slice (some ⟨g, 0, none⟩) m m] 22) = W := ⟨_, rfl⟩
  have hs3 : W3.heap.size = B + 4 := by rw [<- hW3, World.size_alloc, hs2]
  have hx3 : Blk W3 (B + 1) 112 #[.slice NA N nc, .slice OA N oc, .int .i64 ((0 : Nat) : Int)] := by rw [<- hW3, <- hW2]; exact (hx1.alloc _).alloc _
  have hg3 : Blk W3 g 3 (icells m (fun _ => 0)) := by rw [<- hW3]; exact hg2.alloc _
  have hl3 : Blk W3 (B + 3) 22 #[.slice (some ⟨g, 0, none⟩) m m] := by rw [<- hW3]; exact sblk_new _ hs2 _ _
  have hb3 : Below w.heap.size w W3 := by
   rw [<- hW3, <- hW2, <- hW1, <- hW0]
   exact ((((Below.refl _ _).alloc (Nat.le_refl _) _).alloc (by simp only [World.size_alloc]; omega) _).alloc (by simp only [World.size_alloc]; omega) _).alloc (by simp only [World.size_alloc]; omega) _
  have hmk : (Instr.makeSlice 22 (.int .i64 ((n : Int) + 1)) (.int .i64 ((n : Int) + 1))).run Try.prog W1 = .ok (sl g m m) W2 := by
   have := mkI_big m (by omega) W1
   rw [hs1, <- hg, icells_rep, hW2, hm, Int.natCast_add] at this
   rw [hm]
   exact this
  obtain ⟨b9, hb9, hc9⟩ : ∃ b9, (b9 < B + 5 /\ (0 < n -> b9 < B)) /\ ∀ j, j < n -> ∃ off, TA = some ⟨b9, off, none⟩ /\ w.cell? ⟨b9, off + j, none⟩ = some (.int .i64 (t.getD j 0)) := by
   rcases Nat.eq_zero_or_pos n with e | e
   ·exact ⟨B + 4, ⟨by omega, fun h => by omega⟩, fun j hj => by omega⟩
   ·obtain ⟨b9, off, ea, hl9, -⟩ := ht.at 0 e
    refine ⟨b9, ⟨by omega, fun _ => by omega⟩, fun j hj => ?_⟩
    obtain ⟨b8, off8, ea8, -, hc8⟩ := ht.at j hj
    rw [ea] at ea8
    cases ea8
    exact ⟨off, ea, hc8⟩
  have HW0 := Lib.hid hW0; have HW1 := Lib.hid hW1; have HW3 := Lib.hid hW3; have HX3 := Lib.hid hx3; have H9 := Lib.hid hb9; have HC9 := Lib.hid hc9; have HG3 := Lib.hid hg3; have HL3 := Lib.hid hl3; have HB3 := Lib.hid hb3; have HB := Lib.hid hB; have HM := Lib.hid hm; have HG := Lib.hid hg; have HS3 := Lib.hid hs3; have HS2 := Lib.hid hs2
  have HRN := Lib.hid hn; have HRO := Lib.hid ho; have HT := Lib.hid ht; have HTA := Lib.hid hta
  have HLT := Lib.hid hT; have HTL := Lib.hid hN; have HTN := Lib.hid t3
  have hpos : 0 < N := by have := hT.1; omega
  clear hb9 hc9 hB hm hg hW0 hW1 hW2 hW3 hx1 hx3 hg2 hg3 hl3 hb3 hn ho ht hta hT hN t3 o3 hs0 hs1 hs2 hs3
  refine (callsIn_wide (n := 8)).1 ?_
  refine callsIn_of_wp_marks Try.func66 rfl trivial ?_ rfl
  simp only [Try.ntmps66, List.size_toArray, List.length_cons, List.length_nil, Nat.reduceAdd, Nat.reduceSub, Array.replicate_succ, Array.replicate_zero, List.push_toArray, List.append_toArray, List.nil_append, List.cons_append]
  refine Code.wpIn_mono (Q := noPanic (bodyPostM Fence.wide 8 Try.prog _ _)) noPanic_to ?_
  refine wpIn_wide.2 ?_
  go_wp2_with fail
  rw [HW0.out]
  try simp only [HB.out]
  go_wp2_with fail
  try rw [HW1.out]
  rw [hmk]
  go_wp2_with fail
  rw [HW3.out]
  simp only [HS2.out]
  have hS : (fun W : World => W.cell? ⟨B + 3, 0, none⟩ = some (.slice (some ⟨g, 0, none⟩) m m)) W3.drew := HL3.out.cell 0
  refine region_x 5 (fun W : World => W.cell? ⟨B + 3, 0, none⟩ = some (.slice (some ⟨g, 0, none⟩) m m)) (by kernel_rfl) ?_
  have HX4 : Hid (Blk W3.drew (B + 1) 112 #[.slice NA N nc, .slice OA N oc, .int .i64 ((0 : Nat) : Int)]) := HX3
  have HG4 : Hid (Blk W3.drew g 3 (icells m (fun _ => 0))) := HG3
  have HL4 : Hid (Blk W3.drew (B + 3) 22 #[.slice (some ⟨g, 0, none⟩) m m]) := HL3
  have HB4 : Hid (Below w.heap.size w W3.drew) := Lib.hid HB3.out.drew
  have HS4 : Hid (W3.drew.heap.size = B + 4) := HS3
  clear HX3 HG3 HL3 HB3 HS3 HW3
  generalize W3.drew = V0 at *
  refine tkx (i := 0) (v := ?_) hS ?_ ?_
  rotate_left
  ·rintro w' s0'
   go_simp
   try with_reducible rfl
  try simp only [Act.put, zq1, zq2, zq3, zq4, zq5, zq6]
  refine tkx (i := 1) (v := ?_) hS ?_ ?_
  rotate_left
  ·rintro w' s0'
   go_simp
   try with_reducible rfl
  try simp only [Act.put, zq1, zq2, zq3, zq4, zq5, zq6]
  refine tkx (i := 2) (v := ?_) hS ?_ ?_
  rotate_left
  ·rintro w' s0'
   go_simp
   try with_reducible rfl
  try simp only [Act.put, zq1, zq2, zq3, zq4, zq5, zq6]
  refine anyX_g (i := 3) (by kernel_rfl) (by decide) rfl (by rfl) ?_
  intro K hK
  try simp only [zq1, zq2, zq3]
  have hout := bout_any HX4.out HRO.out HB4.out hpos
  obtain ⟨z, hz⟩ : ∃ z, O.getD 0 0 = z := ⟨_, rfl⟩
  rw [hz] at hout
  have HZ := Lib.hid hz
  clear hz
  refine wp_enterE #[.pointer (some ⟨B + 1, 0, none⟩)] Try.func82 (by kernel_rfl) (by kernel_rfl) ?_ hout ?_
  ·go_simp
  rintro e V1 ⟨rfl, q, rfl⟩
  clear hout
  refine ⟨_, rfl, ?_⟩
  refine hK _ _ hS ?_
  clear hK
  try simp only [Act.put, zq1, zq2, zq3, zq4, zq5, zq6]
  have hS1 : (fun W : World => W.cell? ⟨B + 3, 0, none⟩ = some (.slice (some ⟨g, 0, none⟩) m m)) (V0.drewN q) := hS
  have m0 : (0 : Int) <= (n : Int) := Int.natCast_nonneg _
  have m1 : (n : Int) < (m : Int) := by have := HM.out; omega
  refine tkx (i := 4) (v := ?_) hS1 ?_ ?_
  rotate_left
  ·rintro w' s0'
   go_simp
   try with_reducible rfl
  try simp only [Act.put, zq1, zq2, zq3, zq4, zq5, zq6]
  have d0 : (V0.drewN q).cell? ⟨g, n, none⟩ = some (.int .i64 0) := by
   have := HG4.out.cell n
   rw [icells_at _ (by have := HM.out; omega)] at this
   exact this
  have d1 : (V0.drewN q).frozen? ⟨g, n, none⟩ = false := HG4.out.frozen n
  refine anyX_last (by kernel_rfl) (by kernel_rfl) rfl rfl ?_
  try simp only [zq1, zq2, zq3]
  go_simp
  try apply_assumption
  go_wp2_with fail
  obtain ⟨V5, hV5⟩ : ∃ V, V = (V0.drewN q).setCell ⟨g, n, none⟩ (.int .i64 z) := ⟨_, rfl⟩
  rw [<- hV5]
  refine ((callsIn_wide (n := 8)).1 (backward_inZ Fence.wide 8 trivial rfl TA n tc V5)).mono ?_
  rintro e W5 ⟨rfl, hW5⟩
  have hgB : B + 1 ≠ g /\ B + 3 ≠ g := by have := HG.out; omega
  have hnm : n < m := by have := HM.out; omega
  have hgw : w.heap.size <= g := by have := HG.out; have := HB.out; omega
  have hx5 : Blk V5 (B + 1) 112 #[.slice NA N nc, .slice OA N oc, .int .i64 (bkSt T O t n []).1] := by rw [hV5]; exact Blk.far (p := ⟨g, n, none⟩) HX4.out hgB.1 _
  have hg5 : Blk V5 g 3 (icells m (bkSt T O t n []).2) := by
   have := iset HG4.out (i := n) hnm z
   rw [<- HZ.out] at this
   rw [hV5, <- HZ.out]; exact this
  have hl5 : Blk V5 (B + 3) 22 #[.slice (some ⟨g, 0, none⟩) m m] := by rw [hV5]; exact Blk.far (p := ⟨g, n, none⟩) HL4.out hgB.2 _
  have hb5 : Below w.heap.size w V5 := by rw [hV5]; exact (sbel_drewN HB4.out q).setCell (p := ⟨g, n, none⟩) hgw _
  have hs5 : V5.heap.size = B + 4 := by rw [hV5]; simpa using HS4.out
  have hs6 : W5.heap.size = B + 5 := by rw [hW5, World.size_alloc, hs5]
  have hx6 : Blk W5 (B + 1) 112 #[.slice NA N nc, .slice OA N oc, .int .i64 (bkSt T O t n []).1] := by rw [hW5]; exact hx5.alloc _
  have hg6 : Blk W5 g 3 (icells m (bkSt T O t n []).2) := by rw [hW5]; exact hg5.alloc _
  have hl6 : Blk W5 (B + 3) 22 #[.slice (some ⟨g, 0, none⟩) m m] := by rw [hW5]; exact hl5.alloc _
  have hb6 : Below w.heap.size w W5 := by rw [hW5]; exact hb5.alloc hb5.size _
  have hbs : Blk W5 (B + 4) 22 #[.slice TA n tc] := by rw [hW5, <- hs5]; exact Blk.new _ _ _
  rw [hs5]
  clear hV5 hW5 hx5 hg5 hl5 hb5 hs5 HX4 HG4 HL4 HB4 HS4 d0 d1 hS hS1
  go_wp2_with fail
  obtain ⟨tf, htf⟩ : ∃ tf : Nat -> Int, ∀ j, t.getD j 0 = tf j := ⟨_, fun _ => rfl⟩
  have HTF := Lib.hid htf
  clear htf
  refine (wpIn_wide (n := 8)).1 ?_
  refine wpIn_rangeFunc_ownH rfl (by omega) (gf := 88) (lb := #[.pointer (some ⟨B + 4, 0, none⟩)]) rfl trivial (enters_of Try.func88 (by kernel_rfl) rfl)
   (back_stopsZ Fence.wide (8 - 1) trivial rfl (by omega) (B + 4) b9 n tc TA tf (by omega) W5 (hbs.cell 0) (fun j hj => by obtain ⟨off, e, q⟩ := HC9.out j hj; rw [HTF.out] at q; exact ⟨off, e, bel_m hb6 q⟩)) KeepTwoZ.t
   (fun W l o o' hl h _ _ => ⟨(grownBy_putObj' W l o').block b9 (by have := (Array.getElem?_eq_some_iff.1 h).1; have := H9.out.1; omega) (fun e => by cases e; have := H9.out.1; omega), (grownBy_putObj' W l o').block (B + 4) (by have := (Array.getElem?_eq_some_iff.1 h).1; omega) (fun e => by cases e; omega)⟩) (Below.refl _ _) (fun _ => rfl)
   (fun (pre : List (Fin n)) W => Blk W (B + 1) 112 #[.slice NA N nc, .slice OA N oc, .int .i64 (bkSt T O t n (pre.map fun x : Fin n => x.1)).1] /\ Blk W g 3 (icells m (bkSt T O t n (pre.map fun x : Fin n => x.1)).2) /\ Blk W (B + 3) 22 #[.slice (some ⟨g, 0, none⟩) m m] /\ Below w.heap.size w W /\ B + 5 <= W.heap.size)
   (fun _ _ _ => False)
   (fun pre X Y row hs hg hr => ⟨hs.1.turn hg (fun r e => (hr r e).2), hs.2.1.turn hg (fun r e => (hr r e).2), hs.2.2.1.turn hg (fun r e => (hr r e).2), hs.2.2.2.1.grown hg (by have := HB.out; omega) (fun r e => by have := (hr r e).1; have := HB.out; omega), Nat.le_trans hs.2.2.2.2 hg.size⟩)
   (fun _ _ _ _ _ hs _ _ => hs)
   ⟨hx6, hg6, hl6, hb6, by omega⟩
   (fun x_ a' W => a' = { tmps := #[.agg #[.slice NA N nc, .slice OA N oc], .slice TA n tc, .pointer (some ⟨B, 0, none⟩), undef, .slice none 0 0, .pointer (some ⟨B + 1, 0, none⟩), .pointer (some ⟨B + 3, 0, none⟩), .int .i64 (x_.1 : Int), .int .i64 (tf x_.1), .agg #[.slice NA N nc, .slice OA N oc], .agg #[.slice NA N nc, .slice OA N oc, .int .i64 0], .slice TA n tc, .int .i64 (n : Int), .int .i64 ((n : Int) + 1), sl g m m, .slice (some ⟨g, 0, none⟩) m m, .slice TA n tc, .int .i64 (n : Int), .int .i64 z, .pointer (some ⟨g, n, none⟩), .slice TA n tc, .func (.func 88) #[] #[.pointer (some ⟨B + 4, 0, none⟩)], .int .i64 (x_.1 : Int), .int .i64 (tf x_.1), undef, undef, undef, undef, undef, undef, undef], defers := [] })
   (fun x a' _ X Y row hs hg hr => hs)
   ?assign ?body ?done ?stop
  case assign =>
   rintro l pre x W K hI hK
   gi_wp2
   exact hK _ _ ((KeepsOthers.refl _).from _) ⟨rfl, rfl⟩ hI rfl
  case body =>
   rintro l pre x a' W hl ⟨r, hr⟩ hI rfl hlt
   have hsr := bkSt_in (O := O) (n := n) HLT.out HTA.out (pre.map fun x : Fin n => x.1) (fun i hi => by obtain ⟨y, -, rfl⟩ := List.mem_map.1 hi; rw [HTN.out]; exact y.2)
   rw [HTL.out] at hsr
   obtain ⟨⟨sI, f⟩, hst⟩ : ∃ p, bkSt T O t n (pre.map fun x : Fin n => x.1) = p := ⟨_, rfl⟩
   have hst2 : bkSt T O t n ((pre ++ [x]).map fun x : Fin n => x.1) = bkStep T O t (sI, f) x.1 := by rw [List.map_append, List.map_cons, List.map_nil, bkSt_snoc, hst]
   rw [hst] at hsr hI
   obtain ⟨s, hs⟩ : ∃ s : Nat, sI = (s : Int) := ⟨sI.toNat, by have := hsr.1; dsimp only at this; omega⟩
   subst hs
   dsimp only at hsr hI
   have hsN : s < N := by have := hsr.2; omega
   obtain ⟨i, hi⟩ : ∃ i, x.1 = i := ⟨_, rfl⟩
   have hin : i < n := by rw [<- hi]; exact x.2
   have hcr := HTA.out _ (getD_memL (d := 0) (i := i) (by rw [HTN.out]; exact hin))
   rw [HTF.out] at hcr
   obtain ⟨c, hc⟩ : ∃ c : Nat, tf i = (c : Int) := ⟨(tf i).toNat, by omega⟩
   rw [hc] at hcr
   have hck : c < k := by omega
   have hstp : bkStep T O t ((s : Int), f) i = (nxI T s c, fun j => if j = i then O.getD (nxI T s c).toNat 0 else f j) := by unfold bkStep; rw [HTF.out, hc]
   rw [hi, hstp] at hst2
   rw [hi, hc]
   have hnr := lead_nx (a := (c : Int)) HLT.out (s := (s : Int)) (by omega) (by rw [HTL.out]; omega) (by omega) (by omega)
   rw [HTL.out] at hnr
   obtain ⟨s2, hs2⟩ : ∃ s2 : Nat, nxI T s c = (s2 : Int) := ⟨(nxI T s c).toNat, by omega⟩
   have hs2N : s2 < N := by omega
   rw [hs2, Int.toNat_natCast] at hst2
   obtain ⟨hI1, hI2, hI3, hI4, hI5⟩ := hI
   have hcall := bnext_any hI1 HRN.out hI4 (by have := HB.out; omega) HLT.out HTL.out hsN hck hk
   rw [hs2] at hcall
   obtain ⟨z2, hz2⟩ : ∃ z2, O.getD s2 0 = z2 := ⟨_, rfl⟩
   rw [hz2] at hst2
   have i0 : (0 : Int) <= (i : Int) := Int.natCast_nonneg _
   have i1 : (i : Int) < (m : Int) := by have := HM.out; omega
   have him : i < m := by have := HM.out; omega
   have HCALL := Lib.hid hcall; have HST2 := Lib.hid hst2; have HZ2 := Lib.hid hz2; have HI2 := Lib.hid hI2; have HI3 := Lib.hid hI3; have HI4 := Lib.hid hI4; have HI5 := Lib.hid hI5; have HXI := Lib.hid hi
   clear hsr hst hst2 hcr hc hstp hnr hs2 hcall hz2 hI1 hI2 hI3 hI4 hI5 hi hx6 hg6 hl6 hb6 hbs hr
   gi_wp2_with (refine ⟨trivial, ?_⟩; gi_at_call 84; refine (CallsIn.inRound l (callsIn_wide.2 HCALL.out)).mono ?_; rintro e w2 ⟨⟨v, rfl⟩, hx2, hf2⟩)
   have hx3 : Blk w2.drew (B + 1) 112 #[.slice NA N nc, .slice OA N oc, .int .i64 (s2 : Int)] := hx2
   have hg3 : Blk w2 g 3 (icells m f) := hf2.blk HI2.out (fun e => by have := HG.out; omega)
   have hl3 : Blk w2 (B + 3) 22 #[.slice (some ⟨g, 0, none⟩) m m] := hf2.blk HI3.out (fun e => by omega)
   have hb2 : Below w.heap.size w w2 := HI4.out.trans (hf2.below HI4.out.size (fun q hq e => by have e' : q = B + 1 := e; have := HB.out; omega))
   have hs3 : W.heap.size <= w2.heap.size := hf2.size
   have hout := bout_any hx3 HRO.out hb2.drew hs2N
   rw [HZ2.out] at hout
   have hc3 := hl3.cell 0
   simp only [List.getElem?_toArray, List.getElem?_cons_zero] at hc3
   have d0 : w2.cell? ⟨g, i, none⟩ = some (.int .i64 (f i)) := by
    have := hg3.cell i
    rw [icells_at _ him] at this
    exact this
   have d1 : w2.frozen? ⟨g, i, none⟩ = false := hg3.frozen i
   have HF2 := Lib.hid hf2; have HX3 := Lib.hid hx2; have HG3 := Lib.hid hg3; have HL3 := Lib.hid hl3; have HB3 := Lib.hid hb2; have HS3 := Lib.hid hs3; have HOUT := Lib.hid hout
   have hmix : Try.prog.follows .mixedOrders = true := by kernel_rfl
   clear hx2 hf2 hx3 hg3 hl3 hb2 hs3 hout
   gi_region_with_o (refine ⟨trivial, ?_⟩; gi_at_call 82; refine (CallsIn.inRound l (callsIn_wide.2 HOUT.out)).mono ?_; rintro e w3 ⟨rfl, q, rfl⟩)
   all_goals
    gi_wp2
    have hgr : W.grownBy w2 (some (B + 1)) := ⟨HF2.out.os, HF2.out.tape, HF2.out.output, HF2.out.size, fun j hj hne => HF2.out.block j hj (fun e => hne (by rw [e]))⟩
    have hb9 : b9 < B := H9.out.2 (by omega)
    have hWs := HI5.out
    have hgG := HG.out
    refine ⟨(KeepsFrom.of_grownBy hgr (fun j e => by cases e; omega)).trans (KeepsFrom.trans (Y := w2.drewN (1 + q)) ⟨Nat.le_refl _, fun _ _ _ h _ => h⟩ ((KeepsOthers.setCell _ _ _).from _)), ⟨?_, ?_⟩, ?_⟩
    ·exact (Below.heap_setCell _ ⟨g, i, none⟩ (.int .i64 z2) b9 (show b9 ≠ g by omega)).trans (hgr.block b9 (by omega) (fun e => by cases e; omega))
    ·exact (Below.heap_setCell _ ⟨g, i, none⟩ (.int .i64 z2) (B + 4) (show B + 4 ≠ g by omega)).trans (hgr.block (B + 4) (by omega) (fun e => by cases e))
    ·have hw : ∀ d, Blk ((w2.drewN d).setCell ⟨g, i, none⟩ (.int .i64 z2)) (B + 1) 112 #[.slice NA N nc, .slice OA N oc, .int .i64 (s2 : Int)] /\ Blk ((w2.drewN d).setCell ⟨g, i, none⟩ (.int .i64 z2)) g 3 (icells m (fun j => if j = i then z2 else f j)) /\ Blk ((w2.drewN d).setCell ⟨g, i, none⟩ (.int .i64 z2)) (B + 3) 22 #[.slice (some ⟨g, 0, none⟩) m m] /\ Below w.heap.size w ((w2.drewN d).setCell ⟨g, i, none⟩ (.int .i64 z2)) /\ B + 5 <= ((w2.drewN d).setCell ⟨g, i, none⟩ (.int .i64 z2)).heap.size := fun d =>
      ⟨Blk.far (p := ⟨g, i, none⟩) (Blk.drewN HX3.out d) hgB.1 _, iset (Blk.drewN HG3.out d) him z2, Blk.far (p := ⟨g, i, none⟩) (Blk.drewN HL3.out d) hgB.2 _, (sbel_drewN HB3.out d).setCell (p := ⟨g, i, none⟩) hgw _, by have := HS3.out; simp; omega⟩
     have hst := HST2.out
     dsimp only
     rw [hst]
     exact hw _
  case done =>
   rintro D zs W hD rfl hI hK
   obtain ⟨h1, h2⟩ := bkSt_backs T O t HTN.out n (Nat.le_refl _)
   obtain ⟨p, hp⟩ : ∃ p, bkSt T O t n ((backsZ n n).map fun x : Fin n => x.1) = p := ⟨_, rfl⟩
   rw [hp] at h2 hI
   obtain ⟨hI1, hI2, hI3, hI4, hI5⟩ := hI
   have he : icells m p.2 = icells m (fun i => O.getD (bakI T t i).toNat 0) := by
    unfold icells
    congr 1
    apply List.map_congr_left
    intro j hj
    have := List.mem_range.1 hj
    have := HM.out
    show Value.int .i64 (p.2 j) = _
    rw [h2 j (by omega) (by omega)]
   rw [he] at hI2
   have hc3 := hI3.cell 0
   simp only [List.getElem?_toArray, List.getElem?_cons_zero] at hc3
   have HI2 := Lib.hid hI2; have HI4 := Lib.hid hI4; have HI5 := Lib.hid hI5; have HK := Lib.hid hK
   clear h1 h2 hp he hI1 hI2 hI3 hI4 hI5 hK hx6 hg6 hl6 hb6 hbs
   go_wp2_with fail
   dsimp only [noPanic]
   refine ⟨by simp, .inl ⟨_, _, rfl, run_takeDeferred HK.out, ?_⟩⟩
   have hgr := grownBy_putObj' W D (.deferred none)
   have htn : ∀ r, some D = some r -> ∃ o : Obj, W.heap[r]? = some o /\ o.isCells = false := fun r e => by cases e; exact ⟨_, HK.out, rfl⟩
   refine ⟨sl g m m, by simp [results, Try.results66, go_sem, sl], g, rfl, hgw, HI2.out.turn hgr htn, HI4.out.grown hgr (by have := HB.out; have := HI5.out; omega) (fun r e => by cases e; have := HB.out; omega)⟩
  case stop =>
   rintro D c pre W _ _ h _
   exact h.elim
end Go.Proofs.Ytacgakkcpmhgmaa
namespace Go.Proofs.Ytacgakkcpmhgmaa
open Go Go.RowKit Go.Proofs
def runF (T : List (List Int)) (E : List (List V3)) (t O : List Int) (i : Nat) : V3 := (E.getD (fwdI T t i).toNat []).getD (O.getD i 0).toNat (0, 0, 0)
theorem frun_any {w : World} {vn ve : Value} {n tc m lc k : Nat} {TA LA : Option Addr} {T : List (List Int)} {E : List (List V3)} {t O : List Int} (hn : RowsI w vn T) (he : EmitR w ve E) (hT : LeadI T k) (hE : E.length = T.length) (ht : ReadsI w (.slice TA n tc) n t) (hl : ReadsI w (.slice LA m lc) m O) (hm : m = n + 1) (hta : ∀ a ∈ t, 0 <= a /\ a < (k : Int)) (ho : ∀ i, i <= n -> 0 <= O.getD i 0 /\ O.getD i 0 < ((E.getD (fwdI T t i).toNat []).length : Int)) (hn9 : n <= 10000) (hk : k <= 1000000) :
  Calls Try.prog 65 #[.agg #[vn, ve], .slice TA n tc, .slice LA m lc] w fun e w' => ∃ g, e = .returned (sl g m m) /\ w.heap.size <= g /\ Blk w' g 51 (vcells m (runF T E t O)) /\ Below w.heap.size w w' := by
  obtain ⟨NA, nc, rfl, n1, n2⟩ := hn.form
  obtain ⟨EA, ec, rfl, e1, e2⟩ := he.form
  obtain ⟨TA', tc', e3, t1, t2, t3⟩ := ht.form
  simp only [Value.slice.injEq, true_and] at e3
  obtain ⟨rfl, rfl⟩ := e3
  obtain ⟨LA', lc', e4, l1, l2, l3⟩ := hl.form
  simp only [Value.slice.injEq, true_and] at e4
  obtain ⟨rfl, rfl⟩ := e4
  obtain ⟨N, hN⟩ : ∃ N, T.length = N := ⟨_, rfl⟩
  rw [hE, hN] at e1 he ⊢
  rw [hN] at hn n1
  obtain ⟨B, hB⟩ : ∃ B, w.heap.size = B := ⟨_, rfl⟩
  obtain ⟨W0, hW0⟩ : ∃ W, w.alloc (.cells #[.slice NA N nc, .slice EA N ec] 30) = W := ⟨_, rfl⟩
  have hs0 : W0.heap.size = B + 1 := by rw [<- hW0, World.size_alloc, hB]
  have c0 : W0.cell? ⟨B, 0, none⟩ = some (.slice NA N nc) := by rw [<- hW0]; exact (sblk_new _ hB _ _).cell 0
  have c1 : W0.cell? ⟨B, 1, none⟩ = some (.slice EA N ec) := by rw [<- hW0]; exact (sblk_new _ hB _ _).cell 1
  obtain ⟨W1, hW1⟩ : ∃ W, W0.alloc (.cells #[.slice NA N nc, .slice EA N ec, .int .i64 0] 108) = W := ⟨_, rfl⟩
  have hs1 : W1.heap.size = B + 2 := by rw [<- hW1, World.size_alloc, hs0]
  have hx1 : Blk W1 (B + 1) 108 #[.slice NA N nc, .slice EA N ec, .int .i64 0] := by rw [<- hW1]; exact sblk_new _ hs0 _ _
  obtain ⟨g, hg⟩ : ∃ g, g = B + 2 := ⟨_, rfl⟩
  obtain ⟨W2, hW2⟩ : ∃ W, W1.alloc (.cells (vcells m (fun _ => (0, 0, 0))) 51) = W := ⟨_, rfl⟩
  have hx2 : Blk W2 (B + 1) 108 #[.slice NA N nc, .slice EA N ec, .int .i64 (fwdI T t 0)] := by rw [<- hW2, fwdI_zero]; exact hx1.alloc _
  have hg2 : Blk W2 g 51 (vcells m (fun _ => (0, 0, 0))) := by rw [<- hW2, hg, <- hs1]; exact Blk.new _ _ _
  have hb2 : Below w.heap.size w W2 := by
   rw [<- hW2, <- hW1, <- hW0]
   exact (((Below.refl _ _).alloc (Nat.le_refl _) _).alloc (by simp only [World.size_alloc]; omega) _).alloc (by simp only [World.size_alloc]; omega) _
  have hmk : (Instr.makeSlice 36 (.int .i64 ((n : Int) + 1)) (.int .i64 ((n : Int) + 1))).run Try.prog (W0.alloc (.cells #[.slice NA N nc, .slice EA N ec, .int .i64 0] 108)) = .ok (sl g m m) W2 := by
   rw [hW1]
   have := mkV_big m (by omega) W1
   rw [hs1, <- hg, hW2, hm, Int.natCast_add] at this
   rw [hm]
   exact this
  have HW0 := Lib.hid hW0; have HW1 := Lib.hid hW1; have HX2 := Lib.hid hx2; have HG2 := Lib.hid hg2; have HB2 := Lib.hid hb2; have HB := Lib.hid hB; have HM := Lib.hid hm; have HG := Lib.hid hg
  have HRN := Lib.hid hn; have HRE := Lib.hid he; have HT := Lib.hid ht; have HL := Lib.hid hl; have HO := Lib.hid ho; have HTA := Lib.hid hta
  have HLT := Lib.hid hT; have HEL := Lib.hid (hE.trans hN); have HTL := Lib.hid hN; have HTN := Lib.hid t3
  clear hB hm hg hW0 hW1 hW2 hx1 hx2 hg2 hb2 hn he ht hl ho hta hT hE hN t3 l3 hs0 hs1
  go_enter Try.func65, Try.ntmps65
  go_wp2_with fail
  rw [HW0.out]
  try simp only [HB.out]
  go_wp2_with fail
  rw [hmk]
  go_wp2_with fail
  clear hmk
  go_loopw [19] (fun vi wr => ∃ (i : Nat) (f : Nat -> V3), vi = .int .i64 (i : Int) /\ i <= n /\ Hid (Blk wr (B + 1) 108 #[.slice NA N nc, .slice EA N ec, .int .i64 (fwdI T t i)]) /\ Hid (Blk wr g 51 (vcells m f)) /\ Hid (∀ j, j < i -> f j = runF T E t O j) /\ Hid (Below w.heap.size w wr)) (fun vi _ => n - (intOf vi).toNat)
  case atStart => exact ⟨0, _, rfl, Nat.zero_le _, HX2, HG2, Lib.hid (fun j hj => absurd hj (Nat.not_lt_zero j)), HB2⟩
  case round =>
   clear HX2 HG2 HB2
   obtain ⟨i, f, rfl, hi, HX, HV, HJ, HBW⟩ := hrel
   have i0 : (0 : Int) <= (i : Int) := Int.natCast_nonneg _
   have hsr := fwdI_in HLT.out HTA.out i
   rw [HTL.out] at hsr
   obtain ⟨s, hs⟩ : ∃ s : Nat, fwdI T t i = (s : Int) := ⟨(fwdI T t i).toNat, by omega⟩
   have hsN : s < N := by omega
   have him : i < m := by have := HM.out; omega
   have hoi := HO.out i hi
   rw [hs, Int.toNat_natCast] at hoi
   have hvec : runF T E t O i = (E.getD s []).getD (O.getD i 0).toNat (0, 0, 0) := by unfold runF; rw [hs, Int.toNat_natCast]
   have hx := HX.out
   rw [hs] at hx
   obtain ⟨⟨p1, p2, p3⟩, hu⟩ : ∃ u, runF T E t O i = u := ⟨_, rfl⟩
   have hcall := fvec_any hx HRE.out HEL.out HL.out HBW.out hsN him hoi.1 hoi.2
   rw [<- hvec, hu] at hcall
   obtain ⟨y0, ey0⟩ := vcell_some f him (c := 0) (by decide); obtain ⟨y1, ey1⟩ := vcell_some f him (c := 1) (by decide); obtain ⟨y2, ey2⟩ := vcell_some f him (c := 2) (by decide)
   rw [Nat.add_zero] at ey0
   have m0 : (i : Int) < (m : Int) := by omega
   have HU := Lib.hid hu; have HS := Lib.hid hs; have HCALL := Lib.hid hcall; have HX1 := Lib.hid hx
   have HY0 := Lib.hid ey0; have HY1 := Lib.hid ey1; have HY2 := Lib.hid ey2
   clear hsr hoi hvec hx hcall hu hs ey0 ey1 ey2
   by_cases hlt : i < n
   ·have i1 : (i : Int) < (n : Int) := by omega
    have q1 : decide (i < n) = true := by simpa using hlt
    have q2 : decide (n <= i) = false := by simpa using hlt
    obtain ⟨g2, o2, e2', -, cl⟩ := (HT.out.below HBW.out).at i hlt
    subst e2'
    have htm := HTA.out _ (getD_memL (d := 0) (i := i) (by rw [HTN.out]; exact hlt))
    obtain ⟨c, hc⟩ : ∃ c : Nat, t.getD i 0 = (c : Int) := ⟨(t.getD i 0).toNat, by omega⟩
    rw [hc] at htm cl
    have hck : c < k := by omega
    have HNX : Hid (fwdI T t (i + 1) = nxI T s c) := Lib.hid (by rw [fwdI_step T (by rw [HTN.out]; exact hlt), HS.out, hc])
    clear htm hc
    go_wp2_with fail
    refine HCALL.out.mono ?_
    rintro e w1 ⟨rfl, hb1⟩
    have hV1 := Blk.below HV.out hb1 HV.out.lt
    have HXX := Lib.hid (Blk.below HX1.out hb1 HX1.out.lt)
    have HBX := Lib.hid (HBW.out.trans (hb1.mono HBW.out.size))
    have d0 := hV1.cell (i * 3); have d1 := hV1.cell (i * 3 + 1); have d2 := hV1.cell (i * 3 + 2)
    have z0 := hV1.frozen (i * 3); have z1 := hV1.frozen (i * 3 + 1); have z2 := hV1.frozen (i * 3 + 2)
    rw [HY0.out] at d0
    rw [HY1.out] at d1
    rw [HY2.out] at d2
    have HV2 := Lib.hid (vset hV1 him p1 p2 p3)
    clear hb1 hV1
    unfold vcV
    go_wp2_with fail
    obtain ⟨w2, hw2⟩ : ∃ w2, w2 = ((w1.setCell ⟨g, i * 3, none⟩ (.int .i64 p1)).setCell ⟨g, i * 3 + 1, none⟩ (.int .i64 p2)).setCell ⟨g, i * 3 + 2, none⟩ (.int .i64 p3) := ⟨_, rfl⟩
    rw [<- hw2]
    have hx2 : Blk w2 (B + 1) 108 #[.slice NA N nc, .slice EA N ec, .int .i64 (s : Int)] := by
     have hne : B + 1 ≠ g := by have := HG.out; omega
     rw [hw2]; exact ((HXX.out.far (p := ⟨g, i * 3, none⟩) hne _).far (p := ⟨g, i * 3 + 1, none⟩) hne _).far (p := ⟨g, i * 3 + 2, none⟩) hne _
    have hgw : w.heap.size <= g := by have := HG.out; have := HB.out; omega
    have hb2 : Below w.heap.size w w2 := by
     rw [hw2]; exact ((HBX.out.setCell (p := ⟨g, i * 3, none⟩) hgw _).setCell (p := ⟨g, i * 3 + 1, none⟩) hgw _).setCell (p := ⟨g, i * 3 + 2, none⟩) hgw _
    have hv2 := HV2.out
    rw [<- hw2] at hv2
    refine (fnext_any hx2 HRN.out hb2 (by have := HB.out; omega) HLT.out HTL.out hsN hck hk).mono ?_
    rintro e w3 ⟨⟨v, rfl⟩, hx3, hf3⟩
    have HX3 := Lib.hid hx3
    have HV3 := Lib.hid (hf3.blk hv2 (fun e => by have := HG.out; omega))
    have HB3 := Lib.hid (hb2.trans (hf3.below hb2.size (fun q hq e => by have e' : q = B + 1 := e; have := HB.out; omega)))
    clear hx2 hb2 hv2 hx3 hf3 hw2
    go_wp2_with fail
    refine ⟨⟨i + 1, _, by go_num, by omega, by rw [HNX.out]; exact HX3, HV3, Lib.hid (fun j hj => ?_), HB3⟩, by simp [intOf]; omega⟩
    by_cases e : j = i
    ·rw [e, if_pos rfl, HU.out]
    ·rw [if_neg e]; exact HJ.out j (by omega)
   ·obtain rfl : n = i := by omega
    go_wp2_with fail
    refine HCALL.out.mono ?_
    rintro e w1 ⟨rfl, hb1⟩
    have hV1 := Blk.below HV.out hb1 HV.out.lt
    have HBX := Lib.hid (HBW.out.trans (hb1.mono HBW.out.size))
    have d0 := hV1.cell (n * 3); have d1 := hV1.cell (n * 3 + 1); have d2 := hV1.cell (n * 3 + 2)
    have z0 := hV1.frozen (n * 3); have z1 := hV1.frozen (n * 3 + 1); have z2 := hV1.frozen (n * 3 + 2)
    rw [HY0.out] at d0
    rw [HY1.out] at d1
    rw [HY2.out] at d2
    have HV2 := Lib.hid (vset hV1 him p1 p2 p3)
    clear hb1 hV1
    unfold vcV
    go_wp2_with fail
    go_ret
    have hgw : w.heap.size <= g := by have := HG.out; have := HB.out; omega
    refine ⟨g, rfl, hgw, ?_, ((HBX.out.setCell (p := ⟨g, n * 3, none⟩) hgw _).setCell (p := ⟨g, n * 3 + 1, none⟩) hgw _).setCell (p := ⟨g, n * 3 + 2, none⟩) hgw _⟩
    have e : vcells m (runF T E t O) = vcells m (fun j => if j = n then (p1, p2, p3) else f j) := by
     unfold vcells
     congr 2
     apply List.map_congr_left
     intro j hj
     have := List.mem_range.1 hj
     have := HM.out
     by_cases e : j = n
     ·rw [e, if_pos rfl, HU.out]
     ·rw [if_neg e]; exact (HJ.out j (by omega)).symm
    rw [e]
    exact HV2.out
end Go.Proofs.Ytacgakkcpmhgmaa
